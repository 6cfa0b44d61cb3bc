/- Layer 13: a clock beside one. -/
import Derived.Test.YtlbemgkdpagoiaaQuaP
namespace Go.Proofs.Ytlbemgkdpagoiaa
set_option linter.unusedSimpArgs false
set_option linter.unusedVariables false
open Go.RowKit

/-- One with a clock beside it. -/
def QC (w0 W : World) (q base : Nat) (v : Value) (l : List Hd) (c : Nat) (t : Int) : Prop :=
  Qs W q base 100 (sumL l) v l ∧ Clk W c t ∧ (¬ c = q ∧ ¬ v.ownBlock = some c) ∧ Ext w0 W ∧ w0.heap.size ≤ base ∧ w0.heap.size ≤ c
theorem Clk.only {S : Nat → Prop} {w w' : World} {c : Nat} {t : Int} (h : Clk w c t) (x : Only S w w') (hn : ¬ S c) : Clk w' c t :=
  ⟨Nat.lt_of_lt_of_le h.1 x.size, (x.cells c 0 h.1 hn).trans h.2.1, (x.frozens c 0 h.1 hn).trans h.2.2⟩
theorem QC.ext {w0 W w' : World} {q base : Nat} {v : Value} {l : List Hd} {c : Nat} {t : Int} (h : QC w0 W q base v l c t) (x : Ext W w') : QC w0 w' q base v l c t :=
  ⟨h.1.ext x, h.2.1.only (Only.ofExt (S := fun _ => False) x) id, h.2.2.1, h.2.2.2.1.trans x, h.2.2.2.2⟩
theorem QC.set {w0 W : World} {q base : Nat} {v : Value} {l : List Hd} {c : Nat} {t : Int} (h : QC w0 W q base v l c t) (u : Int) : QC w0 (W.setCell ⟨c, 0, none⟩ (.int .i64 u)) q base v l c u := by
  have x : Only (fun i => i = c) W (W.setCell ⟨c, 0, none⟩ (.int .i64 u)) := Only.setCell (S := fun i => i = c) (Only.refl _ _) (.inl rfl) _
  have h1 := h.2.1.1
  have h2 := h.2.1.2.1
  have h3 := h.2.1.2.2
  exact ⟨h.1.only x (fun e => h.2.2.1.1 e.symm) (fun g hg e => h.2.2.1.2 (e ▸ hg)), ⟨Nat.lt_of_lt_of_le h1 x.size, by simp [go_sem, h2], by simp [go_sem, h3]⟩, h.2.2.1, Ext.only h.2.2.2.1 x (by rintro i rfl; exact h.2.2.2.2.2), h.2.2.2.2⟩
theorem qcNow (w0 : World) (q base : Nat) (v : Value) (l : List Hd) (c : Nat) (t : Int) (W : World) (h : QC w0 W q base v l c t) (t0 : 0 ≤ t) (t1 : t ≤ 100000) : Calls Try.prog 26 #[.pointer (some ⟨c, 0, none⟩)] W fun e w' => e = .returned (.int .i64 t) ∧ w' = W := by
  exact (now c t W h.2.1 t0 t1).mono fun e w' hh => ⟨hh.1, hh.2.symm⟩
theorem qcBegin (w0 : World) (q base : Nat) (v : Value) (l : List Hd) (c : Nat) (t : Int) (W : World) (h : QC w0 W q base v l c t) (t0 : 0 ≤ t) (t1 : t ≤ 100000) (u : Int) (hu : beginT t = u) (x : Bool) (hx : (!oddB t) = x) : Calls Try.prog 27 #[.pointer (some ⟨c, 0, none⟩)] W fun e w' => e = .returned (.bool x) ∧ Hid (QC w0 w' q base v l c u) := by
  subst hu hx
  refine (begin_ c t W h.2.1 t0 t1).mono ?_
  rintro e w' ⟨rfl, d, rfl⟩
  exact ⟨rfl, hid ((h.set _).ext (Ext.grow (Ext.refl _) d))⟩
theorem qcEnd (w0 : World) (q base : Nat) (v : Value) (l : List Hd) (c : Nat) (t : Int) (W : World) (h : QC w0 W q base v l c t) (t0 : 0 ≤ t) (t1 : t ≤ 100000) (u : Int) (hu : endT t = u) (x : Bool) (hx : (oddB t) = x) : Calls Try.prog 28 #[.pointer (some ⟨c, 0, none⟩)] W fun e w' => e = .returned (.bool x) ∧ Hid (QC w0 w' q base v l c u) := by
  subst hu hx
  refine (end_ c t W h.2.1 t0 t1).mono ?_
  rintro e w' ⟨rfl, d, rfl⟩
  exact ⟨rfl, hid ((h.set _).ext (Ext.grow (Ext.refl _) d))⟩
theorem qcPut (w0 : World) (q base : Nat) (v : Value) (l : List Hd) (c : Nat) (t : Int) (W : World) (h : QC w0 W q base v l c t) (hg : goodL l) (hl : l.length ≤ 1000) (z : Hd) (hok : okQ l z = true) : Calls Try.prog 14 #[.pointer (some ⟨q, 0, none⟩), .agg #[.int .i64 z.at_, .int .i64 z.n, .int .i64 z.time]] W fun e w' => ∃ v', e = .returned (.bool true) ∧ Hid (QC w0 w' q base v' (l ++ [z]) c t) := by
  refine (qputT q base 100 v l W h.1 hg hl z hok).mono ?_
  rintro e w' ⟨v', rfl, hq, ho, hv⟩
  refine ⟨v', rfl, hid ⟨hq.out, h.2.1.only ho ?_, ⟨h.2.2.1.1, fun e => ?_⟩, h.1.extOf h.2.2.2.1 h.2.2.2.2.1 ho, h.2.2.2.2⟩⟩
  · rintro (e | e)
    · exact h.2.2.1.1 e
    · exact h.2.2.1.2 e
  · rcases hv c e with e | e
    · exact h.2.2.1.2 e
    · have := h.2.1.1; omega
theorem qcDue (w0 : World) (q base : Nat) (v : Value) (l : List Hd) (c : Nat) (t : Int) (W : World) (h : QC w0 W q base v l c t) (hg : goodL l) (hl : l.length ≤ 1000) (now : Int) (tk rest : List Hd) (e1 : l.takeWhile (dueB now) = tk) (e2 : l.drop tk.length = rest) : Calls Try.prog 12 #[.pointer (some ⟨q, 0, none⟩), .int .i64 now] W fun e w' => ∃ A ca v', e = .returned (.slice A tk.length ca) ∧ Hid (QC w0 w' q base v' rest c t) := by
  refine (qdueT q base 100 v l W h.1 hg hl now tk rest e1 e2).mono ?_
  rintro e w' ⟨A, ca, v', rfl, hq, hr, ho, hv, _⟩
  exact ⟨A, ca, v', rfl, hid ⟨hq.out, h.2.1.only ho h.2.2.1.1, ⟨h.2.2.1.1, fun e => h.2.2.1.2 (hv c e)⟩, h.1.extOf h.2.2.2.1 h.2.2.2.2.1 ho.tch, h.2.2.2.2⟩⟩
/-- Where one stands in the play of a clock. -/
def QClk (a : Int) (k : Nat) (t : Int) (P B O : Bool) (l : List Hd) : Prop :=
  (P = false ∧ B = false ∧ O = false ∧ l = [] ∧ (k : Int) ≤ a) ∨
  (∃ T, P = true ∧ B = false ∧ O = false ∧ l = [Hd.mk 16 16 T] ∧ a < k ∧ (0 ≤ T ∧ T ≤ 10000) ∧ (t = T ∨ (T % 2 = 1 ∧ t = T + 1))) ∨
  (∃ T, P = true ∧ B = true ∧ O = false ∧ l = [Hd.mk 16 16 T] ∧ a < k ∧ (0 ≤ T ∧ T ≤ 10000) ∧ t + 1 = T + 2 + T % 2) ∨
  (P = true ∧ B = true ∧ O = true ∧ l = [] ∧ a < k)
theorem whenOf {T : Int} (h : 0 ≤ T ∧ T ≤ 10000) : whenT T = T + 2 + T % 2 := by unfold whenT; rw [clampT_of h.1 (by omega)]
theorem tw1_no {now T : Int} (h : 0 ≤ T ∧ T ≤ 10000) (hn : now < T + 2 + T % 2) : [Hd.mk 16 16 T].takeWhile (dueB now) = [] := by
  have : dueB now (Hd.mk 16 16 T) = false := by unfold dueB; exact decide_eq_false (by show ¬ whenT T ≤ now; rw [whenOf h]; omega)
  simp [List.takeWhile, this]
theorem tw1_yes {now T : Int} (h : 0 ≤ T ∧ T ≤ 10000) (hn : now = T + 2 + T % 2) : [Hd.mk 16 16 T].takeWhile (dueB now) = [Hd.mk 16 16 T] := by
  have : dueB now (Hd.mk 16 16 T) = true := by unfold dueB; exact decide_eq_true (by show whenT T ≤ now; rw [whenOf h]; omega)
  simp [List.takeWhile, this]
theorem goodOne {T : Int} (h : 0 ≤ T ∧ T ≤ 10000) : goodL [Hd.mk 16 16 T] := fun x hx => by
  obtain rfl : x = Hd.mk 16 16 T := by simpa using hx
  exact ⟨⟨(by decide : (0 : Int) ≤ 16), (by decide : (16 : Int) ≤ 16777216)⟩, h.1, Int.le_trans h.2 (by decide)⟩
theorem okOne {T : Int} (h : 0 ≤ T ∧ T ≤ 10000) : okQ [] (Hd.mk 16 16 T) = true := by
  unfold okQ
  rw [lastT_nil]
  simp only [Bool.and_eq_true, Bool.not_eq_true', decide_eq_false_iff_not, decide_eq_true_eq]
  omega

end Go.Proofs.Ytlbemgkdpagoiaa
