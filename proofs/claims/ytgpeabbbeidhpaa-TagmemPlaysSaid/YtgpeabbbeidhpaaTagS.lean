/- Layer 7: the document's memory. -/
import Derived.Test.YtgpeabbbeidhpaaTagR
namespace Go.Proofs.Ytgpeabbbeidhpaa
set_option linter.unusedSimpArgs false
set_option linter.unusedVariables false
open Go.RowKit

/-- The document's memory: its block, its bytes', tags' and pages' blocks. -/
structure Rm (w : World) (r gb gt gp n nb nt : Nat) (B : Nat → Int) (T D : Nat → Bool) : Prop where
  lr : r < w.heap.size
  lb : gb < w.heap.size
  lt : gt < w.heap.size
  lp : gp < w.heap.size
  ne : ¬ r = gb ∧ ¬ r = gt ∧ ¬ r = gp ∧ ¬ gb = gt ∧ ¬ gb = gp ∧ ¬ gt = gp
  c0 : w.cell? ⟨r, 0, none⟩ = some (.slice (some ⟨gb, 0, none⟩) nb nb)
  c1 : w.cell? ⟨r, 1, none⟩ = some (.slice (some ⟨gt, 0, none⟩) nt nt)
  c2 : w.cell? ⟨r, 2, none⟩ = some (.slice (some ⟨gp, 0, none⟩) n n)
  by_ : ∀ a, a < nb → w.cell? ⟨gb, a, none⟩ = some (.int .u8 (B a)) ∧ w.frozen? ⟨gb, a, none⟩ = false
  tg : ∀ t, t < nt → w.cell? ⟨gt, t, none⟩ = some (.bool (T t)) ∧ w.frozen? ⟨gt, t, none⟩ = false
  dt : ∀ p, p < n → w.cell? ⟨gp, p, none⟩ = some (.bool (D p)) ∧ w.frozen? ⟨gp, p, none⟩ = false
  bd : 1 ≤ n ∧ n ≤ 65536
  eb : nb = 256 * n
  et : nt = 16 * n
  rg : ∀ a, 0 ≤ B a ∧ B a ≤ 255
def Tri (gb gt gp i : Nat) : Prop := i = gb ∨ i = gt ∨ i = gp
section
variable {S : Nat → Prop} {w w' : World} {r gb gt gp n nb nt : Nat} {B : Nat → Int} {T D : Nat → Bool}
theorem Rm.only (h : Rm w r gb gt gp n nb nt B T D) (x : Only S w w') (h0 : ¬ S r) (h1 : ¬ S gb) (h2 : ¬ S gt) (h3 : ¬ S gp) : Rm w' r gb gt gp n nb nt B T D :=
  ⟨Nat.lt_of_lt_of_le h.lr x.size, Nat.lt_of_lt_of_le h.lb x.size, Nat.lt_of_lt_of_le h.lt x.size, Nat.lt_of_lt_of_le h.lp x.size, h.ne,
    (x.cells r _ h.lr h0).trans h.c0, (x.cells r _ h.lr h0).trans h.c1, (x.cells r _ h.lr h0).trans h.c2,
    fun a ha => ⟨(x.cells gb _ h.lb h1).trans (h.by_ a ha).1, (x.frozens gb _ h.lb h1).trans (h.by_ a ha).2⟩,
    fun a ha => ⟨(x.cells gt _ h.lt h2).trans (h.tg a ha).1, (x.frozens gt _ h.lt h2).trans (h.tg a ha).2⟩,
    fun a ha => ⟨(x.cells gp _ h.lp h3).trans (h.dt a ha).1, (x.frozens gp _ h.lp h3).trans (h.dt a ha).2⟩, h.bd, h.eb, h.et, h.rg⟩
theorem Rm.ext (h : Rm w r gb gt gp n nb nt B T D) (x : Ext w w') : Rm w' r gb gt gp n nb nt B T D := h.only (Only.ofExt (S := fun _ => False) x) id id id id
theorem upd1_cell {q m : Nat} {α : Type} {f : Nat → α} {V : α → Value} (h : ∀ i, i < m → w.cell? ⟨q, i, none⟩ = some (V (f i)) ∧ w.frozen? ⟨q, i, none⟩ = false) {i : Nat} (hi : i < m) (v : α) :
    ∀ j, j < m → (w.setCell ⟨q, i, none⟩ (V v)).cell? ⟨q, j, none⟩ = some (V (upd1 f i v j)) ∧ (w.setCell ⟨q, i, none⟩ (V v)).frozen? ⟨q, j, none⟩ = false := fun j hj => by
  refine ⟨?_, by rw [World.frozen?_setCell]; exact (h j hj).2⟩
  by_cases e : j = i
  · subst e
    rw [cell_setCell_self, (h j hj).1, upd1_self]
    rfl
  · rw [cell_setCell_far _ _ _ _ _ _ (by omega), (h j hj).1, upd1_ne _ _ e]
theorem far_cell {q m q' i : Nat} {v : Value} {C : Nat → Value} (h : ∀ i, i < m → w.cell? ⟨q, i, none⟩ = some (C i) ∧ w.frozen? ⟨q, i, none⟩ = false) (hq : ¬ q = q') :
    ∀ j, j < m → (w.setCell ⟨q', i, none⟩ v).cell? ⟨q, j, none⟩ = some (C j) ∧ (w.setCell ⟨q', i, none⟩ v).frozen? ⟨q, j, none⟩ = false := fun j hj =>
  ⟨by rw [cell_setCell_far _ _ _ _ _ _ (fun e => hq e.1)]; exact (h j hj).1, by rw [World.frozen?_setCell]; exact (h j hj).2⟩
theorem Rm.setB (h : Rm w r gb gt gp n nb nt B T D) {a : Nat} (ha : a < nb) {v : Int} (hv : 0 ≤ v ∧ v ≤ 255) : Rm (w.setCell ⟨gb, a, none⟩ (.int .u8 v)) r gb gt gp n nb nt (upd1 B a v) T D := by
  obtain ⟨e1, e2, e3, e4, e5, e6⟩ := h.ne
  refine ⟨by rw [World.size_setCell]; exact h.lr, by rw [World.size_setCell]; exact h.lb, by rw [World.size_setCell]; exact h.lt, by rw [World.size_setCell]; exact h.lp, h.ne, ?_, ?_, ?_, upd1_cell (V := Value.int .u8) h.by_ ha v, far_cell h.tg (fun e => e4 e.symm), far_cell h.dt (fun e => e5 e.symm), h.bd, h.eb, h.et, fun y => ?_⟩
  · rw [cell_setCell_far _ _ _ _ _ _ (fun e => e1 e.1)]; exact h.c0
  · rw [cell_setCell_far _ _ _ _ _ _ (fun e => e1 e.1)]; exact h.c1
  · rw [cell_setCell_far _ _ _ _ _ _ (fun e => e1 e.1)]; exact h.c2
  · unfold upd1
    split
    · exact hv
    · exact h.rg y
theorem Rm.setT (h : Rm w r gb gt gp n nb nt B T D) {a : Nat} (ha : a < nt) (v : Bool) : Rm (w.setCell ⟨gt, a, none⟩ (.bool v)) r gb gt gp n nb nt B (upd1 T a v) D := by
  obtain ⟨e1, e2, e3, e4, e5, e6⟩ := h.ne
  refine ⟨by rw [World.size_setCell]; exact h.lr, by rw [World.size_setCell]; exact h.lb, by rw [World.size_setCell]; exact h.lt, by rw [World.size_setCell]; exact h.lp, h.ne, ?_, ?_, ?_, far_cell h.by_ e4, upd1_cell (V := Value.bool) h.tg ha v, far_cell h.dt (fun e => e6 e.symm), h.bd, h.eb, h.et, h.rg⟩
  · rw [cell_setCell_far _ _ _ _ _ _ (fun e => e2 e.1)]; exact h.c0
  · rw [cell_setCell_far _ _ _ _ _ _ (fun e => e2 e.1)]; exact h.c1
  · rw [cell_setCell_far _ _ _ _ _ _ (fun e => e2 e.1)]; exact h.c2
theorem Rm.setD (h : Rm w r gb gt gp n nb nt B T D) {a : Nat} (ha : a < n) (v : Bool) : Rm (w.setCell ⟨gp, a, none⟩ (.bool v)) r gb gt gp n nb nt B T (upd1 D a v) := by
  obtain ⟨e1, e2, e3, e4, e5, e6⟩ := h.ne
  refine ⟨by rw [World.size_setCell]; exact h.lr, by rw [World.size_setCell]; exact h.lb, by rw [World.size_setCell]; exact h.lt, by rw [World.size_setCell]; exact h.lp, h.ne, ?_, ?_, ?_, far_cell h.by_ e5, far_cell h.tg e6, upd1_cell (V := Value.bool) h.dt ha v, h.bd, h.eb, h.et, h.rg⟩
  · rw [cell_setCell_far _ _ _ _ _ _ (fun e => e3 e.1)]; exact h.c0
  · rw [cell_setCell_far _ _ _ _ _ _ (fun e => e3 e.1)]; exact h.c1
  · rw [cell_setCell_far _ _ _ _ _ _ (fun e => e3 e.1)]; exact h.c2
end
set_option maxRecDepth 100000 in
set_option maxHeartbeats 4000000 in
theorem rmsize_ (r gb gt gp n nb nt : Nat) (B : Nat → Int) (T D : Nat → Bool) (w : World) (h : Rm w r gb gt gp n nb nt B T D) : Calls Try.prog 32 #[.pointer (some ⟨r, 0, none⟩)] w fun e w' => e = .returned (.int .i64 (nb : Int)) ∧ w = w' := by
  have HH := hid h
  have c0 := h.c0
  have hlr := h.lr
  have hlb := h.lb
  have hlt := h.lt
  have hlp := h.lp
  have hbd := h.bd
  have heb : nb ≤ 16777216 := by have := h.eb; omega
  have het : nt ≤ 1048576 := by have := h.et; omega
  obtain ⟨e1, e2, e3, e4, e5, e6⟩ := h.ne
  clear h
  go_enter Try.func32, Try.ntmps32
  go_wp2
  go_ret
  exact ⟨rfl, rfl⟩
set_option maxRecDepth 100000 in
set_option maxHeartbeats 4000000 in
theorem rmplace_yes (r gb gt gp n nb nt : Nat) (B : Nat → Int) (T D : Nat → Bool) (w : World) (h : Rm w r gb gt gp n nb nt B T D) (x : Int) (hc : placeP n x) : Calls Try.prog 39 #[.pointer (some ⟨r, 0, none⟩), .int .i64 x] w fun e w' => e = .returned (.bool true) ∧ w = w' := by
  have HH := hid h
  have c0 := h.c0
  have hlr := h.lr
  have hlb := h.lb
  have hlt := h.lt
  have hlp := h.lp
  have hbd := h.bd
  have heb : nb ≤ 16777216 := by have := h.eb; omega
  have het : nt ≤ 1048576 := by have := h.et; omega
  obtain ⟨e1, e2, e3, e4, e5, e6⟩ := h.ne
  have h0 : (0 : Int) ≤ x := hc.2.1
  have h1 : x < (nb : Int) := by have := hc.2.2; have := h.eb; have := hc.1; omega
  have h2 : (x % 16 == 0) = true := by rw [beq_iff_eq]; exact hc.1
  have h3 : (x.tmod 16 == 0) = true := by rw [Int.tmod_eq_emod_of_nonneg h0]; exact h2
  clear hc h
  go_enter Try.func39, Try.ntmps39
  go_wp2
  go_ret
  exact ⟨rfl, rfl⟩
set_option maxRecDepth 100000 in
set_option maxHeartbeats 4000000 in
theorem rmplace_no (r gb gt gp n nb nt : Nat) (B : Nat → Int) (T D : Nat → Bool) (w : World) (h : Rm w r gb gt gp n nb nt B T D) (x : Int) (hc : ¬ placeP n x) : Calls Try.prog 39 #[.pointer (some ⟨r, 0, none⟩), .int .i64 x] w fun e w' => e = .returned (.bool false) ∧ w = w' := by
  have HH := hid h
  have c0 := h.c0
  have hlr := h.lr
  have hlb := h.lb
  have hlt := h.lt
  have hlp := h.lp
  have hbd := h.bd
  have heb : nb ≤ 16777216 := by have := h.eb; omega
  have het : nt ≤ 1048576 := by have := h.et; omega
  obtain ⟨e1, e2, e3, e4, e5, e6⟩ := h.ne
  have hebq := HH.out.eb
  by_cases h0 : (0 : Int) ≤ x
  · by_cases h1 : x < (nb : Int)
    · have h2 : (x % 16 == 0) = false := by rw [beq_eq_false_iff_ne]; exact fun e => hc ⟨e, h0, by omega⟩
      have h3 : (x.tmod 16 == 0) = false := by rw [Int.tmod_eq_emod_of_nonneg h0]; exact h2
      clear hc h hebq
      go_enter Try.func39, Try.ntmps39
      go_wp2
      go_ret
      exact ⟨rfl, rfl⟩
    · clear hc h hebq
      go_enter Try.func39, Try.ntmps39
      go_wp2
      go_ret
      exact ⟨rfl, rfl⟩
  · clear hc h hebq
    go_enter Try.func39, Try.ntmps39
    go_wp2
    go_ret
    exact ⟨rfl, rfl⟩
set_option maxRecDepth 100000 in
set_option maxHeartbeats 4000000 in
theorem rmtag_yes (r gb gt gp n nb nt : Nat) (B : Nat → Int) (T D : Nat → Bool) (w : World) (h : Rm w r gb gt gp n nb nt B T D) (x : Int) (t : Nat) (ht : t < 16 * n) (hx : x = 16 * (t : Int)) : Calls Try.prog 30 #[.pointer (some ⟨r, 0, none⟩), .int .i64 x] w fun e w' => e = .returned (.bool (T t)) ∧ w = w' := by
  have HH := hid h
  have c1 := h.c1
  have hlr := h.lr
  have hlb := h.lb
  have hlt := h.lt
  have hlp := h.lp
  have hbd := h.bd
  have heb : nb ≤ 16777216 := by have := h.eb; omega
  have het : nt ≤ 1048576 := by have := h.et; omega
  obtain ⟨e1, e2, e3, e4, e5, e6⟩ := h.ne
  have hpl : Hid (placeP n x) := hid ⟨by omega, by omega, by omega⟩
  have h0 : (0 : Int) ≤ x := by omega
  have hxb : x ≤ 16777216 := by omega
  have hq : x / 16 = (t : Int) := by omega
  have htn : t < nt := by have := HH.out.et; omega
  have hti : (t : Int) < (nt : Int) := by omega
  have ht0 : (0 : Int) ≤ (t : Int) := by omega
  have htg := (h.tg t htn).1
  generalize T t = tv at htg ⊢
  clear h hx ht
  go_enter Try.func30, Try.ntmps30
  go_wp2_with (go_at_call 39; refine (rmplace_yes r gb gt gp n nb nt B T D _ HH.out x hpl.out).mono ?_; rintro e w1 ⟨rfl, rfl⟩)
  go_ret
  exact ⟨rfl, rfl⟩
set_option maxRecDepth 100000 in
set_option maxHeartbeats 4000000 in
theorem rmtag_no (r gb gt gp n nb nt : Nat) (B : Nat → Int) (T D : Nat → Bool) (w : World) (h : Rm w r gb gt gp n nb nt B T D) (x : Int) (hc : ¬ placeP n x) : Calls Try.prog 30 #[.pointer (some ⟨r, 0, none⟩), .int .i64 x] w fun e w' => e = .returned (.bool false) ∧ w = w' := by
  have HH := hid h
  have c1 := h.c1
  have hlr := h.lr
  have hlb := h.lb
  have hlt := h.lt
  have hlp := h.lp
  have hbd := h.bd
  have heb : nb ≤ 16777216 := by have := h.eb; omega
  have het : nt ≤ 1048576 := by have := h.et; omega
  obtain ⟨e1, e2, e3, e4, e5, e6⟩ := h.ne
  have HC := hid hc
  clear hc h
  go_enter Try.func30, Try.ntmps30
  go_wp2_with (go_at_call 39; refine (rmplace_no r gb gt gp n nb nt B T D _ HH.out x HC.out).mono ?_; rintro e w1 ⟨rfl, rfl⟩)
  go_ret
  exact ⟨rfl, rfl⟩
set_option maxRecDepth 100000 in
set_option maxHeartbeats 4000000 in
theorem rmstrip_yes (r gb gt gp n nb nt : Nat) (B : Nat → Int) (T D : Nat → Bool) (w : World) (h : Rm w r gb gt gp n nb nt B T D) (x : Int) (t : Nat) (ht : t < 16 * n) (hx : x = 16 * (t : Int)) (htv : T t = true) : Calls Try.prog 15 #[.pointer (some ⟨r, 0, none⟩), .int .i64 x] w fun e w' => e = .returned (.bool true) ∧ Hid (Rm w' r gb gt gp n nb nt B (upd1 T t false) D) ∧ Hid (Only (Tri gb gt gp) w w') := by
  have HH := hid h
  have c1 := h.c1
  have hlr := h.lr
  have hlb := h.lb
  have hlt := h.lt
  have hlp := h.lp
  have hbd := h.bd
  have heb : nb ≤ 16777216 := by have := h.eb; omega
  have het : nt ≤ 1048576 := by have := h.et; omega
  obtain ⟨e1, e2, e3, e4, e5, e6⟩ := h.ne
  have hpl : Hid (placeP n x) := hid ⟨by omega, by omega, by omega⟩
  have h0 : (0 : Int) ≤ x := by omega
  have hxb : x ≤ 16777216 := by omega
  have hq : x / 16 = (t : Int) := by omega
  have htn : t < nt := by have := HH.out.et; omega
  have hti : (t : Int) < (nt : Int) := by omega
  have ht0 : (0 : Int) ≤ (t : Int) := by omega
  have HT := hid ht
  have HX := hid hx
  have HTV := hid htv
  have htg := (h.tg t htn).1
  have hfz := (h.tg t htn).2
  have HM := hid (h.setT htn false)
  have HO : Hid (Only (Tri gb gt gp) w (w.setCell ⟨gt, t, none⟩ (.bool false))) := hid (Only.setCell (Only.refl _ _) (.inl (.inr (.inl rfl))) _)
  rw [htv] at htg
  clear h hx ht htv
  go_enter Try.func15, Try.ntmps15
  go_wp2_with (go_at_call 30; refine (rmtag_yes r gb gt gp n nb nt B T D _ HH.out x t HT.out HX.out).mono ?_; rw [HTV.out]; rintro e w1 ⟨rfl, rfl⟩)
  go_ret
  exact ⟨rfl, HM, HO⟩
set_option maxRecDepth 100000 in
set_option maxHeartbeats 4000000 in
theorem rmstrip_no1 (r gb gt gp n nb nt : Nat) (B : Nat → Int) (T D : Nat → Bool) (w : World) (h : Rm w r gb gt gp n nb nt B T D) (x : Int) (t : Nat) (ht : t < 16 * n) (hx : x = 16 * (t : Int)) (htv : T t = false) : Calls Try.prog 15 #[.pointer (some ⟨r, 0, none⟩), .int .i64 x] w fun e w' => e = .returned (.bool false) ∧ w = w' := by
  have HH := hid h
  have c1 := h.c1
  have hlr := h.lr
  have hlb := h.lb
  have hlt := h.lt
  have hlp := h.lp
  have hbd := h.bd
  have heb : nb ≤ 16777216 := by have := h.eb; omega
  have het : nt ≤ 1048576 := by have := h.et; omega
  obtain ⟨e1, e2, e3, e4, e5, e6⟩ := h.ne
  have hpl : Hid (placeP n x) := hid ⟨by omega, by omega, by omega⟩
  have h0 : (0 : Int) ≤ x := by omega
  have hxb : x ≤ 16777216 := by omega
  have hq : x / 16 = (t : Int) := by omega
  have htn : t < nt := by have := HH.out.et; omega
  have hti : (t : Int) < (nt : Int) := by omega
  have ht0 : (0 : Int) ≤ (t : Int) := by omega
  have HT := hid ht
  have HX := hid hx
  have HTV := hid htv
  clear h hx ht htv
  go_enter Try.func15, Try.ntmps15
  go_wp2_with (go_at_call 30; refine (rmtag_yes r gb gt gp n nb nt B T D _ HH.out x t HT.out HX.out).mono ?_; rw [HTV.out]; rintro e w1 ⟨rfl, rfl⟩)
  go_ret
  exact ⟨rfl, rfl⟩
set_option maxRecDepth 100000 in
set_option maxHeartbeats 4000000 in
theorem rmstrip_no2 (r gb gt gp n nb nt : Nat) (B : Nat → Int) (T D : Nat → Bool) (w : World) (h : Rm w r gb gt gp n nb nt B T D) (x : Int) (hc : ¬ placeP n x) : Calls Try.prog 15 #[.pointer (some ⟨r, 0, none⟩), .int .i64 x] w fun e w' => e = .returned (.bool false) ∧ w = w' := by
  have HH := hid h
  have c1 := h.c1
  have hlr := h.lr
  have hlb := h.lb
  have hlt := h.lt
  have hlp := h.lp
  have hbd := h.bd
  have heb : nb ≤ 16777216 := by have := h.eb; omega
  have het : nt ≤ 1048576 := by have := h.et; omega
  obtain ⟨e1, e2, e3, e4, e5, e6⟩ := h.ne
  have HC := hid hc
  clear hc h
  go_enter Try.func15, Try.ntmps15
  go_wp2_with (go_at_call 30; refine (rmtag_no r gb gt gp n nb nt B T D _ HH.out x HC.out).mono ?_; rintro e w1 ⟨rfl, rfl⟩)
  go_ret
  exact ⟨rfl, rfl⟩
set_option maxRecDepth 100000 in
set_option maxHeartbeats 4000000 in
theorem rmload_no (r gb gt gp n nb nt : Nat) (B : Nat → Int) (T D : Nat → Bool) (w : World) (h : Rm w r gb gt gp n nb nt B T D) (x k : Int) (hc : ¬ spanP n x k) (hk : -9223372036854775808 ≤ k ∧ k ≤ 9223372036854775807) : Calls Try.prog 19 #[.pointer (some ⟨r, 0, none⟩), .int .i64 x, .int .i64 k] w fun e w' => e = .returned (.tuple #[.slice none 0 0, .bool false]) ∧ w = w' := by
  have HH := hid h
  have c0 := h.c0
  have hlr := h.lr
  have hlb := h.lb
  have hlt := h.lt
  have hlp := h.lp
  have hbd := h.bd
  have heb : nb ≤ 16777216 := by have := h.eb; omega
  have het : nt ≤ 1048576 := by have := h.et; omega
  obtain ⟨e1, e2, e3, e4, e5, e6⟩ := h.ne
  have hebq := HH.out.eb
  obtain ⟨hk1, hk2⟩ := hk
  by_cases h0 : x < 0
  · clear hc h hebq
    go_enter Try.func19, Try.ntmps19
    go_wp2
    exact bodyPost_ret (v := .tuple #[.slice none 0 0, .bool false]) (by simp [results, Try.results19, go_sem]) rfl ⟨rfl, rfl⟩
  · by_cases h1 : k < 0
    · clear hc h hebq
      go_enter Try.func19, Try.ntmps19
      go_wp2
      exact bodyPost_ret (v := .tuple #[.slice none 0 0, .bool false]) (by simp [results, Try.results19, go_sem]) rfl ⟨rfl, rfl⟩
    · by_cases h2 : (nb : Int) < x
      · clear hc h hebq
        go_enter Try.func19, Try.ntmps19
        go_wp2
        exact bodyPost_ret (v := .tuple #[.slice none 0 0, .bool false]) (by simp [results, Try.results19, go_sem]) rfl ⟨rfl, rfl⟩
      · have h3 : (nb : Int) - x < k := by
          by_cases h3 : (nb : Int) - x < k
          · exact h3
          · exact absurd ⟨by omega, by omega, by omega, by omega⟩ hc
        clear hc h hebq
        go_enter Try.func19, Try.ntmps19
        go_wp2
        exact bodyPost_ret (v := .tuple #[.slice none 0 0, .bool false]) (by simp [results, Try.results19, go_sem]) rfl ⟨rfl, rfl⟩
def RLdIs (w : World) (B : Nat → Int) (a m : Nat) (e : Ending) (w' : World) : Prop := ∃ A ca, e = .returned (.tuple #[.slice A m ca, .bool true]) ∧ Hid (RdB w' A (bytesAt B a m)) ∧ Hid (Ext w w') ∧ Hid (A = none ∧ m = 0 ∨ ∃ g, A = some ⟨g, 0, none⟩ ∧ w.heap.size ≤ g)
theorem OwnB.rd3 {w : World} {base : Nat} {v : Value} {l : List Int} (h : OwnB w base v l) : ∃ A ca, v = .slice A l.length ca ∧ RdB w A l ∧ (A = none ∧ l.length = 0 ∨ ∃ g, A = some ⟨g, 0, none⟩ ∧ base ≤ g) := by
  rcases Nat.eq_zero_or_pos l.length with h0 | h0
  · rcases h.2 with ⟨hv, _⟩ | ⟨g, cap, cur, hv, hb, _⟩
    · exact ⟨none, 0, by rw [h0]; exact hv, fun k => absurd k (by omega), .inl ⟨rfl, h0⟩⟩
    · exact ⟨_, cap, hv, fun k => absurd k (by omega), .inr ⟨g, rfl, hb⟩⟩
  · obtain ⟨q, ca, hv, h1, h2, h3, hr⟩ := h.rd2 h0
    exact ⟨_, ca, hv, hr, .inr ⟨q, rfl, h3⟩⟩
theorem Rm.rd {w : World} {r gb gt gp n nb nt : Nat} {B : Nat → Int} {T D : Nat → Bool} (h : Rm w r gb gt gp n nb nt B T D) (a m : Nat) (hfit : a + m ≤ nb) : RdB w (some ⟨gb, a, none⟩) (bytesAt B a m) := fun _ =>
  ⟨gb, a, rfl, h.lb, fun j hj => by rw [bytesAt_get]; rw [bytesAt_length] at hj; exact (h.by_ (a + j) (by omega)).1⟩
set_option maxRecDepth 100000 in
set_option maxHeartbeats 4000000 in
theorem rmload_yes (r gb gt gp n nb nt : Nat) (B : Nat → Int) (T D : Nat → Bool) (w : World) (h : Rm w r gb gt gp n nb nt B T D) (a m : Nat) (hfit : a + m ≤ 256 * n) (hm : m ≤ 900000) : Calls Try.prog 19 #[.pointer (some ⟨r, 0, none⟩), .int .i64 (a : Int), .int .i64 (m : Int)] w fun e w' => RLdIs w B a m e w' := by
  have HH := hid h
  have c0 := h.c0
  have hlr := h.lr
  have hlb := h.lb
  have hlt := h.lt
  have hlp := h.lp
  have hbd := h.bd
  have heb : nb ≤ 16777216 := by have := h.eb; omega
  have het : nt ≤ 1048576 := by have := h.et; omega
  obtain ⟨e1, e2, e3, e4, e5, e6⟩ := h.ne
  have h0 : (0 : Int) ≤ (a : Int) := by omega
  have h1 : (0 : Int) ≤ (m : Int) := by omega
  have h2 : (a : Int) ≤ (nb : Int) := by have := HH.out.eb; omega
  have h3 : (m : Int) ≤ (nb : Int) - (a : Int) := by have := HH.out.eb; omega
  have h4 : (a : Int) + (m : Int) ≤ (nb : Int) := by omega
  have h5 : (a : Int) ≤ (a : Int) + (m : Int) := by omega
  have HRD : Hid (a + m ≤ nb) := hid (by have := HH.out.eb; omega)
  have HMB := hid hm
  have HNW := hid (OwnB.new w w.heap.size [] 0 rfl (by decide) (Nat.le_refl _))
  have HXA : Hid (Ext w (w.alloc (.cells #[] 5))) := hid (Ext.alloc (Ext.refl _) _)
  clear h hfit hm
  by_cases hcj : nb = a
  · subst hcj
    obtain rfl : m = 0 := by have := HRD.out; omega
    go_enter Try.func19, Try.ntmps19
    go_wp2_with (at_builtin; go_loud (refine app_own rfl _ _ rfl w.heap.size _ [] rfl HNW.out (some ⟨gb, 0, none⟩) 0 0 [] rfl rfl (fun h => absurd h (by simp)) (by intro h; cases h) (by have := HMB.out; simp; try omega) (by simp) ?_); intro v' w5 hown hgr)
    rw [List.nil_append] at hown
    obtain ⟨A, ca, rfl, hrd, hAA⟩ := hown.rd3
    have HX5 := hid (Ext.owned HXA.out HNW.out hgr)
    have HRR := hid hrd
    have HAA := hid hAA
    clear hown hgr hrd hAA
    go_wp2
    refine bodyPost_ret (v := .tuple #[.slice A 0 ca, .bool true]) (by simp [results, Try.results19, go_sem]) rfl ⟨A, ca, rfl, HRR, HX5, (by first | exact HAA | exact hid (by simpa using HAA.out))⟩
  · have hcj' : ¬ nb - a = 0 := by have := HRD.out; omega
    go_enter Try.func19, Try.ntmps19
    go_wp2_with (at_builtin; go_loud (refine app_own rfl _ _ rfl w.heap.size _ [] rfl HNW.out (some ⟨gb, a, none⟩) (a + m - a) (nb - a) (bytesAt B a m) rfl (by rw [bytesAt_length, Nat.add_sub_cancel_left]) ((HH.out.rd a m HRD.out).ext HXA.out) (by intro h; cases h) (by have := HMB.out; simp; try omega) (by simp) ?_); intro v' w5 hown hgr)
    rw [List.nil_append] at hown
    have HX5 := hid (Ext.owned HXA.out HNW.out hgr)
    by_cases hm0 : m = 0
    · subst hm0
      obtain ⟨A, ca, rfl, hrd, hAA⟩ := hown.rd3
      have HRR := hid hrd
      have HAA := hid hAA
      clear hown hgr hrd hAA
      rw [bytesAt_length] at HAA ⊢
      go_wp2
      refine bodyPost_ret (v := .tuple #[.slice A 0 ca, .bool true]) (by simp [results, Try.results19, go_sem, bytesAt_length]) rfl ⟨A, ca, rfl, HRR, HX5, (by first | exact HAA | exact hid (by simpa using HAA.out))⟩
    · obtain ⟨q, ca, rfl, hca, hcm, hbq, hrd⟩ := hown.rd2 (by rw [bytesAt_length]; omega)
      have HRR := hid hrd
      have HBQ := hid hbq
      clear hown hgr hrd hbq
      rw [bytesAt_length] at hca ⊢
      go_wp2
      refine bodyPost_ret (v := .tuple #[.slice (some ⟨q, 0, none⟩) m ca, .bool true]) (by simp [results, Try.results19, go_sem]) rfl ⟨_, ca, rfl, HRR, HX5, hid (.inr ⟨q, rfl, HBQ.out⟩)⟩

end Go.Proofs.Ytgpeabbbeidhpaa
