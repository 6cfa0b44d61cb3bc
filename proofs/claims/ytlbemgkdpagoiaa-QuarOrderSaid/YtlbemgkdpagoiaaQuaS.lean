/- Layer 13: one with a row beside it. -/
import Derived.Test.YtlbemgkdpagoiaaQuaP
namespace Go.Proofs.Ytlbemgkdpagoiaa
set_option linter.unusedSimpArgs false
set_option linter.unusedVariables false
open Go.RowKit

/-- One with a row of its own beside it. -/
structure QO (w0 W : World) (q base : Nat) (v : Value) (l : List Hd) (base2 : Nat) (va : Value) (al : List Hd) : Prop where
  hq : Qs W q base 100 (sumL l) v l
  ha : ownsAt W base2 29 3 va al.length (hdList al)
  ap : Apt q v va
  ex : Ext w0 W
  b1 : w0.heap.size ≤ base
  b2 : w0.heap.size ≤ base2
  b3 : base2 ≤ W.heap.size
theorem QO.ext {w0 W w' : World} {q base : Nat} {v : Value} {l : List Hd} {base2 : Nat} {va : Value} {al : List Hd} (h : QO w0 W q base v l base2 va al) (x : Ext W w') : QO w0 w' q base v l base2 va al :=
  ⟨h.hq.ext x, h.ha.ext x, h.ap, h.ex.trans x, h.b1, h.b2, Nat.le_trans h.b3 x.size⟩
theorem QO.upd {w0 W w' : World} {q base : Nat} {v : Value} {l : List Hd} {base2 : Nat} {va : Value} {al : List Hd} {v' : Value} {l' : List Hd} (h : QO w0 W q base v l base2 va al) (hq' : Qs w' q base 100 (sumL l') v' l') (x : Only (tch q v) W w') (hv : ∀ g, v'.ownBlock = some g → v.ownBlock = some g ∨ W.heap.size ≤ g) : QO w0 w' q base v' l' base2 va al :=
  ⟨hq', h.ha.only x h.ap.not, h.ap.put h.ha hv, h.hq.extOf h.ex h.b1 x, h.b1, h.b2, Nat.le_trans h.b3 x.size⟩
theorem QO.app {w0 W w' : World} {q base : Nat} {v : Value} {l : List Hd} {base2 : Nat} {va : Value} {al : List Hd} {z : Hd} {va' : Value} (h : QO w0 W q base v l base2 va al) (ho : ownsAt w' base2 29 3 va' (al.length + 1) (hdList al ++ [.int .i64 z.at_, .int .i64 z.n, .int .i64 z.time])) (hg : W.grownBy w' va.ownBlock) (hat : va'.ownBlock = va.ownBlock ∨ ∃ g, va'.ownBlock = some g ∧ W.heap.size ≤ g) : QO w0 w' q base v l base2 va' (al ++ [z]) :=
  ⟨h.hq.byApp h.ap hg, by rw [List.length_append, hdList_append, hdList_one]; exact ho, h.ap.app h.hq hat, Ext.byApp h.ex h.ha h.b2 hg, h.b1, h.b2, Nat.le_trans h.b3 hg.size⟩
theorem oPut (w0 : World) (q base : Nat) (v : Value) (l : List Hd) (base2 : Nat) (va : Value) (al : List Hd) (W : World) (h : QO w0 W q base v l base2 va al) (hg : goodL l) (hl : l.length ≤ 1000) (z : Hd) (hok : okQ l z = true) : Calls Try.prog 14 #[.pointer (some ⟨q, 0, none⟩), .agg #[.int .i64 z.at_, .int .i64 z.n, .int .i64 z.time]] W fun e w' => ∃ v', e = .returned (.bool true) ∧ Hid (QO w0 w' q base v' (l ++ [z]) base2 va al) ∧ Hid (Only (tch q v) W w') := by
  refine (qputT q base 100 v l W h.hq hg hl z hok).mono ?_
  rintro e w' ⟨v', rfl, hq, ho, hv⟩
  exact ⟨v', rfl, hid (h.upd hq.out ho hv), hid ho⟩
theorem oNo (w0 : World) (q base : Nat) (v : Value) (l : List Hd) (base2 : Nat) (va : Value) (al : List Hd) (W : World) (h : QO w0 W q base v l base2 va al) (hg : goodL l) (hl : l.length ≤ 1000) (z : Hd) (hok : okQ l z = false) : Calls Try.prog 14 #[.pointer (some ⟨q, 0, none⟩), .agg #[.int .i64 z.at_, .int .i64 z.n, .int .i64 z.time]] W fun e w' => e = .returned (.bool false) ∧ Hid (QO w0 w' q base v l base2 va al) := by
  refine (qput_no q base 100 (sumL l) v l W h.hq (by omega) z hok).mono ?_
  rintro e w' ⟨rfl, hx⟩
  exact ⟨rfl, hid (h.ext hx)⟩
theorem oDue (w0 : World) (q base : Nat) (v : Value) (l : List Hd) (base2 : Nat) (va : Value) (al : List Hd) (W : World) (h : QO w0 W q base v l base2 va al) (hg : goodL l) (hl : l.length ≤ 1000) (now : Int) (tk rest : List Hd) (e1 : l.takeWhile (dueB now) = tk) (e2 : l.drop tk.length = rest) : Calls Try.prog 12 #[.pointer (some ⟨q, 0, none⟩), .int .i64 now] W fun e w' => ∃ A ca v', e = .returned (.slice A tk.length ca) ∧ Hid (QO w0 w' q base v' rest base2 va al) ∧ Hid (RdH w' A tk) ∧ Hid (Only (fun i => i = q) W w') := by
  refine (qdueT q base 100 v l W h.hq hg hl now tk rest e1 e2).mono ?_
  rintro e w' ⟨A, ca, v', rfl, hq, hr, ho, hv, hf⟩
  exact ⟨A, ca, v', rfl, hid (h.upd hq.out ho.tch (fun g e => .inl (hv g e))), hid hr.out, hid ho⟩
theorem oBytes (w0 : World) (q base : Nat) (v : Value) (l : List Hd) (base2 : Nat) (va : Value) (al : List Hd) (W : World) (h : QO w0 W q base v l base2 va al) : Calls Try.prog 16 #[.pointer (some ⟨q, 0, none⟩)] W fun e w' => e = .returned (.int .i64 (sumL l)) ∧ w' = W := by
  exact qbytes_ q base 100 _ v l W h.hq
theorem oMany (w0 : World) (q base : Nat) (v : Value) (l : List Hd) (base2 : Nat) (va : Value) (al : List Hd) (W : World) (h : QO w0 W q base v l base2 va al) : Calls Try.prog 18 #[.pointer (some ⟨q, 0, none⟩)] W fun e w' => e = .returned (.int .i64 l.length) ∧ w' = W := by
  exact qmany_ q base 100 _ v l W h.hq
theorem oFull (w0 : World) (q base : Nat) (v : Value) (l : List Hd) (base2 : Nat) (va : Value) (al : List Hd) (W : World) (h : QO w0 W q base v l base2 va al) : Calls Try.prog 20 #[.pointer (some ⟨q, 0, none⟩)] W fun e w' => e = .returned (.bool (decide (100 ≤ sumL l))) ∧ Hid (QO w0 w' q base v l base2 va al) := by
  refine (qfull_ q base 100 _ v l W h.hq).mono ?_
  rintro e w' ⟨rfl, hx⟩
  exact ⟨rfl, hid (h.ext hx)⟩
theorem oAll (w0 : World) (q base : Nat) (v : Value) (l : List Hd) (base2 : Nat) (va : Value) (al : List Hd) (W : World) (h : QO w0 W q base v l base2 va al) (hg : goodL l) (hl : l.length ≤ 1000) : Calls Try.prog 22 #[.pointer (some ⟨q, 0, none⟩)] W fun e w' => ∃ A ca, e = .returned (.slice A l.length ca) ∧ Hid (RdH w' A l) ∧ Hid (Ext W w') := by
  refine (qallT q base 100 v l W h.hq hg hl).mono ?_
  rintro e w' ⟨A, ca, rfl, hr, hx⟩
  exact ⟨A, ca, rfl, hid hr.out, hid hx⟩
theorem wrapB {x : Int} (h0 : 0 ≤ x) (h1 : x ≤ 9999999999999) : wrap64 x = x := by simp [wrap64]; omega
theorem tw_prop {α : Type} (p : α → Bool) : ∀ (l : List α), ∀ x ∈ l.takeWhile p, p x = true
  | [], x, h => by cases h
  | y :: l, x, h => by
    cases hy : p y with
    | false => simp [List.takeWhile, hy] at h
    | true =>
      simp only [List.takeWhile, hy, List.mem_cons] at h
      rcases h with rfl | h
      · exact hy
      · exact tw_prop p l x h
theorem tw_next {α : Type} (p : α → Bool) : ∀ (l : List α) {y : α} {r : List α}, l.drop (l.takeWhile p).length = y :: r → p y = false
  | [], y, r, h => by simp at h
  | x :: l, y, r, h => by
    cases hx : p x with
    | false =>
      simp only [List.takeWhile, hx, List.length_nil, List.drop_zero, List.cons.injEq] at h
      rw [← h.1]; exact hx
    | true =>
      simp only [List.takeWhile, hx, List.length_cons, List.drop_succ_cons] at h
      exact tw_next p l h
theorem tw_split {α : Type} (p : α → Bool) (l : List α) : l.takeWhile p ++ l.drop (l.takeWhile p).length = l := by
  conv => rhs; rw [← List.take_append_drop (l.takeWhile p).length l]
  rw [tw_end0]
theorem due_le {now : Int} {x : Hd} (h : dueB now x = true) (h0 : 0 ≤ x.time ∧ x.time ≤ 2199023255552) : x.time + 2 + x.time % 2 ≤ now := by
  unfold dueB whenT at h
  rw [clampT_of h0.1 h0.2] at h
  exact of_decide_eq_true h
theorem RdH.sub {w : World} {b o : Nat} {al : List Hd} (h : RdH w (some ⟨b, o, none⟩) al) (k : Nat) : RdH w (some ⟨b, o + k * 3, none⟩) (al.drop k) := fun h0 => by
  rw [List.length_drop] at h0
  obtain ⟨b', o', e, hb, hc⟩ := h (by omega)
  simp only [Option.some.injEq, Addr.mk.injEq, and_true] at e
  obtain ⟨rfl, rfl⟩ := e
  refine ⟨b, _, rfl, hb, fun j u hj => ?_⟩
  rw [Nat.add_assoc]
  exact hc (k * 3 + j) u (by rw [← hdList_drop, List.getElem?_drop] at hj; exact hj)

end Go.Proofs.Ytlbemgkdpagoiaa
