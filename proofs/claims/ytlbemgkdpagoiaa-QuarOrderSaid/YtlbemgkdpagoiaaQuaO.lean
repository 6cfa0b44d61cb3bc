/- Layer 13: what the walks of laws need. -/
import Derived.Test.YtlbemgkdpagoiaaQuaN
namespace Go.Proofs.Ytlbemgkdpagoiaa
set_option linter.unusedSimpArgs false
set_option linter.unusedVariables false
open Go.RowKit

theorem rg_only {S : Nat → Prop} {w w' : World} {b o : Nat} {cs : List Value} (h : w.rangeAt b o cs) (hb : b < w.heap.size) (x : Only S w w') (hn : ¬ S b) : w'.rangeAt b o cs :=
  fun j v hj => (x.cells b _ hb hn).trans (h j v hj)
theorem rg_ext {w w' : World} {b o : Nat} {cs : List Value} (h : w.rangeAt b o cs) (hb : b < w.heap.size) (x : Ext w w') : w'.rangeAt b o cs :=
  rg_only h hb (Only.ofExt (S := fun _ => False) x) id
theorem okQ_fine (a1 : Int) (z : Hd) : okQ [Hd.mk 16 32 a1] z = true ↔ (0 ≤ z.at_ ∧ z.at_ ≤ 16777216) ∧ (0 ≤ z.n ∧ z.n ≤ 16777216) ∧ a1 ≤ z.time ∧ z.time ≤ 2199023255552 := by
  unfold okQ
  rw [show lastT [Hd.mk 16 32 a1] = a1 from rfl]
  simp only [Bool.and_eq_true, Bool.not_eq_true', decide_eq_false_iff_not, decide_eq_true_eq]
  omega
theorem okQ_not {a1 : Int} {z : Hd} (h : ¬ ((0 ≤ z.at_ ∧ z.at_ ≤ 16777216) ∧ (0 ≤ z.n ∧ z.n ≤ 16777216) ∧ a1 ≤ z.time ∧ z.time ≤ 2199023255552)) : okQ [Hd.mk 16 32 a1] z = false := by
  cases hb : okQ [Hd.mk 16 32 a1] z with
  | false => rfl
  | true => exact absurd ((okQ_fine a1 z).1 hb) h

end Go.Proofs.Ytlbemgkdpagoiaa
