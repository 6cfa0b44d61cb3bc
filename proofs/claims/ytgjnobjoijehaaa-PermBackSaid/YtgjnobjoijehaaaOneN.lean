/- Layer 1: what is true of each two permissions. -/
import Derived.Test.YtgjnobjoijehaaaOneS
namespace Go.Proofs.Ytgjnobjoijehaaa
set_option linter.unusedSimpArgs false
set_option linter.unusedVariables false
open Go.RowKit


theorem hasN : ∀ p : Nat, p < 128 → ∀ q : Nat, q < 128 → hasR (p : Int) (q : Int) = hasB (p : Int) (q : Int) := by decide +kernel
theorem has_land : ∀ p : Fin 128, ∀ q : Fin 128, hasB (p.val : Int) (q.val : Int) = decide (p.val &&& q.val = q.val) := by decide +kernel
theorem of_lor : ∀ p : Fin 128, ∀ q : Fin 128, ofL [(p.val : Int), (q.val : Int)] 0 = ((p.val ||| q.val : Nat) : Int) := by decide +kernel
theorem many_pair : ∀ a : Fin 128, ∀ b : Fin 128, manyB ((a.val ||| b.val : Nat) : Int) = manyB (a.val : Int) + manyB (b.val : Int) - manyB (bits .and .i64 (a.val : Int) (b.val : Int)) ∧ hasB (a.val : Int) (b.val : Int) = decide (manyB ((a.val ||| b.val : Nat) : Int) = manyB (a.val : Int)) := by decide +kernel
theorem and_pair : ∀ a : Fin 128, ∀ b : Fin 128, 0 ≤ bits .and .i64 (a.val : Int) (b.val : Int) ∧ bits .and .i64 (a.val : Int) (b.val : Int) ≤ 127 := by decide +kernel

end Go.Proofs.Ytgjnobjoijehaaa
