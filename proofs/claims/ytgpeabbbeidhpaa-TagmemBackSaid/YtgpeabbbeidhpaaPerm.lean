/- Layer 1: contracts of package perm that need no library text. -/
import Derived.Test.YtgpeabbbeidhpaaProg
import Derived.Test.YtgpeabbbeidhpaaG
namespace Go.Proofs.Ytgpeabbbeidhpaa
set_option linter.unusedSimpArgs false
set_option linter.unusedVariables false
open Go.RowKit

def rightB (p : Int) : Bool := decide (0 ≤ p) && decide (p ≤ 127)
theorem rightB_iff {p : Int} : rightB p = true ↔ 0 ≤ p ∧ p ≤ 127 := by simp [rightB]
def hasB (p q : Int) : Bool := rightB p && rightB q && (bits .and .i64 p q == q)

set_option maxHeartbeats 400000 in
theorem right (p : Int) (w : World) :
    Calls Try.prog 49 #[.int .i64 p] w fun e w' => e = .returned (.bool (rightB p)) ∧ w = w' := by
  by_cases h : 0 ≤ p
  all_goals
    go_enter Try.func49, Try.ntmps49
    go_wp2
  all_goals go_ret
  all_goals refine ⟨?_, rfl⟩
  all_goals (simp [rightB] <;> omega)

end Go.Proofs.Ytgpeabbbeidhpaa
