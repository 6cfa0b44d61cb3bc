/- Layer 1: contracts of package perm that need no library text. -/
import Derived.Test.YtonlhnhlneomiaaProg
import Derived.Test.YtonlhnhlneomiaaBase
namespace Go.Proofs.Ytonlhnhlneomiaa
open Go.RowKit

def rightB (p : Int) : Bool := decide (0 ≤ p) && decide (p ≤ 127)
theorem rightB_iff {p : Int} : rightB p = true ↔ 0 ≤ p ∧ p ≤ 127 := by simp [rightB]

set_option maxHeartbeats 400000 in
theorem right (p : Int) (w : World) :
    Calls Try.prog 29 #[.int .i64 p] w fun e w' => e = .returned (.bool (rightB p)) ∧ w = w' := by
  by_cases h : 0 ≤ p
  all_goals
    go_enter Try.func29, Try.ntmps29
    go_wp2
    go_ret
    refine ⟨?_, rfl⟩
    simp [rightB] <;> omega

def hasB (p q : Int) : Bool := rightB p && rightB q && (bits .and .i64 p q == q)

set_option maxHeartbeats 400000 in
theorem has (p q : Int) (w : World) :
    Calls Try.prog 36 #[.int .i64 p, .int .i64 q] w fun e w' => e = .returned (.bool (hasB p q)) ∧ w = w' := by
  go_enter Try.func36, Try.ntmps36
  go_wp2_with (go_at_call 29; refine (right _ _).mono ?_; rintro e w' ⟨rfl, rfl⟩)
  all_goals go_ret
  all_goals refine ⟨?_, rfl⟩
  all_goals simp_all [hasB]

def ofL : List Int → Int → Int
  | [], a => a
  | z :: zs, a => ofL zs (if rightB z then bits .or .i64 a z else a)
theorem ofL_snoc (zs : List Int) (z a : Int) : ofL (zs ++ [z]) a = (if rightB z then bits .or .i64 (ofL zs a) z else ofL zs a) := by
  induction zs generalizing a with
  | nil => rfl
  | cons y ys ih => exact ih _

end Go.Proofs.Ytonlhnhlneomiaa
