/- Layer 1: contracts of the document's own answers about permissions. -/
import Derived.Test.YtiihoffboeomaaaPermA
namespace Go.Proofs.Ytiihoffboeomaaa
set_option linter.unusedSimpArgs false
set_option linter.unusedVariables false
open Go.RowKit

set_option maxHeartbeats 400000 in
theorem rright (p : Int) (w : World) :
    Calls Try.prog 33 #[.int .i64 p] w fun e w' => e = .returned (.bool (rightB p)) ∧ w = w' := by
  by_cases h : 0 ≤ p
  all_goals
    go_enter Try.func33, Try.ntmps33
    go_wp2
    go_ret
    refine ⟨?_, rfl⟩
    simp [rightB] <;> omega

/-- The k-th bit, as the text asks for it. -/
def bitB (p : Int) (k : Nat) : Bool := (p / 2 ^ k).tmod 2 == 1

set_option maxHeartbeats 400000 in
theorem rbit (p : Int) (k : Nat) (hk : k ≤ 6) (w : World) :
    Calls Try.prog 39 #[.int .i64 p, .int .i64 (k : Int)] w fun e w' => e = .returned (.bool (bitB p k)) ∧ w = w' := by
  go_enter Try.func39, Try.ntmps39
  go_wp2
  go_ret
  refine ⟨?_, rfl⟩
  simp [bitB]

def hasR (p q : Int) : Bool := (List.range 7).all (fun i => !(bitB q i && !bitB p i)) && rightB p && rightB q

set_option maxHeartbeats 400000 in
theorem rhas (p q : Int) (w : World) :
    Calls Try.prog 25 #[.int .i64 p, .int .i64 q] w fun e w' => e = .returned (.bool (hasR p q)) ∧ w = w' := by
  go_enter Try.func25, Try.ntmps25
  go_wp2
  go_loop [5] (fun i => ∃ k : Nat, k ≤ 7 ∧ i = .int .i64 k ∧ Hid (∀ j, j < k → (!(bitB q j && !bitB p j)) = true)) (fun i => 7 - (intOf i).toNat)
  case atStart => exact ⟨0, Nat.zero_le _, rfl, fun j hj => absurd hj (by omega)⟩
  case round =>
    obtain ⟨k, hk, rfl, hall⟩ := hrel
    by_cases hlt : k < 7
    · go_wp2_with (go_at_call 39; refine (rbit _ k (by omega) _).mono ?_; rintro e w' ⟨rfl, rfl⟩)
      all_goals first
        | (go_ret
           refine ⟨?_, rfl⟩
           simp only [hasR]
           rw [all_range_false (k := k) hlt (by simp_all)]
           rfl)
        | (go_round
           case rel => exact ⟨k + 1, by omega, by go_num, upto_snoc hall.out (by simp_all)⟩
           case measure => simp [intOf]; omega)
    · obtain rfl : k = 7 := by omega
      go_wp2_with (go_at_call 33; refine (rright _ _).mono ?_; rintro e w' ⟨rfl, rfl⟩)
      all_goals go_ret
      all_goals refine ⟨?_, rfl⟩
      all_goals simp only [hasR]; rw [all_range_true hall.out]; simp_all
end Go.Proofs.Ytiihoffboeomaaa
