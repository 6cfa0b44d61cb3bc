/- Layer 1: contracts of package perm that need no library text. -/
import Derived.Test.YtiihoffboeomaaaProg
import Derived.Test.YtiihoffboeomaaaBase
namespace Go.Proofs.Ytiihoffboeomaaa
set_option linter.unusedSimpArgs false
set_option linter.unusedVariables false
open Go.RowKit

def rightB (p : Int) : Bool := decide (0 ≤ p) && decide (p ≤ 127)
theorem rightB_iff {p : Int} : rightB p = true ↔ 0 ≤ p ∧ p ≤ 127 := by simp [rightB]

set_option maxHeartbeats 400000 in
theorem right (p : Int) (w : World) :
    Calls Try.prog 29 #[.int .i64 p] w fun e w' => e = .returned (.bool (rightB p)) ∧ w = w' := by
  by_cases h : 0 ≤ p
  all_goals
    go_enter Try.func29, Try.ntmps29
    go_wp2
    go_ret
    refine ⟨?_, rfl⟩
    simp [rightB] <;> omega

def hasB (p q : Int) : Bool := rightB p && rightB q && (bits .and .i64 p q == q)

set_option maxHeartbeats 400000 in
theorem has (p q : Int) (w : World) :
    Calls Try.prog 30 #[.int .i64 p, .int .i64 q] w fun e w' => e = .returned (.bool (hasB p q)) ∧ w = w' := by
  go_enter Try.func30, Try.ntmps30
  go_wp2_with (go_at_call 29; refine (right _ _).mono ?_; rintro e w' ⟨rfl, rfl⟩)
  all_goals go_ret
  all_goals refine ⟨?_, rfl⟩
  all_goals simp_all [hasB]

def ofL : List Int → Int → Int
  | [], a => a
  | z :: zs, a => ofL zs (if rightB z then bits .or .i64 a z else a)
theorem ofL_snoc (zs : List Int) (z a : Int) : ofL (zs ++ [z]) a = (if rightB z then bits .or .i64 (ofL zs a) z else ofL zs a) := by
  induction zs generalizing a with
  | nil => rfl
  | cons y ys ih => exact ih _

set_option maxHeartbeats 400000 in
theorem of_any (A : Option Addr) (cap : Nat) (zs : List Int) (w : World) (h : SlAt w A (zs.map (Value.int .i64))) (hl : zs.length ≤ maxLen) :
    Calls Try.prog 42 #[.slice A zs.length cap] w fun e w' => e = .returned (.int .i64 (ofL zs 0)) ∧ w = w' := by
  unfold maxLen at hl
  go_enter Try.func42, Try.ntmps42
  go_wp2
  go_loop [3, 8] (fun s i => ∃ k : Nat, k ≤ zs.length ∧ i = .int .i64 k ∧ s = .int .i64 (ofL (zs.take k) 0)) (fun _ i => zs.length - (intOf i).toNat)
  case atStart => exact ⟨0, Nat.zero_le _, rfl, rfl⟩
  case round =>
    obtain ⟨k, hk, rfl, rfl⟩ := hrel
    by_cases hlt : k < zs.length
    · obtain ⟨b, o, rfl, hb, hc⟩ := h (by simp; omega)
      have hc1 := hc k (by simpa using hlt)
      simp only [List.getElem_map] at hc1
      clear hc h
      have hsn := ofL_snoc (zs.take k) zs[k] 0
      rw [← List.take_succ_eq_append_getElem hlt] at hsn
      have HS := hid hsn
      clear hsn
      go_wp2_with (go_at_call 29; refine (right _ _).mono ?_; rintro e w' ⟨rfl, rfl⟩)
      all_goals
        go_round
        case rel => exact ⟨k + 1, by omega, by go_num, by rw [HS.out]; simp [*]⟩
        case measure => simp [intOf]; omega
    · go_wp2
      go_ret
      exact ⟨by rw [List.take_of_length_le (by omega)]; rfl, rfl⟩
end Go.Proofs.Ytiihoffboeomaaa
