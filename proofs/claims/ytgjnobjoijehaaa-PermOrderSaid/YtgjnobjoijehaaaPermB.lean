/- Layer 1: how many permissions there are. -/
import Derived.Test.YtgjnobjoijehaaaRefA
namespace Go.Proofs.Ytgjnobjoijehaaa
set_option linter.unusedSimpArgs false
set_option linter.unusedVariables false
open Go.RowKit

def pop (n : Nat) : Nat := n % 2 + n / 2 % 2 + n / 4 % 2 + n / 8 % 2 + n / 16 % 2 + n / 32 % 2 + n / 64 % 2

def onesA (x : Int) : Int := IntKind.u64.wrap (bits BinOp.and IntKind.u64 (x / 2) 6148914691236517205 + bits BinOp.and IntKind.u64 x 6148914691236517205)
def onesB (a : Int) : Int := IntKind.u64.wrap (bits BinOp.and IntKind.u64 (a / 4) 3689348814741910323 + bits BinOp.and IntKind.u64 a 3689348814741910323)
def onesC (b : Int) : Int := bits BinOp.and IntKind.u64 (IntKind.u64.wrap (b / 16 + b)) 1085102592571150095
def onesD (c : Int) : Int := IntKind.u64.wrap (c + c / 256)
def onesE (c : Int) : Int := IntKind.u64.wrap (c + c / 65536)
def onesF (c : Int) : Int := IntKind.u64.wrap (c + c / 4294967296)
def ones (x : Int) : Int := bits BinOp.and IntKind.i64 (wrap64 (onesF (onesE (onesD (onesC (onesB (onesA x))))))) 127
theorem ones_small : ∀ n : Nat, n < 128 → ones (n : Int) = (pop n : Int) := by decide +kernel

set_option maxHeartbeats 400000 in
theorem ones64 (n : Nat) (hn : n < 128) (w : World) :
    Calls Try.prog 32 #[.int .u64 (n : Int)] w fun e w' => e = .returned (.int .i64 (pop n : Int)) ∧ w = w' := by
  go_enter Try.func32, Try.ntmps32
  go_wp2
  go_ret
  refine ⟨?_, rfl⟩
  rw [← ones_small n hn]
  simp [ones, onesA, onesB, onesC, onesD, onesE, onesF]

def manyB (p : Int) : Int := if rightB p then (pop p.toNat : Int) else 0

set_option maxHeartbeats 400000 in
theorem many (p : Int) (w : World) :
    Calls Try.prog 19 #[.int .i64 p] w fun e w' => e = .returned (.int .i64 (manyB p)) ∧ w = w' := by
  cases hr : rightB p
  · have hm : manyB p = 0 := by simp [manyB, hr]
    rw [hm]
    have HR := hid hr
    clear hr hm
    go_enter Try.func19, Try.ntmps19
    go_wp2_with (go_at_call 13; refine (right _ _).mono ?_; rw [HR.out]; rintro e w' ⟨rfl, rfl⟩)
    go_ret
    exact ⟨rfl, rfl⟩
  · obtain ⟨h0, h1⟩ := rightB_iff.1 hr
    obtain ⟨n, rfl⟩ := Int.eq_ofNat_of_zero_le h0
    have hm : manyB (n : Int) = (pop n : Int) := by simp [manyB, hr]
    rw [hm]
    have hn : n < 128 := by omega
    have HR := hid hr
    clear hr hm h0
    go_enter Try.func19, Try.ntmps19
    go_wp2_with (first
      | (go_at_call 13; refine (right _ _).mono ?_; rw [HR.out]; rintro e w' ⟨rfl, rfl⟩)
      | (go_at_call 27; go_in)
      | (go_at_call 32; refine (ones64 n hn _).mono ?_; rintro e w' ⟨rfl, rfl⟩))
    go_ret
    exact ⟨rfl, rfl⟩

/-- How many of the first k bits are there. -/
def manyTo (p : Int) (k : Nat) : Nat := ((List.range k).filter (bitB p)).length
theorem manyTo_succ (p : Int) (k : Nat) : manyTo p (k + 1) = manyTo p k + if bitB p k then 1 else 0 := by
  simp only [manyTo, List.range_succ, List.filter_append, List.length_append]
  cases h : bitB p k <;> simp [h]
theorem manyTo_le (p : Int) (k : Nat) : manyTo p k ≤ k := by
  have := List.length_filter_le (bitB p) (List.range k)
  simpa [manyTo] using this
def manyR (p : Int) : Int := if rightB p then (manyTo p 7 : Int) else 0

set_option maxHeartbeats 400000 in
theorem rmany (p : Int) (w : World) :
    Calls Try.prog 20 #[.int .i64 p] w fun e w' => e = .returned (.int .i64 (manyR p)) ∧ w = w' := by
  cases hr : rightB p
  · have hm : manyR p = 0 := by simp [manyR, hr]
    rw [hm]
    have HR := hid hr
    clear hr hm
    go_enter Try.func20, Try.ntmps20
    go_wp2
    refine wp_loop_rounds 1 ?_
    rw [rounds_succ]
    go_wp2_with (go_at_call 14; refine (rright _ _).mono ?_; rw [HR.out]; rintro e w' ⟨rfl, rfl⟩)
    go_ret
    exact ⟨rfl, rfl⟩
  · have hm : manyR p = (manyTo p 7 : Int) := by simp [manyR, hr]
    rw [hm]
    have HR := hid hr
    clear hr hm
    go_enter Try.func20, Try.ntmps20
    go_wp2
    go_loop [3, 4] (fun n i => ∃ k : Nat, k ≤ 7 ∧ i = .int .i64 k ∧ n = .int .i64 (manyTo p k : Int)) (fun _ i => 7 - (intOf i).toNat)
    case atStart => exact ⟨0, Nat.zero_le _, rfl, rfl⟩
    case round =>
      obtain ⟨k, hk, rfl, rfl⟩ := hrel
      have hs := hid (manyTo_succ p k)
      have hle := manyTo_le p k
      by_cases hlt : k < 7
      · go_wp2_with (first
          | (go_at_call 14; refine (rright _ _).mono ?_; rw [HR.out]; rintro e w' ⟨rfl, rfl⟩)
          | (go_at_call 24; refine (rbit _ k (by omega) _).mono ?_; rintro e w' ⟨rfl, rfl⟩))
        all_goals
          go_round
          case rel => exact ⟨k + 1, by omega, by go_num, by rw [hs.out]; simp [*]⟩
          case measure => simp [intOf]; omega
      · obtain rfl : k = 7 := by omega
        go_wp2
        go_ret
        exact ⟨rfl, rfl⟩
end Go.Proofs.Ytgjnobjoijehaaa
