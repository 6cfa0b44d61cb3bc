/- Layer 19: frames: are all right. -/
import Derived.Test.YtfpfmjcajdknoaaApp
import Derived.Test.YtfpfmjcajdknoaaRef2
import Derived.Test.YtfpfmjcajdknoaaH
import Derived.Laws.EntriesVeiled
namespace Go.Proofs.Ytfpfmjcajdknoaa
set_option linter.unusedSimpArgs false
set_option linter.unusedVariables false
open Go.RowKit

def allR (n : Nat) (M : Nat → Cap) : Bool := (List.range n).all fun i => rightC (M i)
theorem allR_no {n k : Nat} {M : Nat → Cap} (hk : k < n) (h : rightC (M k) = false) : allR n M = false := all_range_false hk h
theorem allR_yes {n : Nat} {M : Nat → Cap} (h : ∀ k, k < n → rightC (M k) = true) : allR n M = true := all_range_true h
theorem allR_iff {n : Nat} {M : Nat → Cap} : allR n M = true ↔ ∀ k, k < n → rightC (M k) = true := by simp [allR]
set_option maxHeartbeats 400000 in
theorem put1 (t : Bool) (b tp a p ty : Int) (w : World) :
    Calls Try.prog 29 #[.agg #[.bool t, .int .i64 b, .int .i64 tp, .int .i64 a, .int .i64 p, .int .i64 ty]] w fun e w' => e = .returned (.bool (!rightC ⟨t, b, tp, a, p, ty⟩)) ∧ Ext w w' := by
  go_enter Try.func29, Try.ntmps29
  go_wp2_with (go_at_call 30; refine (capRight _ _ _ _ _ _ _).mono ?_; rintro e w1 ⟨rfl, hy⟩; obtain ⟨d, rfl⟩ := hy.grown; clear hy)
  all_goals go_ret
  all_goals exact ⟨rfl, (by repeat (first | (with_reducible exact Ext.refl _) | (with_reducible refine Ext.undrew ?_) | (with_reducible refine Ext.grow ?_ _) | (with_reducible refine Ext.drew ?_) | (with_reducible refine Ext.drewN ?_ _) | (with_reducible refine Ext.alloc ?_ _) | (with_reducible assumption) | ((with_reducible refine Ext.setCell ?_ ?_ _); rotate_left; (first | exact Nat.le_refl _ | ((try dsimp only); (try simp only [World.size_alloc, grow_size, World.size_setCell]); omega)))))⟩

set_option maxHeartbeats 2000000 in
theorem index_ (A : Option Addr) (n ca : Nat) (M : Nat → Cap) (w : World) (hA : RdC w A n M) (hn : n ≤ 1000000000) :
    Calls Try.prog 31 #[.slice A n ca, .func (.func 29) #[] #[]] w fun e w' => ∃ z : Int, e = .returned (.int .i64 z) ∧ decide (0 ≤ z) = !allR n M ∧ Ext w w' := by
  have HA := hid hA
  clear hA
  have hfn : ∀ args w', Sem.run Try.prog (callFunc 29 args) w' = .ok (.enter 29 args) w' := fun args w' => enterOf Try.func29 (by kernel_rfl) (by kernel_rfl) args w'
  go_enter Try.func31, Try.ntmps31
  go_wp2
  go_loopw [8] (fun i wr => ∃ k : Nat, k ≤ n ∧ i = .int .i64 k ∧ Hid (∀ j, j < k → rightC (M j) = true) ∧ Ext w wr) (fun i _ => n - (intOf i).toNat)
  case atStart => exact ⟨0, Nat.zero_le _, rfl, hid fun j hj => absurd hj (by omega), (by repeat (first | (with_reducible exact Ext.refl _) | (with_reducible refine Ext.undrew ?_) | (with_reducible refine Ext.grow ?_ _) | (with_reducible refine Ext.drew ?_) | (with_reducible refine Ext.drewN ?_ _) | (with_reducible refine Ext.alloc ?_ _) | (with_reducible assumption) | ((with_reducible refine Ext.setCell ?_ ?_ _); rotate_left; (first | exact Nat.le_refl _ | ((try dsimp only); (try simp only [World.size_alloc, grow_size, World.size_setCell]); omega)))))⟩
  case round =>
    obtain ⟨k, hk, rfl, hall, hx⟩ := hrel
    by_cases hlt : k < n
    · obtain ⟨b1, o1, rfl, h1⟩ := HA.out (by omega)
      obtain ⟨hb1, c0, c1, c2, c3, c4, c5⟩ := ((h1 k hlt).ext hx).six
      clear h1
      cases hr : rightC (M k) with
      | true =>
        have hr' : rightC ⟨(M k).tag, (M k).base, (M k).top, (M k).at_, (M k).perms, (M k).type⟩ = true := hr
        go_wp2_with (refine (put1 _ _ _ _ _ _ _).mono ?_; rintro e w1 ⟨rfl, hy⟩; obtain ⟨d, rfl⟩ := hy.grown; clear hy)
        go_roundw
        case rel => exact ⟨k + 1, by omega, by go_num, hid (upto_snoc hall.out hr), (by repeat (first | (with_reducible exact Ext.refl _) | (with_reducible refine Ext.undrew ?_) | (with_reducible refine Ext.grow ?_ _) | (with_reducible refine Ext.drew ?_) | (with_reducible refine Ext.drewN ?_ _) | (with_reducible refine Ext.alloc ?_ _) | (with_reducible assumption) | ((with_reducible refine Ext.setCell ?_ ?_ _); rotate_left; (first | exact Nat.le_refl _ | ((try dsimp only); (try simp only [World.size_alloc, grow_size, World.size_setCell]); omega)))))⟩
        case measure => simp [intOf]; omega
      | false =>
        have hr' : rightC ⟨(M k).tag, (M k).base, (M k).top, (M k).at_, (M k).perms, (M k).type⟩ = false := hr
        go_wp2_with (refine (put1 _ _ _ _ _ _ _).mono ?_; rintro e w1 ⟨rfl, hy⟩; obtain ⟨d, rfl⟩ := hy.grown; clear hy)
        go_ret
        exact ⟨_, rfl, by rw [allR_no hlt hr]; simp, (by repeat (first | (with_reducible exact Ext.refl _) | (with_reducible refine Ext.undrew ?_) | (with_reducible refine Ext.grow ?_ _) | (with_reducible refine Ext.drew ?_) | (with_reducible refine Ext.drewN ?_ _) | (with_reducible refine Ext.alloc ?_ _) | (with_reducible assumption) | ((with_reducible refine Ext.setCell ?_ ?_ _); rotate_left; (first | exact Nat.le_refl _ | ((try dsimp only); (try simp only [World.size_alloc, grow_size, World.size_setCell]); omega)))))⟩
    · go_wp2
      go_ret
      exact ⟨_, rfl, by rw [allR_yes (fun j hj => hall.out j (by omega))]; simp, (by repeat (first | (with_reducible exact Ext.refl _) | (with_reducible refine Ext.undrew ?_) | (with_reducible refine Ext.grow ?_ _) | (with_reducible refine Ext.drew ?_) | (with_reducible refine Ext.drewN ?_ _) | (with_reducible refine Ext.alloc ?_ _) | (with_reducible assumption) | ((with_reducible refine Ext.setCell ?_ ?_ _); rotate_left; (first | exact Nat.le_refl _ | ((try dsimp only); (try simp only [World.size_alloc, grow_size, World.size_setCell]); omega)))))⟩

set_option maxHeartbeats 2000000 in
theorem contains_ (A : Option Addr) (n ca : Nat) (M : Nat → Cap) (w : World) (hA : RdC w A n M) (hn : n ≤ 1000000000) :
    Calls Try.prog 28 #[.slice A n ca, .func (.func 29) #[] #[]] w fun e w' => e = .returned (.bool (!allR n M)) ∧ Ext w w' := by
  go_enter Try.func28, Try.ntmps28
  go_wp2_with (go_at_call 31; refine (index_ A n ca M _ hA hn).mono ?_; rintro e w1 ⟨z, rfl, hz, hy⟩; obtain ⟨d, rfl⟩ := hy.grown; clear hy)
  go_ret
  exact ⟨rfl, (by repeat (first | (with_reducible exact Ext.refl _) | (with_reducible refine Ext.undrew ?_) | (with_reducible refine Ext.grow ?_ _) | (with_reducible refine Ext.drew ?_) | (with_reducible refine Ext.drewN ?_ _) | (with_reducible refine Ext.alloc ?_ _) | (with_reducible assumption) | ((with_reducible refine Ext.setCell ?_ ?_ _); rotate_left; (first | exact Nat.le_refl _ | ((try dsimp only); (try simp only [World.size_alloc, grow_size, World.size_setCell]); omega)))))⟩

set_option maxHeartbeats 2000000 in
theorem allRight_ (A : Option Addr) (n ca : Nat) (M : Nat → Cap) (w : World) (hA : RdC w A n M) (hn : n ≤ 1000000000) :
    Calls Try.prog 24 #[.slice A n ca] w fun e w' => e = .returned (.bool (allR n M)) ∧ Ext w w' := by
  go_enter Try.func24, Try.ntmps24
  go_wp2_with (go_at_call 28; refine (contains_ A n ca M _ hA hn).mono ?_; rintro e w1 ⟨rfl, hy⟩; obtain ⟨d, rfl⟩ := hy.grown; clear hy)
  go_ret
  exact ⟨by simp, (by repeat (first | (with_reducible exact Ext.refl _) | (with_reducible refine Ext.undrew ?_) | (with_reducible refine Ext.grow ?_ _) | (with_reducible refine Ext.drew ?_) | (with_reducible refine Ext.drewN ?_ _) | (with_reducible refine Ext.alloc ?_ _) | (with_reducible assumption) | ((with_reducible refine Ext.setCell ?_ ?_ _); rotate_left; (first | exact Nat.le_refl _ | ((try dsimp only); (try simp only [World.size_alloc, grow_size, World.size_setCell]); omega)))))⟩
end Go.Proofs.Ytfpfmjcajdknoaa
