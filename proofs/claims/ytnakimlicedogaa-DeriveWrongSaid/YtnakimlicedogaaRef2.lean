/- The document's own answers of layers 1 and 2, as far as later layers ask for them. -/
import Derived.Test.YtnakimlicedogaaCap
namespace Go.Proofs.Ytnakimlicedogaa
set_option linter.unusedSimpArgs false
set_option linter.unusedVariables false
open Go.RowKit

/-- The k-th bit, as the text asks for it. -/
def bitB (p : Int) (k : Nat) : Bool := (p / 2 ^ k).tmod 2 == 1
def hasR (p q : Int) : Bool := (List.range 7).all (fun i => !(bitB q i && !bitB p i)) && rightB p && rightB q
def modR (n : Int) : Int := if n.tmod 4294967296 < 0 then wrap64 (n.tmod 4294967296 + 4294967296) else n.tmod 4294967296
def offR (c : Cap) : Int := modR (wrap64 (modR c.at_ - modR c.base))
def inR (c : Cap) (at_ n : Int) : Bool := decide (0 ≤ at_) && decide (0 ≤ n) && decide (c.base ≤ at_) && decide (at_ ≤ c.top) && decide (n ≤ wrap64 (c.top - max at_ 0))
def underR (c d : Cap) : Bool := decide (c.base ≤ c.top) && decide (d.base ≤ c.base) && decide (c.top ≤ d.top) && hasR d.perms c.perms

set_option maxHeartbeats 400000 in
theorem rright (p : Int) (w : World) :
    Calls Try.prog 37 #[.int .i64 p] w fun e w' => e = .returned (.bool (rightB p)) ∧ w = w' := by
  by_cases h : 0 ≤ p
  all_goals
    go_enter Try.func37, Try.ntmps37
    go_wp2
  all_goals go_ret
  all_goals refine ⟨?_, rfl⟩
  all_goals (simp [rightB] <;> omega)

set_option maxHeartbeats 400000 in
theorem rbit (p : Int) (k : Nat) (hk : k ≤ 6) (w : World) :
    Calls Try.prog 52 #[.int .i64 p, .int .i64 (k : Int)] w fun e w' => e = .returned (.bool (bitB p k)) ∧ w = w' := by
  go_enter Try.func52, Try.ntmps52
  go_wp2
  go_ret
  refine ⟨?_, rfl⟩
  simp [bitB]

set_option maxHeartbeats 400000 in
theorem rhas (p q : Int) (w : World) :
    Calls Try.prog 45 #[.int .i64 p, .int .i64 q] w fun e w' => e = .returned (.bool (hasR p q)) ∧ w = w' := by
  go_enter Try.func45, Try.ntmps45
  go_wp2
  go_loop [5] (fun i => ∃ k : Nat, k ≤ 7 ∧ i = .int .i64 k ∧ Hid (∀ j, j < k → (!(bitB q j && !bitB p j)) = true)) (fun i => 7 - (intOf i).toNat)
  case atStart => exact ⟨0, Nat.zero_le _, rfl, fun j hj => absurd hj (by omega)⟩
  case round =>
    obtain ⟨k, hk, rfl, hall⟩ := hrel
    by_cases hlt : k < 7
    · go_wp2_with (go_at_call 52; refine (rbit _ k (by omega) _).mono ?_; rintro e w' ⟨rfl, rfl⟩)
      all_goals first
        | (go_ret
           refine ⟨?_, rfl⟩
           simp only [hasR]
           rw [all_range_false (k := k) hlt (by simp_all)]
           rfl)
        | (go_round
           case rel => exact ⟨k + 1, by omega, by go_num, upto_snoc hall.out (by simp_all)⟩
           case measure => simp [intOf]; omega)
    · obtain rfl : k = 7 := by omega
      go_wp2_with (go_at_call 37; refine (rright _ _).mono ?_; rintro e w1 ⟨rfl, rfl⟩)
      all_goals go_ret
      all_goals refine ⟨?_, rfl⟩
      all_goals simp only [hasR]; rw [all_range_true hall.out]; simp_all

set_option maxHeartbeats 400000 in
theorem raddr (n : Int) (w : World) :
    Calls Try.prog 47 #[.int .i64 n] w fun e w' => e = .returned (.bool (holdsB 0 4294967295 n)) ∧ w = w' := by
  go_enter Try.func47, Try.ntmps47
  go_wp2
  all_goals go_ret
  all_goals refine ⟨?_, rfl⟩
  all_goals (simp_all [holdsB] <;> omega)

set_option maxHeartbeats 2000000 in
theorem rcapRight (t : Bool) (b tp a p ty : Int) (w : World) :
    Calls Try.prog 27 #[.agg #[.bool t, .int .i64 b, .int .i64 tp, .int .i64 a, .int .i64 p, .int .i64 ty]] w fun e w' => e = .returned (.bool (rightC ⟨t, b, tp, a, p, ty⟩)) ∧ Ext w w' := by
  go_enter Try.func27, Try.ntmps27
  go_wp2_with (first | (go_at_call 47; refine (raddr _ _).mono ?_; rintro e w1 ⟨rfl, rfl⟩) | (go_at_call 37; refine (rright _ _).mono ?_; rintro e w1 ⟨rfl, rfl⟩))
  all_goals go_ret
  all_goals refine ⟨?_, (by repeat (first | (with_reducible exact Ext.refl _) | (with_reducible refine Ext.undrew ?_) | (with_reducible refine Ext.grow ?_ _) | (with_reducible refine Ext.drew ?_) | (with_reducible refine Ext.drewN ?_ _) | (with_reducible refine Ext.alloc ?_ _) | (with_reducible assumption) | ((with_reducible refine Ext.setCell ?_ ?_ _); rotate_left; (first | exact Nat.le_refl _ | (dsimp only; simp only [World.size_alloc, grow_size, World.size_setCell]; omega)))))⟩
  all_goals (go_tidy; simp_all [rightC] <;> (intros; exfalso; omega))

set_option maxHeartbeats 400000 in
theorem rmod (n : Int) (w : World) :
    Calls Try.prog 41 #[.int .i64 n] w fun e w' => e = .returned (.int .i64 (modR n)) ∧ w = w' := by
  go_enter Try.func41, Try.ntmps41
  go_wp2
  all_goals go_ret
  all_goals refine ⟨?_, rfl⟩
  all_goals (simp_all [modR] <;> omega)

set_option maxHeartbeats 400000 in
theorem rcapIn (t : Bool) (b tp a p ty : Int) (x n : Int) (w : World) :
    Calls Try.prog 29 #[.agg #[.bool t, .int .i64 b, .int .i64 tp, .int .i64 a, .int .i64 p, .int .i64 ty], .int .i64 x, .int .i64 n] w fun e w' => e = .returned (.bool (inR ⟨t, b, tp, a, p, ty⟩ x n)) ∧ Ext w w' := by
  go_enter Try.func29, Try.ntmps29
  go_wp2
  all_goals go_ret
  all_goals refine ⟨?_, (by repeat (first | (with_reducible exact Ext.refl _) | (with_reducible refine Ext.undrew ?_) | (with_reducible refine Ext.grow ?_ _) | (with_reducible refine Ext.drew ?_) | (with_reducible refine Ext.drewN ?_ _) | (with_reducible refine Ext.alloc ?_ _) | (with_reducible assumption) | ((with_reducible refine Ext.setCell ?_ ?_ _); rotate_left; (first | exact Nat.le_refl _ | (dsimp only; simp only [World.size_alloc, grow_size, World.size_setCell]; omega)))))⟩
  all_goals (go_tidy; simp_all [inR] <;> (first | (intros; exfalso; omega) | (have hq : x = 0 := by omega; subst hq; simp; done) | (rw [Int.max_eq_left (by omega)]; done) | (rw [Int.max_eq_left (by omega)]; simp_all; done) | skip))

set_option maxHeartbeats 400000 in
theorem rcapUnder (t : Bool) (b tp a p ty : Int) (t' : Bool) (b' tp' a' p' ty' : Int) (w : World) :
    Calls Try.prog 28 #[.agg #[.bool t, .int .i64 b, .int .i64 tp, .int .i64 a, .int .i64 p, .int .i64 ty], .agg #[.bool t', .int .i64 b', .int .i64 tp', .int .i64 a', .int .i64 p', .int .i64 ty']] w fun e w' => e = .returned (.bool (underR ⟨t, b, tp, a, p, ty⟩ ⟨t', b', tp', a', p', ty'⟩)) ∧ Ext w w' := by
  go_enter Try.func28, Try.ntmps28
  go_wp2_with (go_at_call 45; refine (rhas _ _ _).mono ?_; rintro e w1 ⟨rfl, rfl⟩)
  all_goals go_ret
  all_goals refine ⟨?_, (by repeat (first | (with_reducible exact Ext.refl _) | (with_reducible refine Ext.undrew ?_) | (with_reducible refine Ext.grow ?_ _) | (with_reducible refine Ext.drew ?_) | (with_reducible refine Ext.drewN ?_ _) | (with_reducible refine Ext.alloc ?_ _) | (with_reducible assumption) | ((with_reducible refine Ext.setCell ?_ ?_ _); rotate_left; (first | exact Nat.le_refl _ | (dsimp only; simp only [World.size_alloc, grow_size, World.size_setCell]; omega)))))⟩
  all_goals (go_tidy; simp_all [underR] <;> (intros; exfalso; omega))

end Go.Proofs.Ytnakimlicedogaa
