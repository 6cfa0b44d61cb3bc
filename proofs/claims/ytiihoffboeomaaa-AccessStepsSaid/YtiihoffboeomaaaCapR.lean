/- Layer 2: contracts of the document's own answers about capabilities. -/
import Derived.Test.YtiihoffboeomaaaCapA
import Derived.Test.YtiihoffboeomaaaRefA
namespace Go.Proofs.Ytiihoffboeomaaa
set_option linter.unusedSimpArgs false
set_option linter.unusedVariables false
open Go.RowKit
attribute [local go_sem] grow_cell grow_frozen grow_size
set_option maxHeartbeats 400000 in
theorem raddr (n : Int)  (w : World) :
    Calls Try.prog 40 #[.int .i64 n] w fun e w' => e = .returned (.bool (holdsB 0 4294967295 n)) ∧ w = w' := by
  go_enter Try.func40, Try.ntmps40
  go_wp2
  all_goals go_ret
  all_goals refine ⟨?_, rfl⟩
  all_goals (simp_all [holdsB] <;> omega)

set_option maxHeartbeats 2000000 in
theorem rcapRight (t : Bool) (b tp a p ty : Int)  (w : World) :
    Calls Try.prog 26 #[.agg #[.bool t, .int .i64 b, .int .i64 tp, .int .i64 a, .int .i64 p, .int .i64 ty]] w fun e w' => e = .returned (.bool (rightC ⟨t, b, tp, a, p, ty⟩)) ∧ Ext w w' := by
  go_enter Try.func26, Try.ntmps26
  go_wp2_with (first | (go_at_call 40; refine (raddr _ _).mono ?_; rintro e w1 ⟨rfl, rfl⟩) | (go_at_call 33; refine (rright _ _).mono ?_; rintro e w1 ⟨rfl, rfl⟩))
  all_goals go_ret
  all_goals refine ⟨?_, (by repeat (first | (with_reducible exact Ext.refl _) | (with_reducible refine Ext.grow ?_ _) | (with_reducible refine Ext.drew ?_) | (with_reducible refine Ext.drewN ?_ _) | (with_reducible refine Ext.alloc ?_ _) | ((with_reducible refine Ext.setCell ?_ ?_ _); rotate_left; (first | exact Nat.le_refl _ | (dsimp only; omega))) | (with_reducible refine Ext.trans ?_ hx1) | (with_reducible assumption)))⟩
  all_goals (go_tidy; simp_all [rightC] <;> (intros; exfalso; omega))

def modR (n : Int) : Int := if n.tmod 4294967296 < 0 then wrap64 (n.tmod 4294967296 + 4294967296) else n.tmod 4294967296
def offR (c : Cap) : Int := modR (wrap64 (modR c.at_ - modR c.base))
def inR (c : Cap) (at_ n : Int) : Bool := decide (0 ≤ at_) && decide (0 ≤ n) && decide (c.base ≤ at_) && decide (at_ ≤ c.top) && decide (n ≤ wrap64 (c.top - max at_ 0))
set_option maxHeartbeats 400000 in
theorem rcapIn (t : Bool) (b tp a p ty : Int) (x n : Int)  (w : World) :
    Calls Try.prog 35 #[.agg #[.bool t, .int .i64 b, .int .i64 tp, .int .i64 a, .int .i64 p, .int .i64 ty], .int .i64 x, .int .i64 n] w fun e w' => e = .returned (.bool (inR ⟨t, b, tp, a, p, ty⟩ x n)) ∧ Ext w w' := by
  go_enter Try.func35, Try.ntmps35
  go_wp2
  all_goals go_ret
  all_goals refine ⟨?_, (by repeat (first | (with_reducible exact Ext.refl _) | (with_reducible refine Ext.grow ?_ _) | (with_reducible refine Ext.drew ?_) | (with_reducible refine Ext.drewN ?_ _) | (with_reducible refine Ext.alloc ?_ _) | ((with_reducible refine Ext.setCell ?_ ?_ _); rotate_left; (first | exact Nat.le_refl _ | (dsimp only; omega))) | (with_reducible refine Ext.trans ?_ hx1) | (with_reducible assumption)))⟩
  all_goals (go_tidy; simp_all [inR] <;> (first | (intros; exfalso; omega) | (have hq : x = 0 := by omega; subst hq; simp; done) | (rw [Int.max_eq_left (by omega)]; done) | (rw [Int.max_eq_left (by omega)]; simp_all; done) | skip))

def underR (c d : Cap) : Bool := decide (c.base ≤ c.top) && decide (d.base ≤ c.base) && decide (c.top ≤ d.top) && hasR d.perms c.perms
set_option maxHeartbeats 400000 in
theorem rcapUnder (t : Bool) (b tp a p ty : Int) (t' : Bool) (b' tp' a' p' ty' : Int)  (w : World) :
    Calls Try.prog 27 #[.agg #[.bool t, .int .i64 b, .int .i64 tp, .int .i64 a, .int .i64 p, .int .i64 ty], .agg #[.bool t', .int .i64 b', .int .i64 tp', .int .i64 a', .int .i64 p', .int .i64 ty']] w fun e w' => e = .returned (.bool (underR ⟨t, b, tp, a, p, ty⟩ ⟨t', b', tp', a', p', ty'⟩)) ∧ Ext w w' := by
  go_enter Try.func27, Try.ntmps27
  go_wp2_with (go_at_call 25; refine (rhas _ _ _).mono ?_; rintro e w1 ⟨rfl, rfl⟩)
  all_goals go_ret
  all_goals refine ⟨?_, (by repeat (first | (with_reducible exact Ext.refl _) | (with_reducible refine Ext.grow ?_ _) | (with_reducible refine Ext.drew ?_) | (with_reducible refine Ext.drewN ?_ _) | (with_reducible refine Ext.alloc ?_ _) | ((with_reducible refine Ext.setCell ?_ ?_ _); rotate_left; (first | exact Nat.le_refl _ | (dsimp only; omega))) | (with_reducible refine Ext.trans ?_ hx1) | (with_reducible assumption)))⟩
  all_goals (go_tidy; simp_all [underR] <;> (intros; exfalso; omega))

end Go.Proofs.Ytiihoffboeomaaa
