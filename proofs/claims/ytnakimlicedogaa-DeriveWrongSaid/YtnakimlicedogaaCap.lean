/- Layer 2: contracts of package cap. -/
import Derived.Test.YtnakimlicedogaaPerm
namespace Go.Proofs.Ytnakimlicedogaa
set_option linter.unusedSimpArgs false
set_option linter.unusedVariables false
open Go.RowKit

structure Cap where
  tag : Bool
  base : Int
  top : Int
  at_ : Int
  perms : Int
  type : Int
  deriving DecidableEq
def Cap.v (c : Cap) : Value := .agg #[.bool c.tag, .int .i64 c.base, .int .i64 c.top, .int .i64 c.at_, .int .i64 c.perms, .int .i64 c.type]

def holdsB (f t a : Int) : Bool := decide (f ≤ a) && decide (a ≤ t)
def rightC (c : Cap) : Bool :=
  holdsB 0 4294967295 c.base && holdsB 0 4294967295 c.top && holdsB 0 4294967295 c.at_ && rightB c.perms && decide (0 ≤ c.type) && decide (c.type ≤ 255) && (!c.tag || (decide (c.base ≤ c.top) && decide (c.top ≤ 16777216)))
def sizeC (c : Cap) : Int := if c.top ≤ c.base then 0 else wrap64 (c.top - c.base)
def low32 (n : Int) : Int := bits .and .i64 n 4294967295
theorem low32_zero : low32 0 = 0 := by decide
def offC (c : Cap) : Int := low32 (wrap64 (c.at_ - c.base))
def inC (c : Cap) (at_ n : Int) : Bool := decide (0 ≤ at_) && decide (0 ≤ n) && decide (c.base ≤ at_) && decide (at_ ≤ c.top) && decide (n ≤ wrap64 (c.top - at_))
def rootC (n : Int) : Cap := if n < 1 ∨ n > 16777216 then ⟨false, 0, 0, 0, 0, 0⟩ else ⟨true, 0, n, 0, 127, 0⟩
def extUnder (b1 t1 p1 b2 t2 p2 : Int) : Bool := holdsB b2 t2 b1 && holdsB b2 t2 t1 && decide (b1 ≤ t1) && hasB p2 p1
def underC (c d : Cap) : Bool := extUnder c.base c.top c.perms d.base d.top d.perms

set_option maxHeartbeats 400000 in
theorem holds (f t a : Int) (w : World) :
    Calls Try.prog 50 #[.agg #[.int .i64 f, .int .i64 t], .int .i64 a] w fun e w' => e = .returned (.bool (holdsB f t a)) ∧ Ext w w' := by
  go_enter Try.func50, Try.ntmps50
  go_wp2
  all_goals go_ret
  all_goals refine ⟨?_, (by repeat (first | (with_reducible exact Ext.refl _) | (with_reducible refine Ext.undrew ?_) | (with_reducible refine Ext.grow ?_ _) | (with_reducible refine Ext.drew ?_) | (with_reducible refine Ext.drewN ?_ _) | (with_reducible refine Ext.alloc ?_ _) | (with_reducible assumption) | ((with_reducible refine Ext.setCell ?_ ?_ _); rotate_left; (first | exact Nat.le_refl _ | (dsimp only; simp only [World.size_alloc, grow_size, World.size_setCell]; omega)))))⟩
  all_goals (simp_all [holdsB] <;> omega)

set_option maxHeartbeats 2000000 in
theorem capRight (t : Bool) (b tp a p ty : Int) (w : World) :
    Calls Try.prog 38 #[.agg #[.bool t, .int .i64 b, .int .i64 tp, .int .i64 a, .int .i64 p, .int .i64 ty]] w fun e w' => e = .returned (.bool (rightC ⟨t, b, tp, a, p, ty⟩)) ∧ Ext w w' := by
  go_enter Try.func38, Try.ntmps38
  go_wp2_with (first | (go_at_call 50; refine (holds _ _ _ _).mono ?_; rintro e w1 ⟨rfl, hy⟩; obtain ⟨d, rfl⟩ := hy.grown; clear hy) | (go_at_call 36; refine (right _ _).mono ?_; rintro e w1 ⟨rfl, rfl⟩))
  all_goals go_ret
  all_goals refine ⟨?_, (by repeat (first | (with_reducible exact Ext.refl _) | (with_reducible refine Ext.undrew ?_) | (with_reducible refine Ext.grow ?_ _) | (with_reducible refine Ext.drew ?_) | (with_reducible refine Ext.drewN ?_ _) | (with_reducible refine Ext.alloc ?_ _) | (with_reducible assumption) | ((with_reducible refine Ext.setCell ?_ ?_ _); rotate_left; (first | exact Nat.le_refl _ | (dsimp only; simp only [World.size_alloc, grow_size, World.size_setCell]; omega)))))⟩
  all_goals (go_tidy; simp_all [rightC] <;> (intros; exfalso; omega))

set_option maxHeartbeats 400000 in
theorem capValue (t : Bool) (b tp a p ty : Int) (w : World) :
    Calls Try.prog 39 #[.agg #[.bool t, .int .i64 b, .int .i64 tp, .int .i64 a, .int .i64 p, .int .i64 ty]] w fun e w' => e = .returned (.int .i64 a) ∧ Ext w w' := by
  go_enter Try.func39, Try.ntmps39
  go_wp2
  all_goals go_ret
  all_goals refine ⟨?_, (by repeat (first | (with_reducible exact Ext.refl _) | (with_reducible refine Ext.undrew ?_) | (with_reducible refine Ext.grow ?_ _) | (with_reducible refine Ext.drew ?_) | (with_reducible refine Ext.drewN ?_ _) | (with_reducible refine Ext.alloc ?_ _) | (with_reducible assumption) | ((with_reducible refine Ext.setCell ?_ ?_ _); rotate_left; (first | exact Nat.le_refl _ | (dsimp only; simp only [World.size_alloc, grow_size, World.size_setCell]; omega)))))⟩
  all_goals rfl

set_option maxHeartbeats 400000 in
theorem capIn (t : Bool) (b tp a p ty : Int) (x n : Int) (w : World) :
    Calls Try.prog 33 #[.agg #[.bool t, .int .i64 b, .int .i64 tp, .int .i64 a, .int .i64 p, .int .i64 ty], .int .i64 x, .int .i64 n] w fun e w' => e = .returned (.bool (inC ⟨t, b, tp, a, p, ty⟩ x n)) ∧ Ext w w' := by
  go_enter Try.func33, Try.ntmps33
  go_wp2
  all_goals go_ret
  all_goals refine ⟨?_, (by repeat (first | (with_reducible exact Ext.refl _) | (with_reducible refine Ext.undrew ?_) | (with_reducible refine Ext.grow ?_ _) | (with_reducible refine Ext.drew ?_) | (with_reducible refine Ext.drewN ?_ _) | (with_reducible refine Ext.alloc ?_ _) | (with_reducible assumption) | ((with_reducible refine Ext.setCell ?_ ?_ _); rotate_left; (first | exact Nat.le_refl _ | (dsimp only; simp only [World.size_alloc, grow_size, World.size_setCell]; omega)))))⟩
  all_goals (go_tidy; simp_all [inC] <;> (intros; exfalso; omega))

set_option maxHeartbeats 400000 in
theorem capInt (n : Int) (w : World) :
    Calls Try.prog 40 #[.int .i64 n] w fun e w' => e = .returned (.agg #[.bool false, .int .i64 0, .int .i64 0, .int .i64 (low32 n), .int .i64 0, .int .i64 0]) ∧ Ext w w' := by
  go_enter Try.func40, Try.ntmps40
  go_wp2
  all_goals refine bodyPost_ret (v := .agg #[.bool false, .int .i64 0, .int .i64 0, .int .i64 (low32 n), .int .i64 0, .int .i64 0]) ?_ rfl ⟨rfl, (by repeat (first | (with_reducible exact Ext.refl _) | (with_reducible refine Ext.undrew ?_) | (with_reducible refine Ext.grow ?_ _) | (with_reducible refine Ext.drew ?_) | (with_reducible refine Ext.drewN ?_ _) | (with_reducible refine Ext.alloc ?_ _) | (with_reducible assumption) | ((with_reducible refine Ext.setCell ?_ ?_ _); rotate_left; (first | exact Nat.le_refl _ | (dsimp only; simp only [World.size_alloc, grow_size, World.size_setCell]; omega)))))⟩
  all_goals (simp [results, Try.results40, go_sem, low32]; done)

set_option maxHeartbeats 400000 in
theorem capOf (t : Bool) (b tp a p ty : Int) (w : World) :
    Calls Try.prog 53 #[.agg #[.bool t, .int .i64 b, .int .i64 tp, .int .i64 a, .int .i64 p, .int .i64 ty]] w fun e w' => e = .returned (.agg #[.int .i64 b, .int .i64 tp, .int .i64 p]) ∧ Ext w w' := by
  go_enter Try.func53, Try.ntmps53
  go_wp2
  all_goals refine bodyPost_ret (v := .agg #[.int .i64 b, .int .i64 tp, .int .i64 p]) ?_ rfl ⟨rfl, (by repeat (first | (with_reducible exact Ext.refl _) | (with_reducible refine Ext.undrew ?_) | (with_reducible refine Ext.grow ?_ _) | (with_reducible refine Ext.drew ?_) | (with_reducible refine Ext.drewN ?_ _) | (with_reducible refine Ext.alloc ?_ _) | (with_reducible assumption) | ((with_reducible refine Ext.setCell ?_ ?_ _); rotate_left; (first | exact Nat.le_refl _ | (dsimp only; simp only [World.size_alloc, grow_size, World.size_setCell]; omega)))))⟩
  all_goals (simp [results, Try.results53, go_sem]; done)

set_option maxHeartbeats 2000000 in
theorem extUnder_any (b1 t1 p1 b2 t2 p2 : Int) (w : World) :
    Calls Try.prog 54 #[.agg #[.int .i64 b1, .int .i64 t1, .int .i64 p1], .agg #[.int .i64 b2, .int .i64 t2, .int .i64 p2]] w fun e w' => e = .returned (.bool (extUnder b1 t1 p1 b2 t2 p2)) ∧ Ext w w' := by
  go_enter Try.func54, Try.ntmps54
  go_wp2_with (first | (go_at_call 50; refine (holds _ _ _ _).mono ?_; rintro e w1 ⟨rfl, hy⟩; obtain ⟨d, rfl⟩ := hy.grown; clear hy) | (go_at_call 44; refine (has _ _ _).mono ?_; rintro e w1 ⟨rfl, rfl⟩))
  all_goals go_ret
  all_goals refine ⟨?_, (by repeat (first | (with_reducible exact Ext.refl _) | (with_reducible refine Ext.undrew ?_) | (with_reducible refine Ext.grow ?_ _) | (with_reducible refine Ext.drew ?_) | (with_reducible refine Ext.drewN ?_ _) | (with_reducible refine Ext.alloc ?_ _) | (with_reducible assumption) | ((with_reducible refine Ext.setCell ?_ ?_ _); rotate_left; (first | exact Nat.le_refl _ | (dsimp only; simp only [World.size_alloc, grow_size, World.size_setCell]; omega)))))⟩
  all_goals (go_tidy; simp_all [extUnder] <;> (intros; exfalso; omega))

set_option maxHeartbeats 1000000 in
theorem capUnder (t : Bool) (b tp a p ty : Int) (t' : Bool) (b' tp' a' p' ty' : Int) (w : World) :
    Calls Try.prog 46 #[.agg #[.bool t, .int .i64 b, .int .i64 tp, .int .i64 a, .int .i64 p, .int .i64 ty], .agg #[.bool t', .int .i64 b', .int .i64 tp', .int .i64 a', .int .i64 p', .int .i64 ty']] w fun e w' => e = .returned (.bool (underC ⟨t, b, tp, a, p, ty⟩ ⟨t', b', tp', a', p', ty'⟩)) ∧ Ext w w' := by
  go_enter Try.func46, Try.ntmps46
  go_wp2
  refine wp_region_grow (by kernel_rfl) (by kernel_rfl) (by first | (simp only [List.append]; rfl) | rfl) ?_; (repeat (go_big_quiet_step ((first | (go_at_call 53; exact growOf (capOf _ _ _ _ _ _ _)) | (go_at_call 54; exact growOf (extUnder_any _ _ _ _ _ _ _)))))); refine wpQuiet_nil ?_; intro wq hq; obtain ⟨d, rfl⟩ := hq
  go_wp2
  go_ret
  exact ⟨rfl, (by repeat (first | (with_reducible exact Ext.refl _) | (with_reducible refine Ext.undrew ?_) | (with_reducible refine Ext.grow ?_ _) | (with_reducible refine Ext.drew ?_) | (with_reducible refine Ext.drewN ?_ _) | (with_reducible refine Ext.alloc ?_ _) | (with_reducible assumption) | ((with_reducible refine Ext.setCell ?_ ?_ _); rotate_left; (first | exact Nat.le_refl _ | (dsimp only; simp only [World.size_alloc, grow_size, World.size_setCell]; omega)))))⟩

end Go.Proofs.Ytnakimlicedogaa
