/- Layer 2: contracts of package cap. -/
import Derived.Test.YtgpeabbbeidhpaaPerm
namespace Go.Proofs.Ytgpeabbbeidhpaa
set_option linter.unusedSimpArgs false
set_option linter.unusedVariables false
open Go.RowKit

structure Cap where
  tag : Bool
  base : Int
  top : Int
  at_ : Int
  perms : Int
  type : Int
  deriving DecidableEq
def Cap.v (c : Cap) : Value := .agg #[.bool c.tag, .int .i64 c.base, .int .i64 c.top, .int .i64 c.at_, .int .i64 c.perms, .int .i64 c.type]

def holdsB (f t a : Int) : Bool := decide (f ≤ a) && decide (a ≤ t)
def rightC (c : Cap) : Bool :=
  holdsB 0 4294967295 c.base && holdsB 0 4294967295 c.top && holdsB 0 4294967295 c.at_ && rightB c.perms && decide (0 ≤ c.type) && decide (c.type ≤ 255) && (!c.tag || (decide (c.base ≤ c.top) && decide (c.top ≤ 16777216)))
def sizeC (c : Cap) : Int := if c.top ≤ c.base then 0 else wrap64 (c.top - c.base)
def low32 (n : Int) : Int := bits .and .i64 n 4294967295
theorem low32_zero : low32 0 = 0 := by decide
def offC (c : Cap) : Int := low32 (wrap64 (c.at_ - c.base))
def inC (c : Cap) (at_ n : Int) : Bool := decide (0 ≤ at_) && decide (0 ≤ n) && decide (c.base ≤ at_) && decide (at_ ≤ c.top) && decide (n ≤ wrap64 (c.top - at_))
def rootC (n : Int) : Cap := if n < 1 ∨ n > 16777216 then ⟨false, 0, 0, 0, 0, 0⟩ else ⟨true, 0, n, 0, 127, 0⟩
def extUnder (b1 t1 p1 b2 t2 p2 : Int) : Bool := holdsB b2 t2 b1 && holdsB b2 t2 t1 && decide (b1 ≤ t1) && hasB p2 p1
def underC (c d : Cap) : Bool := extUnder c.base c.top c.perms d.base d.top d.perms

set_option maxHeartbeats 400000 in
theorem holds (f t a : Int) (w : World) :
    Calls Try.prog 48 #[.agg #[.int .i64 f, .int .i64 t], .int .i64 a] w fun e w' => e = .returned (.bool (holdsB f t a)) ∧ Ext w w' := by
  go_enter Try.func48, Try.ntmps48
  go_wp2
  all_goals go_ret
  all_goals refine ⟨?_, (by repeat (first | (with_reducible exact Ext.refl _) | (with_reducible refine Ext.undrew ?_) | (with_reducible refine Ext.grow ?_ _) | (with_reducible refine Ext.drew ?_) | (with_reducible refine Ext.drewN ?_ _) | (with_reducible refine Ext.alloc ?_ _) | (with_reducible assumption) | ((with_reducible refine Ext.setCell ?_ ?_ _); rotate_left; (first | exact Nat.le_refl _ | (dsimp only; simp only [World.size_alloc, grow_size, World.size_setCell]; omega)))))⟩
  all_goals (simp_all [holdsB] <;> omega)

set_option maxHeartbeats 2000000 in
theorem capRight (t : Bool) (b tp a p ty : Int) (w : World) :
    Calls Try.prog 36 #[.agg #[.bool t, .int .i64 b, .int .i64 tp, .int .i64 a, .int .i64 p, .int .i64 ty]] w fun e w' => e = .returned (.bool (rightC ⟨t, b, tp, a, p, ty⟩)) ∧ Ext w w' := by
  go_enter Try.func36, Try.ntmps36
  go_wp2_with (first | (go_at_call 48; refine (holds _ _ _ _).mono ?_; rintro e w1 ⟨rfl, hy⟩; obtain ⟨d, rfl⟩ := hy.grown; clear hy) | (go_at_call 49; refine (right _ _).mono ?_; rintro e w1 ⟨rfl, rfl⟩))
  all_goals go_ret
  all_goals refine ⟨?_, (by repeat (first | (with_reducible exact Ext.refl _) | (with_reducible refine Ext.undrew ?_) | (with_reducible refine Ext.grow ?_ _) | (with_reducible refine Ext.drew ?_) | (with_reducible refine Ext.drewN ?_ _) | (with_reducible refine Ext.alloc ?_ _) | (with_reducible assumption) | ((with_reducible refine Ext.setCell ?_ ?_ _); rotate_left; (first | exact Nat.le_refl _ | (dsimp only; simp only [World.size_alloc, grow_size, World.size_setCell]; omega)))))⟩
  all_goals (go_tidy; simp_all [rightC] <;> (intros; exfalso; omega))

end Go.Proofs.Ytgpeabbbeidhpaa
