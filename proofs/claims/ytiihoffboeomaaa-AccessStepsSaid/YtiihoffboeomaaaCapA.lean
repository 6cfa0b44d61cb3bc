/- Layer 2: contracts of package cap. -/
import Derived.Test.YtiihoffboeomaaaPermA
import Derived.Deep.QuietTactic
import Derived.BigQuiet
import Derived.Deep.RegionWith
namespace Go.Proofs.Ytiihoffboeomaaa
set_option linter.unusedSimpArgs false
set_option linter.unusedVariables false
open Go.RowKit
attribute [local go_sem] grow_cell grow_frozen grow_size

structure Cap where
  tag : Bool
  base : Int
  top : Int
  at_ : Int
  perms : Int
  type : Int
  deriving DecidableEq

def holdsB (f t a : Int) : Bool := decide (f ≤ a) && decide (a ≤ t)
set_option maxHeartbeats 400000 in
theorem holds (f t a : Int)  (w : World) :
    Calls Try.prog 41 #[.agg #[.int .i64 f, .int .i64 t], .int .i64 a] w fun e w' => e = .returned (.bool (holdsB f t a)) ∧ Ext w w' := by
  go_enter Try.func41, Try.ntmps41
  go_wp2
  all_goals go_ret
  all_goals refine ⟨?_, (by repeat (first | (with_reducible exact Ext.refl _) | (with_reducible refine Ext.grow ?_ _) | (with_reducible refine Ext.drew ?_) | (with_reducible refine Ext.drewN ?_ _) | (with_reducible refine Ext.alloc ?_ _) | ((with_reducible refine Ext.setCell ?_ ?_ _); rotate_left; (first | exact Nat.le_refl _ | (dsimp only; omega))) | (with_reducible refine Ext.trans ?_ hx1) | (with_reducible assumption)))⟩
  all_goals simp_all [holdsB] <;> omega

def rightC (c : Cap) : Bool :=
  holdsB 0 4294967295 c.base && holdsB 0 4294967295 c.top && holdsB 0 4294967295 c.at_ && rightB c.perms && decide (0 ≤ c.type) && decide (c.type ≤ 255) && (!c.tag || (decide (c.base ≤ c.top) && decide (c.top ≤ 16777216)))
set_option maxHeartbeats 2000000 in
theorem capRight (t : Bool) (b tp a p ty : Int)  (w : World) :
    Calls Try.prog 28 #[.agg #[.bool t, .int .i64 b, .int .i64 tp, .int .i64 a, .int .i64 p, .int .i64 ty]] w fun e w' => e = .returned (.bool (rightC ⟨t, b, tp, a, p, ty⟩)) ∧ Ext w w' := by
  go_enter Try.func28, Try.ntmps28
  go_wp2_with (first | ((go_at_call 41; refine (holds _ _ _ _).mono ?_; rintro e w1 ⟨rfl, hy⟩); (first | ((first | (with_reducible have hn := Ext.trans hx1 hy)); clear hx1 hc1 hf1 hz1; (try clear hl1); (try clear hm1); (try clear hp1); have hx1 := hn; clear hn; have hc1 := hx1.cells; have hf1 := hx1.frozens; have hz1 := hx1.size; (try simp only [World.size_alloc] at hz1); (try (have hl1 := Nat.lt_of_succ_le hz1; (try (have hm1 := Nat.lt_of_succ_lt hl1; (try have hp1 := Nat.lt_of_succ_lt hm1))))); (try ((first | (with_reducible have hn := Ext.trans hx2 hy)); clear hx2 hc2 hf2 hz2; (try clear hl2); (try clear hm2); (try clear hp2); have hx2 := hn; clear hn; have hc2 := hx2.cells; have hf2 := hx2.frozens; have hz2 := hx2.size; (try simp only [World.size_alloc] at hz2); (try (have hl2 := Nat.lt_of_succ_le hz2; (try (have hm2 := Nat.lt_of_succ_lt hl2; (try have hp2 := Nat.lt_of_succ_lt hm2))))); (try ((first | (with_reducible have hn := Ext.trans hx3 hy)); clear hx3 hc3 hf3 hz3; (try clear hl3); (try clear hm3); (try clear hp3); have hx3 := hn; clear hn; have hc3 := hx3.cells; have hf3 := hx3.frozens; have hz3 := hx3.size; (try simp only [World.size_alloc] at hz3); (try (have hl3 := Nat.lt_of_succ_le hz3; (try (have hm3 := Nat.lt_of_succ_lt hl3; (try have hp3 := Nat.lt_of_succ_lt hm3))))); (try ((first | (with_reducible have hn := Ext.trans hx4 hy)); clear hx4 hc4 hf4 hz4; (try clear hl4); (try clear hm4); (try clear hp4); have hx4 := hn; clear hn; have hc4 := hx4.cells; have hf4 := hx4.frozens; have hz4 := hx4.size; (try simp only [World.size_alloc] at hz4); (try (have hl4 := Nat.lt_of_succ_le hz4; (try (have hm4 := Nat.lt_of_succ_lt hl4; (try have hp4 := Nat.lt_of_succ_lt hm4))))); (try ((first | (with_reducible have hn := Ext.trans hx5 hy)); clear hx5 hc5 hf5 hz5; (try clear hl5); (try clear hm5); (try clear hp5); have hx5 := hn; clear hn; have hc5 := hx5.cells; have hf5 := hx5.frozens; have hz5 := hx5.size; (try simp only [World.size_alloc] at hz5); (try (have hl5 := Nat.lt_of_succ_le hz5; (try (have hm5 := Nat.lt_of_succ_lt hl5; (try have hp5 := Nat.lt_of_succ_lt hm5)))))))))))))) | ((first | (with_reducible have hn := Ext.trans (Ext.alloc hx1 _) hy) | (with_reducible have hn := Ext.trans (Ext.alloc (Ext.alloc hx1 _) _) hy) | (with_reducible have hn := Ext.trans (Ext.alloc (Ext.alloc (Ext.alloc hx1 _) _) _) hy)); clear hx1 hc1 hf1 hz1; (try clear hl1); (try clear hm1); (try clear hp1); have hx1 := hn; clear hn; have hc1 := hx1.cells; have hf1 := hx1.frozens; have hz1 := hx1.size; (try simp only [World.size_alloc] at hz1); (try (have hl1 := Nat.lt_of_succ_le hz1; (try (have hm1 := Nat.lt_of_succ_lt hl1; (try have hp1 := Nat.lt_of_succ_lt hm1))))); (first | ((first | (with_reducible have hn := Ext.trans (Ext.alloc hx2 _) hy) | (with_reducible have hn := Ext.trans (Ext.alloc (Ext.alloc hx2 _) _) hy) | (with_reducible have hn := Ext.trans (Ext.alloc (Ext.alloc (Ext.alloc hx2 _) _) _) hy)); clear hx2 hc2 hf2 hz2; (try clear hl2); (try clear hm2); (try clear hp2); have hx2 := hn; clear hn; have hc2 := hx2.cells; have hf2 := hx2.frozens; have hz2 := hx2.size; (try simp only [World.size_alloc] at hz2); (try (have hl2 := Nat.lt_of_succ_le hz2; (try (have hm2 := Nat.lt_of_succ_lt hl2; (try have hp2 := Nat.lt_of_succ_lt hm2))))); (first | ((first | (with_reducible have hn := Ext.trans (Ext.alloc hx3 _) hy) | (with_reducible have hn := Ext.trans (Ext.alloc (Ext.alloc hx3 _) _) hy) | (with_reducible have hn := Ext.trans (Ext.alloc (Ext.alloc (Ext.alloc hx3 _) _) _) hy)); clear hx3 hc3 hf3 hz3; (try clear hl3); (try clear hm3); (try clear hp3); have hx3 := hn; clear hn; have hc3 := hx3.cells; have hf3 := hx3.frozens; have hz3 := hx3.size; (try simp only [World.size_alloc] at hz3); (try (have hl3 := Nat.lt_of_succ_le hz3; (try (have hm3 := Nat.lt_of_succ_lt hl3; (try have hp3 := Nat.lt_of_succ_lt hm3))))); (first | ((first | (with_reducible have hn := Ext.trans (Ext.alloc hx4 _) hy) | (with_reducible have hn := Ext.trans (Ext.alloc (Ext.alloc hx4 _) _) hy) | (with_reducible have hn := Ext.trans (Ext.alloc (Ext.alloc (Ext.alloc hx4 _) _) _) hy)); clear hx4 hc4 hf4 hz4; (try clear hl4); (try clear hm4); (try clear hp4); have hx4 := hn; clear hn; have hc4 := hx4.cells; have hf4 := hx4.frozens; have hz4 := hx4.size; (try simp only [World.size_alloc] at hz4); (try (have hl4 := Nat.lt_of_succ_le hz4; (try (have hm4 := Nat.lt_of_succ_lt hl4; (try have hp4 := Nat.lt_of_succ_lt hm4))))); (have hx5 := hy; have hc5 := hx5.cells; have hf5 := hx5.frozens; have hz5 := hx5.size; (try simp only [World.size_alloc] at hz5); (try (have hl5 := Nat.lt_of_succ_le hz5; (try (have hm5 := Nat.lt_of_succ_lt hl5; (try have hp5 := Nat.lt_of_succ_lt hm5))))))) | (have hx4 := hy; have hc4 := hx4.cells; have hf4 := hx4.frozens; have hz4 := hx4.size; (try simp only [World.size_alloc] at hz4); (try (have hl4 := Nat.lt_of_succ_le hz4; (try (have hm4 := Nat.lt_of_succ_lt hl4; (try have hp4 := Nat.lt_of_succ_lt hm4)))))))) | (have hx3 := hy; have hc3 := hx3.cells; have hf3 := hx3.frozens; have hz3 := hx3.size; (try simp only [World.size_alloc] at hz3); (try (have hl3 := Nat.lt_of_succ_le hz3; (try (have hm3 := Nat.lt_of_succ_lt hl3; (try have hp3 := Nat.lt_of_succ_lt hm3)))))))) | (have hx2 := hy; have hc2 := hx2.cells; have hf2 := hx2.frozens; have hz2 := hx2.size; (try simp only [World.size_alloc] at hz2); (try (have hl2 := Nat.lt_of_succ_le hz2; (try (have hm2 := Nat.lt_of_succ_lt hl2; (try have hp2 := Nat.lt_of_succ_lt hm2)))))))) | (have hx1 := hy; have hc1 := hx1.cells; have hf1 := hx1.frozens; have hz1 := hx1.size; (try simp only [World.size_alloc] at hz1); (try (have hl1 := Nat.lt_of_succ_le hz1; (try (have hm1 := Nat.lt_of_succ_lt hl1; (try have hp1 := Nat.lt_of_succ_lt hm1))))))); clear hy) | (go_at_call 29; refine (right _ _).mono ?_; rintro e w1 ⟨rfl, rfl⟩))
  all_goals go_ret
  all_goals refine ⟨?_, (by repeat (first | (with_reducible exact Ext.refl _) | (with_reducible refine Ext.grow ?_ _) | (with_reducible refine Ext.drew ?_) | (with_reducible refine Ext.drewN ?_ _) | (with_reducible refine Ext.alloc ?_ _) | ((with_reducible refine Ext.setCell ?_ ?_ _); rotate_left; (first | exact Nat.le_refl _ | (dsimp only; omega))) | (with_reducible refine Ext.trans ?_ hx1) | (with_reducible assumption)))⟩
  all_goals (go_tidy; simp_all [rightC] <;> (intros; exfalso; omega))

def sizeC (c : Cap) : Int := if c.top ≤ c.base then 0 else wrap64 (c.top - c.base)
def low32 (n : Int) : Int := bits .and .i64 n 4294967295
theorem low32_zero : low32 0 = 0 := by decide
def offC (c : Cap) : Int := low32 (wrap64 (c.at_ - c.base))
def inC (c : Cap) (at_ n : Int) : Bool := decide (0 ≤ at_) && decide (0 ≤ n) && decide (c.base ≤ at_) && decide (at_ ≤ c.top) && decide (n ≤ wrap64 (c.top - at_))
set_option maxHeartbeats 400000 in
theorem capIn (t : Bool) (b tp a p ty : Int) (x n : Int)  (w : World) :
    Calls Try.prog 32 #[.agg #[.bool t, .int .i64 b, .int .i64 tp, .int .i64 a, .int .i64 p, .int .i64 ty], .int .i64 x, .int .i64 n] w fun e w' => e = .returned (.bool (inC ⟨t, b, tp, a, p, ty⟩ x n)) ∧ Ext w w' := by
  go_enter Try.func32, Try.ntmps32
  go_wp2
  all_goals go_ret
  all_goals refine ⟨?_, (by repeat (first | (with_reducible exact Ext.refl _) | (with_reducible refine Ext.grow ?_ _) | (with_reducible refine Ext.drew ?_) | (with_reducible refine Ext.drewN ?_ _) | (with_reducible refine Ext.alloc ?_ _) | ((with_reducible refine Ext.setCell ?_ ?_ _); rotate_left; (first | exact Nat.le_refl _ | (dsimp only; omega))) | (with_reducible refine Ext.trans ?_ hx1) | (with_reducible assumption)))⟩
  all_goals (go_tidy; simp_all [inC] <;> (intros; exfalso; omega))

def rootC (n : Int) : Cap := if n < 1 ∨ n > 16777216 then ⟨false, 0, 0, 0, 0, 0⟩ else ⟨true, 0, n, 0, 127, 0⟩
def Cap.v (c : Cap) : Value := .agg #[.bool c.tag, .int .i64 c.base, .int .i64 c.top, .int .i64 c.at_, .int .i64 c.perms, .int .i64 c.type]
def extUnder (b1 t1 p1 b2 t2 p2 : Int) : Bool := holdsB b2 t2 b1 && holdsB b2 t2 t1 && decide (b1 ≤ t1) && hasB p2 p1
def underC (c d : Cap) : Bool := extUnder c.base c.top c.perms d.base d.top d.perms
end Go.Proofs.Ytiihoffboeomaaa
