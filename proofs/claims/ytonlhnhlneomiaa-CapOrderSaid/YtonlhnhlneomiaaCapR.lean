/- Layer 2: contracts of the document's own answers about capabilities. -/
import Derived.Test.YtonlhnhlneomiaaCapA
import Derived.Test.YtonlhnhlneomiaaRefA
namespace Go.Proofs.Ytonlhnhlneomiaa
open Go.RowKit
attribute [local go_sem] grow_cell grow_frozen grow_size
set_option maxHeartbeats 400000 in
theorem raddr (n : Int)  (w : World) :
    Calls Try.prog 30 #[.int .i64 n] w fun e w' => e = .returned (.bool (holdsB 0 4294967295 n)) ∧ w = w' := by
  go_enter Try.func30, Try.ntmps30
  go_wp2
  all_goals go_ret
  all_goals refine ⟨?_, rfl⟩
  all_goals (simp_all [holdsB] <;> omega)

set_option maxHeartbeats 2000000 in
theorem rcapRight (t : Bool) (b tp a p ty : Int)  (w : World) :
    Calls Try.prog 12 #[.agg #[.bool t, .int .i64 b, .int .i64 tp, .int .i64 a, .int .i64 p, .int .i64 ty]] w fun e w' => e = .returned (.bool (rightC ⟨t, b, tp, a, p, ty⟩)) ∧ Ext w w' := by
  go_enter Try.func12, Try.ntmps12
  go_wp2_with (first | (go_at_call 30; refine (raddr _ _).mono ?_; rintro e w1 ⟨rfl, rfl⟩) | (go_at_call 31; refine (rright _ _).mono ?_; rintro e w1 ⟨rfl, rfl⟩))
  all_goals go_ret
  all_goals refine ⟨?_, (by repeat (first | (with_reducible exact Ext.refl _) | (with_reducible refine Ext.grow ?_ _) | (with_reducible refine Ext.drew ?_) | (with_reducible refine Ext.drewN ?_ _) | (with_reducible refine Ext.alloc ?_ _) | ((with_reducible refine Ext.setCell ?_ ?_ _); rotate_left; (first | exact Nat.le_refl _ | (dsimp only; omega))) | (with_reducible refine Ext.trans ?_ hx1) | (with_reducible assumption)))⟩
  all_goals (go_tidy; simp_all [rightC] <;> (intros; exfalso; omega))

def modR (n : Int) : Int := if n.tmod 4294967296 < 0 then wrap64 (n.tmod 4294967296 + 4294967296) else n.tmod 4294967296
set_option maxHeartbeats 400000 in
theorem rmod (n : Int)  (w : World) :
    Calls Try.prog 32 #[.int .i64 n] w fun e w' => e = .returned (.int .i64 (modR n)) ∧ w = w' := by
  go_enter Try.func32, Try.ntmps32
  go_wp2
  all_goals go_ret
  all_goals refine ⟨?_, rfl⟩
  all_goals (simp_all [modR] <;> omega)

set_option maxHeartbeats 400000 in
theorem rcapInt (n : Int)  (w : World) :
    Calls Try.prog 24 #[.int .i64 n] w fun e w' => e = .returned (.agg #[.bool false, .int .i64 0, .int .i64 0, .int .i64 (modR n), .int .i64 0, .int .i64 0]) ∧ Ext w w' := by
  go_enter Try.func24, Try.ntmps24
  go_wp2_with (go_at_call 32; refine (rmod _ _).mono ?_; rintro e w1 ⟨rfl, rfl⟩)
  all_goals
    refine bodyPost_ret (v := .agg #[.bool false, .int .i64 0, .int .i64 0, .int .i64 (modR n), .int .i64 0, .int .i64 0]) (by first | (simp [results, Try.results24, go_sem, hc1]; done) | (simp [results, Try.results24, go_sem]; done)) rfl ⟨rfl, (by repeat (first | (with_reducible exact Ext.refl _) | (with_reducible refine Ext.grow ?_ _) | (with_reducible refine Ext.drew ?_) | (with_reducible refine Ext.drewN ?_ _) | (with_reducible refine Ext.alloc ?_ _) | ((with_reducible refine Ext.setCell ?_ ?_ _); rotate_left; (first | exact Nat.le_refl _ | (dsimp only; omega))) | (with_reducible refine Ext.trans ?_ hx1) | (with_reducible assumption)))⟩

set_option maxHeartbeats 400000 in
theorem rcapValue (t : Bool) (b tp a p ty : Int)  (w : World) :
    Calls Try.prog 18 #[.agg #[.bool t, .int .i64 b, .int .i64 tp, .int .i64 a, .int .i64 p, .int .i64 ty]] w fun e w' => e = .returned (.int .i64 a) ∧ Ext w w' := by
  go_enter Try.func18, Try.ntmps18
  go_wp2
  all_goals go_ret
  all_goals refine ⟨?_, (by repeat (first | (with_reducible exact Ext.refl _) | (with_reducible refine Ext.grow ?_ _) | (with_reducible refine Ext.drew ?_) | (with_reducible refine Ext.drewN ?_ _) | (with_reducible refine Ext.alloc ?_ _) | ((with_reducible refine Ext.setCell ?_ ?_ _); rotate_left; (first | exact Nat.le_refl _ | (dsimp only; omega))) | (with_reducible refine Ext.trans ?_ hx1) | (with_reducible assumption)))⟩
  all_goals rfl

set_option maxHeartbeats 400000 in
theorem rcapSize (t : Bool) (b tp a p ty : Int)  (w : World) :
    Calls Try.prog 14 #[.agg #[.bool t, .int .i64 b, .int .i64 tp, .int .i64 a, .int .i64 p, .int .i64 ty]] w fun e w' => e = .returned (.int .i64 (sizeC ⟨t, b, tp, a, p, ty⟩)) ∧ Ext w w' := by
  go_enter Try.func14, Try.ntmps14
  go_wp2
  all_goals go_ret
  all_goals refine ⟨?_, (by repeat (first | (with_reducible exact Ext.refl _) | (with_reducible refine Ext.grow ?_ _) | (with_reducible refine Ext.drew ?_) | (with_reducible refine Ext.drewN ?_ _) | (with_reducible refine Ext.alloc ?_ _) | ((with_reducible refine Ext.setCell ?_ ?_ _); rotate_left; (first | exact Nat.le_refl _ | (dsimp only; omega))) | (with_reducible refine Ext.trans ?_ hx1) | (with_reducible assumption)))⟩
  all_goals (go_tidy; simp_all [sizeC] <;> (intros; exfalso; omega))

def offR (c : Cap) : Int := modR (wrap64 (modR c.at_ - modR c.base))
set_option maxHeartbeats 400000 in
theorem rcapOff (t : Bool) (b tp a p ty : Int) (w : World) :
    Calls Try.prog 16 #[.agg #[.bool t, .int .i64 b, .int .i64 tp, .int .i64 a, .int .i64 p, .int .i64 ty]] w fun e w' => e = .returned (.int .i64 (offR ⟨t, b, tp, a, p, ty⟩)) ∧ Ext w w' := by
  go_enter Try.func16, Try.ntmps16
  go_wp2
  refine wp_region_grow (by kernel_rfl) (by kernel_rfl) ?_; (repeat (go_big_quiet_step ((first | (go_at_call 32; exact growOfSame (rmod _ _)))))); refine wpQuiet_nil ?_; intro wq hq; have hy := Ext.ofGrow hq; clear hq; first | ((with_reducible have hn := Ext.trans hx1 hy); clear hx1 hc1 hf1 hz1; (try clear hl1); (try clear hm1); (try clear hp1); have hx1 := hn; clear hn; have hc1 := hx1.cells; have hf1 := hx1.frozens; have hz1 := hx1.size; (try simp only [World.size_alloc] at hz1); (try (have hl1 := Nat.lt_of_succ_le hz1; (try (have hm1 := Nat.lt_of_succ_lt hl1; (try have hp1 := Nat.lt_of_succ_lt hm1))))); (try ((with_reducible have hn := Ext.trans hx2 hy); clear hx2 hc2 hf2 hz2; (try clear hl2); (try clear hm2); (try clear hp2); have hx2 := hn; clear hn; have hc2 := hx2.cells; have hf2 := hx2.frozens; have hz2 := hx2.size; (try simp only [World.size_alloc] at hz2); (try (have hl2 := Nat.lt_of_succ_le hz2; (try (have hm2 := Nat.lt_of_succ_lt hl2; (try have hp2 := Nat.lt_of_succ_lt hm2))))))); (try ((with_reducible have hn := Ext.trans hx3 hy); clear hx3 hc3 hf3 hz3; (try clear hl3); (try clear hm3); (try clear hp3); have hx3 := hn; clear hn; have hc3 := hx3.cells; have hf3 := hx3.frozens; have hz3 := hx3.size; (try simp only [World.size_alloc] at hz3); (try (have hl3 := Nat.lt_of_succ_le hz3; (try (have hm3 := Nat.lt_of_succ_lt hl3; (try have hp3 := Nat.lt_of_succ_lt hm3))))))); (try ((with_reducible have hn := Ext.trans hx4 hy); clear hx4 hc4 hf4 hz4; (try clear hl4); (try clear hm4); (try clear hp4); have hx4 := hn; clear hn; have hc4 := hx4.cells; have hf4 := hx4.frozens; have hz4 := hx4.size; (try simp only [World.size_alloc] at hz4); (try (have hl4 := Nat.lt_of_succ_le hz4; (try (have hm4 := Nat.lt_of_succ_lt hl4; (try have hp4 := Nat.lt_of_succ_lt hm4))))))); (try ((with_reducible have hn := Ext.trans hx5 hy); clear hx5 hc5 hf5 hz5; (try clear hl5); (try clear hm5); (try clear hp5); have hx5 := hn; clear hn; have hc5 := hx5.cells; have hf5 := hx5.frozens; have hz5 := hx5.size; (try simp only [World.size_alloc] at hz5); (try (have hl5 := Nat.lt_of_succ_le hz5; (try (have hm5 := Nat.lt_of_succ_lt hl5; (try have hp5 := Nat.lt_of_succ_lt hm5))))))); clear hy) | ((with_reducible have hn := Ext.trans (Ext.alloc hx1 _) hy); clear hx1 hc1 hf1 hz1; (try clear hl1); (try clear hm1); (try clear hp1); have hx1 := hn; clear hn; have hc1 := hx1.cells; have hf1 := hx1.frozens; have hz1 := hx1.size; (try simp only [World.size_alloc] at hz1); (try (have hl1 := Nat.lt_of_succ_le hz1; (try (have hm1 := Nat.lt_of_succ_lt hl1; (try have hp1 := Nat.lt_of_succ_lt hm1))))); (first | ((with_reducible have hn := Ext.trans (Ext.alloc hx2 _) hy); clear hx2 hc2 hf2 hz2; (try clear hl2); (try clear hm2); (try clear hp2); have hx2 := hn; clear hn; have hc2 := hx2.cells; have hf2 := hx2.frozens; have hz2 := hx2.size; (try simp only [World.size_alloc] at hz2); (try (have hl2 := Nat.lt_of_succ_le hz2; (try (have hm2 := Nat.lt_of_succ_lt hl2; (try have hp2 := Nat.lt_of_succ_lt hm2))))); first | ((with_reducible have hn := Ext.trans (Ext.alloc hx3 _) hy); clear hx3 hc3 hf3 hz3; (try clear hl3); (try clear hm3); (try clear hp3); have hx3 := hn; clear hn; have hc3 := hx3.cells; have hf3 := hx3.frozens; have hz3 := hx3.size; (try simp only [World.size_alloc] at hz3); (try (have hl3 := Nat.lt_of_succ_le hz3; (try (have hm3 := Nat.lt_of_succ_lt hl3; (try have hp3 := Nat.lt_of_succ_lt hm3))))); first | ((with_reducible have hn := Ext.trans (Ext.alloc hx4 _) hy); clear hx4 hc4 hf4 hz4; (try clear hl4); (try clear hm4); (try clear hp4); have hx4 := hn; clear hn; have hc4 := hx4.cells; have hf4 := hx4.frozens; have hz4 := hx4.size; (try simp only [World.size_alloc] at hz4); (try (have hl4 := Nat.lt_of_succ_le hz4; (try (have hm4 := Nat.lt_of_succ_lt hl4; (try have hp4 := Nat.lt_of_succ_lt hm4))))); have hx5 := hy; have hc5 := hx5.cells; have hf5 := hx5.frozens; have hz5 := hx5.size; (try simp only [World.size_alloc] at hz5); (try (have hl5 := Nat.lt_of_succ_le hz5; (try (have hm5 := Nat.lt_of_succ_lt hl5; (try have hp5 := Nat.lt_of_succ_lt hm5)))))) | (have hx4 := hy; have hc4 := hx4.cells; have hf4 := hx4.frozens; have hz4 := hx4.size; (try simp only [World.size_alloc] at hz4); (try (have hl4 := Nat.lt_of_succ_le hz4; (try (have hm4 := Nat.lt_of_succ_lt hl4; (try have hp4 := Nat.lt_of_succ_lt hm4))))))) | (have hx3 := hy; have hc3 := hx3.cells; have hf3 := hx3.frozens; have hz3 := hx3.size; (try simp only [World.size_alloc] at hz3); (try (have hl3 := Nat.lt_of_succ_le hz3; (try (have hm3 := Nat.lt_of_succ_lt hl3; (try have hp3 := Nat.lt_of_succ_lt hm3))))))) | (have hx2 := hy; have hc2 := hx2.cells; have hf2 := hx2.frozens; have hz2 := hx2.size; (try simp only [World.size_alloc] at hz2); (try (have hl2 := Nat.lt_of_succ_le hz2; (try (have hm2 := Nat.lt_of_succ_lt hl2; (try have hp2 := Nat.lt_of_succ_lt hm2))))))); clear hy) | ((with_reducible have hn := Ext.trans (Ext.alloc (Ext.alloc hx1 _) _) hy); clear hx1 hc1 hf1 hz1; (try clear hl1); (try clear hm1); (try clear hp1); have hx1 := hn; clear hn; have hc1 := hx1.cells; have hf1 := hx1.frozens; have hz1 := hx1.size; (try simp only [World.size_alloc] at hz1); (try (have hl1 := Nat.lt_of_succ_le hz1; (try (have hm1 := Nat.lt_of_succ_lt hl1; (try have hp1 := Nat.lt_of_succ_lt hm1))))); (first | ((with_reducible have hn := Ext.trans (Ext.alloc (Ext.alloc hx2 _) _) hy); clear hx2 hc2 hf2 hz2; (try clear hl2); (try clear hm2); (try clear hp2); have hx2 := hn; clear hn; have hc2 := hx2.cells; have hf2 := hx2.frozens; have hz2 := hx2.size; (try simp only [World.size_alloc] at hz2); (try (have hl2 := Nat.lt_of_succ_le hz2; (try (have hm2 := Nat.lt_of_succ_lt hl2; (try have hp2 := Nat.lt_of_succ_lt hm2))))); first | ((with_reducible have hn := Ext.trans (Ext.alloc (Ext.alloc hx3 _) _) hy); clear hx3 hc3 hf3 hz3; (try clear hl3); (try clear hm3); (try clear hp3); have hx3 := hn; clear hn; have hc3 := hx3.cells; have hf3 := hx3.frozens; have hz3 := hx3.size; (try simp only [World.size_alloc] at hz3); (try (have hl3 := Nat.lt_of_succ_le hz3; (try (have hm3 := Nat.lt_of_succ_lt hl3; (try have hp3 := Nat.lt_of_succ_lt hm3))))); first | ((with_reducible have hn := Ext.trans (Ext.alloc (Ext.alloc hx4 _) _) hy); clear hx4 hc4 hf4 hz4; (try clear hl4); (try clear hm4); (try clear hp4); have hx4 := hn; clear hn; have hc4 := hx4.cells; have hf4 := hx4.frozens; have hz4 := hx4.size; (try simp only [World.size_alloc] at hz4); (try (have hl4 := Nat.lt_of_succ_le hz4; (try (have hm4 := Nat.lt_of_succ_lt hl4; (try have hp4 := Nat.lt_of_succ_lt hm4))))); have hx5 := hy; have hc5 := hx5.cells; have hf5 := hx5.frozens; have hz5 := hx5.size; (try simp only [World.size_alloc] at hz5); (try (have hl5 := Nat.lt_of_succ_le hz5; (try (have hm5 := Nat.lt_of_succ_lt hl5; (try have hp5 := Nat.lt_of_succ_lt hm5)))))) | (have hx4 := hy; have hc4 := hx4.cells; have hf4 := hx4.frozens; have hz4 := hx4.size; (try simp only [World.size_alloc] at hz4); (try (have hl4 := Nat.lt_of_succ_le hz4; (try (have hm4 := Nat.lt_of_succ_lt hl4; (try have hp4 := Nat.lt_of_succ_lt hm4))))))) | (have hx3 := hy; have hc3 := hx3.cells; have hf3 := hx3.frozens; have hz3 := hx3.size; (try simp only [World.size_alloc] at hz3); (try (have hl3 := Nat.lt_of_succ_le hz3; (try (have hm3 := Nat.lt_of_succ_lt hl3; (try have hp3 := Nat.lt_of_succ_lt hm3))))))) | (have hx2 := hy; have hc2 := hx2.cells; have hf2 := hx2.frozens; have hz2 := hx2.size; (try simp only [World.size_alloc] at hz2); (try (have hl2 := Nat.lt_of_succ_le hz2; (try (have hm2 := Nat.lt_of_succ_lt hl2; (try have hp2 := Nat.lt_of_succ_lt hm2))))))); clear hy) | ((with_reducible have hn := Ext.trans (Ext.alloc (Ext.alloc (Ext.alloc hx1 _) _) _) hy); clear hx1 hc1 hf1 hz1; (try clear hl1); (try clear hm1); (try clear hp1); have hx1 := hn; clear hn; have hc1 := hx1.cells; have hf1 := hx1.frozens; have hz1 := hx1.size; (try simp only [World.size_alloc] at hz1); (try (have hl1 := Nat.lt_of_succ_le hz1; (try (have hm1 := Nat.lt_of_succ_lt hl1; (try have hp1 := Nat.lt_of_succ_lt hm1))))); (first | ((with_reducible have hn := Ext.trans (Ext.alloc (Ext.alloc (Ext.alloc hx2 _) _) _) hy); clear hx2 hc2 hf2 hz2; (try clear hl2); (try clear hm2); (try clear hp2); have hx2 := hn; clear hn; have hc2 := hx2.cells; have hf2 := hx2.frozens; have hz2 := hx2.size; (try simp only [World.size_alloc] at hz2); (try (have hl2 := Nat.lt_of_succ_le hz2; (try (have hm2 := Nat.lt_of_succ_lt hl2; (try have hp2 := Nat.lt_of_succ_lt hm2))))); first | ((with_reducible have hn := Ext.trans (Ext.alloc (Ext.alloc (Ext.alloc hx3 _) _) _) hy); clear hx3 hc3 hf3 hz3; (try clear hl3); (try clear hm3); (try clear hp3); have hx3 := hn; clear hn; have hc3 := hx3.cells; have hf3 := hx3.frozens; have hz3 := hx3.size; (try simp only [World.size_alloc] at hz3); (try (have hl3 := Nat.lt_of_succ_le hz3; (try (have hm3 := Nat.lt_of_succ_lt hl3; (try have hp3 := Nat.lt_of_succ_lt hm3))))); first | ((with_reducible have hn := Ext.trans (Ext.alloc (Ext.alloc (Ext.alloc hx4 _) _) _) hy); clear hx4 hc4 hf4 hz4; (try clear hl4); (try clear hm4); (try clear hp4); have hx4 := hn; clear hn; have hc4 := hx4.cells; have hf4 := hx4.frozens; have hz4 := hx4.size; (try simp only [World.size_alloc] at hz4); (try (have hl4 := Nat.lt_of_succ_le hz4; (try (have hm4 := Nat.lt_of_succ_lt hl4; (try have hp4 := Nat.lt_of_succ_lt hm4))))); have hx5 := hy; have hc5 := hx5.cells; have hf5 := hx5.frozens; have hz5 := hx5.size; (try simp only [World.size_alloc] at hz5); (try (have hl5 := Nat.lt_of_succ_le hz5; (try (have hm5 := Nat.lt_of_succ_lt hl5; (try have hp5 := Nat.lt_of_succ_lt hm5)))))) | (have hx4 := hy; have hc4 := hx4.cells; have hf4 := hx4.frozens; have hz4 := hx4.size; (try simp only [World.size_alloc] at hz4); (try (have hl4 := Nat.lt_of_succ_le hz4; (try (have hm4 := Nat.lt_of_succ_lt hl4; (try have hp4 := Nat.lt_of_succ_lt hm4))))))) | (have hx3 := hy; have hc3 := hx3.cells; have hf3 := hx3.frozens; have hz3 := hx3.size; (try simp only [World.size_alloc] at hz3); (try (have hl3 := Nat.lt_of_succ_le hz3; (try (have hm3 := Nat.lt_of_succ_lt hl3; (try have hp3 := Nat.lt_of_succ_lt hm3))))))) | (have hx2 := hy; have hc2 := hx2.cells; have hf2 := hx2.frozens; have hz2 := hx2.size; (try simp only [World.size_alloc] at hz2); (try (have hl2 := Nat.lt_of_succ_le hz2; (try (have hm2 := Nat.lt_of_succ_lt hl2; (try have hp2 := Nat.lt_of_succ_lt hm2))))))); clear hy) | (have hx1 := hy; have hc1 := hx1.cells; have hf1 := hx1.frozens; have hz1 := hx1.size; (try simp only [World.size_alloc] at hz1); (try (have hl1 := Nat.lt_of_succ_le hz1; (try (have hm1 := Nat.lt_of_succ_lt hl1; (try have hp1 := Nat.lt_of_succ_lt hm1))))); clear hy)
  go_wp2
  go_ret
  exact ⟨rfl, (by repeat (first | (with_reducible exact Ext.refl _) | (with_reducible refine Ext.grow ?_ _) | (with_reducible refine Ext.drew ?_) | (with_reducible refine Ext.drewN ?_ _) | (with_reducible refine Ext.alloc ?_ _) | ((with_reducible refine Ext.setCell ?_ ?_ _); rotate_left; (first | exact Nat.le_refl _ | (dsimp only; omega))) | (with_reducible refine Ext.trans ?_ hx1) | (with_reducible assumption)))⟩
def inR (c : Cap) (at_ n : Int) : Bool := decide (0 ≤ at_) && decide (0 ≤ n) && decide (c.base ≤ at_) && decide (at_ ≤ c.top) && decide (n ≤ wrap64 (c.top - max at_ 0))
set_option maxHeartbeats 400000 in
theorem rcapIn (t : Bool) (b tp a p ty : Int) (x n : Int)  (w : World) :
    Calls Try.prog 20 #[.agg #[.bool t, .int .i64 b, .int .i64 tp, .int .i64 a, .int .i64 p, .int .i64 ty], .int .i64 x, .int .i64 n] w fun e w' => e = .returned (.bool (inR ⟨t, b, tp, a, p, ty⟩ x n)) ∧ Ext w w' := by
  go_enter Try.func20, Try.ntmps20
  go_wp2
  all_goals go_ret
  all_goals refine ⟨?_, (by repeat (first | (with_reducible exact Ext.refl _) | (with_reducible refine Ext.grow ?_ _) | (with_reducible refine Ext.drew ?_) | (with_reducible refine Ext.drewN ?_ _) | (with_reducible refine Ext.alloc ?_ _) | ((with_reducible refine Ext.setCell ?_ ?_ _); rotate_left; (first | exact Nat.le_refl _ | (dsimp only; omega))) | (with_reducible refine Ext.trans ?_ hx1) | (with_reducible assumption)))⟩
  all_goals (go_tidy; simp_all [inR] <;> (first | (intros; exfalso; omega) | (have hq : x = 0 := by omega; subst hq; simp; done) | (rw [Int.max_eq_left (by omega)]; done) | (rw [Int.max_eq_left (by omega)]; simp_all; done) | skip))

set_option maxHeartbeats 800000 in
theorem rcapRoot (n : Int) (w : World) :
    Calls Try.prog 26 #[.int .i64 n] w fun e w' => e = .returned (.agg #[.bool (rootC n).tag, .int .i64 (rootC n).base, .int .i64 (rootC n).top, .int .i64 (rootC n).at_, .int .i64 (rootC n).perms, .int .i64 (rootC n).type]) ∧ Ext w w' := by
  by_cases h : n < 1 ∨ n > 16777216
  · rw [show rootC n = ⟨false, 0, 0, 0, 0, 0⟩ from if_pos h]
    go_enter Try.func26, Try.ntmps26
    go_wp2
    all_goals refine bodyPost_ret (v := .agg #[.bool false, .int .i64 0, .int .i64 0, .int .i64 0, .int .i64 0, .int .i64 0]) (by simp [results, Try.results26, go_sem]) rfl ⟨rfl, (by repeat (first | (with_reducible exact Ext.refl _) | (with_reducible refine Ext.grow ?_ _) | (with_reducible refine Ext.drew ?_) | (with_reducible refine Ext.drewN ?_ _) | (with_reducible refine Ext.alloc ?_ _) | ((with_reducible refine Ext.setCell ?_ ?_ _); rotate_left; (first | exact Nat.le_refl _ | (dsimp only; omega))) | (with_reducible refine Ext.trans ?_ hx1) | (with_reducible assumption)))⟩
  · rw [show rootC n = ⟨true, 0, n, 0, 127, 0⟩ from if_neg h]
    go_enter Try.func26, Try.ntmps26
    go_wp2
    all_goals refine bodyPost_ret (v := .agg #[.bool true, .int .i64 0, .int .i64 n, .int .i64 0, .int .i64 127, .int .i64 0]) (by simp [results, Try.results26, go_sem]) rfl ⟨rfl, (by repeat (first | (with_reducible exact Ext.refl _) | (with_reducible refine Ext.grow ?_ _) | (with_reducible refine Ext.drew ?_) | (with_reducible refine Ext.drewN ?_ _) | (with_reducible refine Ext.alloc ?_ _) | ((with_reducible refine Ext.setCell ?_ ?_ _); rotate_left; (first | exact Nat.le_refl _ | (dsimp only; omega))) | (with_reducible refine Ext.trans ?_ hx1) | (with_reducible assumption)))⟩
def underR (c d : Cap) : Bool := decide (c.base ≤ c.top) && decide (d.base ≤ c.base) && decide (c.top ≤ d.top) && hasR d.perms c.perms
set_option maxHeartbeats 400000 in
theorem rcapUnder (t : Bool) (b tp a p ty : Int) (t' : Bool) (b' tp' a' p' ty' : Int)  (w : World) :
    Calls Try.prog 22 #[.agg #[.bool t, .int .i64 b, .int .i64 tp, .int .i64 a, .int .i64 p, .int .i64 ty], .agg #[.bool t', .int .i64 b', .int .i64 tp', .int .i64 a', .int .i64 p', .int .i64 ty']] w fun e w' => e = .returned (.bool (underR ⟨t, b, tp, a, p, ty⟩ ⟨t', b', tp', a', p', ty'⟩)) ∧ Ext w w' := by
  go_enter Try.func22, Try.ntmps22
  go_wp2_with (go_at_call 35; refine (rhas _ _ _).mono ?_; rintro e w1 ⟨rfl, rfl⟩)
  all_goals go_ret
  all_goals refine ⟨?_, (by repeat (first | (with_reducible exact Ext.refl _) | (with_reducible refine Ext.grow ?_ _) | (with_reducible refine Ext.drew ?_) | (with_reducible refine Ext.drewN ?_ _) | (with_reducible refine Ext.alloc ?_ _) | ((with_reducible refine Ext.setCell ?_ ?_ _); rotate_left; (first | exact Nat.le_refl _ | (dsimp only; omega))) | (with_reducible refine Ext.trans ?_ hx1) | (with_reducible assumption)))⟩
  all_goals (go_tidy; simp_all [underR] <;> (intros; exfalso; omega))

end Go.Proofs.Ytonlhnhlneomiaa
