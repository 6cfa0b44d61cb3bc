/- Layer 9: the live question of the laws. -/
import Derived.Test.YtgckgljffooodaaEpo
import Derived.Test.YtgckgljffooodaaLawB
namespace Go.Proofs.Ytgckgljffooodaa
set_option linter.unusedSimpArgs false
set_option linter.unusedVariables false
open Go.RowKit


theorem Clk.mk {w : World} {b : Nat} {t : Int} (h1 : b < w.heap.size) (h2 : w.cell? ⟨b, 0, none⟩ = some (.int .i64 t)) (h3 : w.frozen? ⟨b, 0, none⟩ = false) : Clk w b t := ⟨h1, h2, h3⟩
theorem oddB_no {t : Int} (h : oddB t = false) : t % 2 = 0 := by simp [oddB] at h; omega
theorem Clk.ext {w w' : World} {b : Nat} {t : Int} (h : Clk w b t) (x : Ext w w') : Clk w' b t :=
  ⟨Nat.lt_of_lt_of_le h.1 x.size, by rw [x.cells b _ h.1]; exact h.2.1, by rw [x.frozens b _ h.1]; exact h.2.2⟩
theorem beginT_bd {t : Int} (h : 0 ≤ t) : 0 ≤ beginT t ∧ beginT t ≤ t + 1 := by unfold beginT; split <;> omega
theorem endT_bd {t : Int} (h : 0 ≤ t) : 0 ≤ endT t ∧ endT t ≤ t + 1 := by unfold endT; split <;> omega
theorem wf64 {n : Int} (h : (Lit.int .i64 n).wf = true) : -9223372036854775808 ≤ n ∧ n ≤ 9223372036854775807 := by
  simpa [Lit.wf, IntKind.min, IntKind.max, IntKind.signed, IntKind.bits] using h
theorem wfu8 {n : Int} (h : (Lit.int .u8 n).wf = true) : 0 ≤ n ∧ n ≤ 255 := by
  simpa [Lit.wf, IntKind.min, IntKind.max, IntKind.signed, IntKind.bits] using h
theorem wfu16 {n : Int} (h : (Lit.int .u16 n).wf = true) : 0 ≤ n ∧ n ≤ 65535 := by
  simpa [Lit.wf, IntKind.min, IntKind.max, IntKind.signed, IntKind.bits] using h
theorem wfu32 {n : Int} (h : (Lit.int .u32 n).wf = true) : 0 ≤ n ∧ n ≤ 4294967295 := by
  simpa [Lit.wf, IntKind.min, IntKind.max, IntKind.signed, IntKind.bits] using h


set_option maxRecDepth 100000 in
set_option maxHeartbeats 8000000 in
theorem head (w : World) : Calls Try.prog 8 #[] w fun e w' => e = .returned (.bool true) ∧ Ext w w' := by
  have e0 : whenT 0 = 2 := by decide
  have e1 : whenT 1 = 4 := by decide
  have e3 : whenT 3 = 6 := by decide
  have e4 : whenT 4 = 6 := by decide
  have e5 : whenT (-5) = 2 := by decide
  have f0 : beginT 0 = 1 := by decide
  have f1 : beginT 1 = 1 := by decide
  have f2 : endT 0 = 0 := by decide
  have f3 : endT 1 = 2 := by decide
  have g0 : oddB 0 = false := by decide
  have g1 : oddB 1 = true := by decide
  have g2 : oddB 2 = false := by decide
  go_enter Try.func8, Try.ntmps8
  go_wp2_with fail
  refine (new _).mono ?_; rintro e w1 ⟨b1, rfl, hx1, hb1, hk1⟩
  obtain ⟨c1b, c1c, c1f⟩ := hk1
  go_wp2_with fail
  refine (end_ b1 0 _ (Clk.mk (by (try simp only [World.size_alloc, grow_size, World.size_setCell] at *); omega) (by simp [go_sem, *] <;> omega) (by simp [go_sem, *] <;> omega)) (by omega) (by omega)).mono ?_; rintro e w1 ⟨rfl, d, rfl⟩
  go_wp2_with fail
  refine (begin_ b1 0 _ (Clk.mk (by (try simp only [World.size_alloc, grow_size, World.size_setCell] at *); omega) (by simp [go_sem, *] <;> omega) (by simp [go_sem, *] <;> omega)) (by omega) (by omega)).mono ?_; rintro e w1 ⟨rfl, d, rfl⟩
  go_wp2_with fail
  refine (begin_ b1 1 _ (Clk.mk (by (try simp only [World.size_alloc, grow_size, World.size_setCell] at *); omega) (by simp [go_sem, *] <;> omega) (by simp [go_sem, *] <;> omega)) (by omega) (by omega)).mono ?_; rintro e w1 ⟨rfl, d, rfl⟩
  go_wp2_with fail
  refine (over b1 1 0 _ (Clk.mk (by (try simp only [World.size_alloc, grow_size, World.size_setCell] at *); omega) (by simp [go_sem, *] <;> omega) (by simp [go_sem, *] <;> omega)) (by omega) (by omega) (by omega) (by omega)).mono ?_; rintro e w1 ⟨rfl, hy⟩; obtain ⟨d, rfl⟩ := hy.grown; clear hy
  go_wp2_with fail
  refine (end_ b1 1 _ (Clk.mk (by (try simp only [World.size_alloc, grow_size, World.size_setCell] at *); omega) (by simp [go_sem, *] <;> omega) (by simp [go_sem, *] <;> omega)) (by omega) (by omega)).mono ?_; rintro e w1 ⟨rfl, d, rfl⟩
  go_wp2_with (first | (go_at_call 15; refine (now b1 2 _ (Clk.mk (by (try simp only [World.size_alloc, grow_size, World.size_setCell] at *); omega) (by simp [go_sem, *] <;> omega) (by simp [go_sem, *] <;> omega)) (by omega) (by omega)).mono ?_; rintro e w1 ⟨rfl, rfl⟩) | (go_at_call 17; refine (runs b1 2 _ (Clk.mk (by (try simp only [World.size_alloc, grow_size, World.size_setCell] at *); omega) (by simp [go_sem, *] <;> omega) (by simp [go_sem, *] <;> omega)) (by omega) (by omega)).mono ?_; rintro e w1 ⟨rfl, rfl⟩) | (go_at_call 19; refine (over b1 2 _ _ (Clk.mk (by (try simp only [World.size_alloc, grow_size, World.size_setCell] at *); omega) (by simp [go_sem, *] <;> omega) (by simp [go_sem, *] <;> omega)) (by omega) (by omega) (by omega) (by omega)).mono ?_; rintro e w1 ⟨rfl, hy⟩; obtain ⟨d, rfl⟩ := hy.grown; clear hy) | (go_at_call 21; refine (when_ _ _ (by omega) (by omega)).mono ?_; rintro e w1 ⟨rfl, rfl⟩))
  all_goals go_ret
  all_goals exact ⟨rfl, (by repeat (first | (with_reducible exact Ext.refl _) | (with_reducible refine Ext.undrew ?_) | (with_reducible refine Ext.grow ?_ _) | (with_reducible refine Ext.drew ?_) | (with_reducible refine Ext.drewN ?_ _) | (with_reducible refine Ext.alloc ?_ _) | (with_reducible assumption) | ((with_reducible refine Ext.setCell ?_ ?_ _); rotate_left; (first | exact Nat.le_refl _ | ((try dsimp only); (try simp only [World.size_alloc, grow_size, World.size_setCell]); omega)))))⟩

end Go.Proofs.Ytgckgljffooodaa
