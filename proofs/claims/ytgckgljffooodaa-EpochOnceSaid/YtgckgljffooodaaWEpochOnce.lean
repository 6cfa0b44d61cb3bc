/- The walk of the law EpochOnce. -/
import Derived.Test.YtgckgljffooodaaHead09
namespace Go.Proofs.Ytgckgljffooodaa
set_option linter.unusedSimpArgs false
set_option linter.unusedVariables false
open Go.RowKit

namespace epochOnce
set_option maxRecDepth 100000 in
set_option maxHeartbeats 8000000 in
theorem walk (a0 : Int) (a1 : Int) (w : World) (w0 : (Lit.int .u8 a0).wf = true) (w1 : (Lit.int .u8 a1).wf = true) :
    Calls Try.prog 7 #[.int .u8 a0, .int .u8 a1] w fun e w' => e = .returned (.bool true) ∧ Ext w w' := by
  obtain ⟨a0l, a0h⟩ := wfu8 w0
  obtain ⟨a1l, a1h⟩ := wfu8 w1
  clear w0 w1
  go_enter Try.func7, Try.ntmps7
  go_wp2_with (first | (go_at_call 8; refine (head _).mono ?_; rintro e wh ⟨rfl, hxh⟩) | (go_at_call 9; refine (new _).mono ?_; rintro e w1 ⟨b1, rfl, hx1, hb1, hk1⟩))
  have hx1 := hxh.trans hx1
  have hw1 : w.heap.size ≤ b1 := Nat.le_trans hxh.size hb1
  clear hxh
  go_loopw [7] (fun i wr => ∃ (k : Nat), (k : Int) ≤ a0 + 1 ∧ i = .int .i64 k ∧ Hid (Clk wr b1 k) ∧ Ext w wr) (fun i _ => a0.toNat + 1 - (intOf i).toNat)
  case atStart => exact ⟨0, by omega, rfl, hid hk1, hx1⟩
  case round =>
    obtain ⟨k, hk, rfl, hc1, hx⟩ := hrel
    clear hk1 hx1
    obtain ⟨c1b, c1c, c1f⟩ := hc1.out
    by_cases hlt : (k : Int) ≤ a0
    · have hb1' := whenT_bd a1
      have hov : decide (whenT k ≤ (k : Int)) = false := by
        unfold whenT
        rw [clampT_of (by omega) (by omega)]
        simp
        omega
      cases ho : oddB (k : Int)
      · have e1 := beginT_even ho
        go_wp2_with (first | (go_at_call 19; refine (over b1 (k : Int) _ _ (Clk.mk (by (try simp only [World.size_alloc, grow_size, World.size_setCell] at *); omega) (by simp [go_sem, *] <;> omega) (by simp [go_sem, *] <;> omega)) (by omega) (by omega) (by omega) (by omega)).mono ?_; rintro e w1 ⟨rfl, hy⟩; obtain ⟨d, rfl⟩ := hy.grown; clear hy) | (go_at_call 15; refine (now b1 (k : Int) _ (Clk.mk (by (try simp only [World.size_alloc, grow_size, World.size_setCell] at *); omega) (by simp [go_sem, *] <;> omega) (by simp [go_sem, *] <;> omega)) (by omega) (by omega)).mono ?_; rintro e w1 ⟨rfl, rfl⟩) | (go_at_call 21; refine (when_ _ _ (by omega) (by omega)).mono ?_; rintro e w1 ⟨rfl, rfl⟩) | (go_at_call 11; refine (begin_ b1 (k : Int) _ (Clk.mk (by (try simp only [World.size_alloc, grow_size, World.size_setCell] at *); omega) (by simp [go_sem, *] <;> omega) (by simp [go_sem, *] <;> omega)) (by omega) (by omega)).mono ?_; rintro e w1 ⟨rfl, d, rfl⟩))
        go_roundw
        case rel => exact ⟨k + 1, by omega, by go_num, hid (Clk.mk (by (try simp only [World.size_alloc, grow_size, World.size_setCell] at *); omega) (by simp [go_sem, *] <;> omega) (by simp [go_sem, *] <;> omega)), (by repeat (first | (with_reducible exact Ext.refl _) | (with_reducible refine Ext.undrew ?_) | (with_reducible refine Ext.grow ?_ _) | (with_reducible refine Ext.drew ?_) | (with_reducible refine Ext.drewN ?_ _) | (with_reducible refine Ext.alloc ?_ _) | (with_reducible assumption) | ((with_reducible refine Ext.setCell ?_ ?_ _); rotate_left; (first | exact Nat.le_refl _ | ((try dsimp only); (try simp only [World.size_alloc, grow_size, World.size_setCell]); omega)))))⟩
        case measure => simp [intOf]; omega
      · have e1 := beginT_odd ho
        have e2 := endT_odd ho
        go_wp2_with (first | (go_at_call 19; refine (over b1 (k : Int) _ _ (Clk.mk (by (try simp only [World.size_alloc, grow_size, World.size_setCell] at *); omega) (by simp [go_sem, *] <;> omega) (by simp [go_sem, *] <;> omega)) (by omega) (by omega) (by omega) (by omega)).mono ?_; rintro e w1 ⟨rfl, hy⟩; obtain ⟨d, rfl⟩ := hy.grown; clear hy) | (go_at_call 15; refine (now b1 (k : Int) _ (Clk.mk (by (try simp only [World.size_alloc, grow_size, World.size_setCell] at *); omega) (by simp [go_sem, *] <;> omega) (by simp [go_sem, *] <;> omega)) (by omega) (by omega)).mono ?_; rintro e w1 ⟨rfl, rfl⟩) | (go_at_call 21; refine (when_ _ _ (by omega) (by omega)).mono ?_; rintro e w1 ⟨rfl, rfl⟩) | (go_at_call 11; refine (begin_ b1 (k : Int) _ (Clk.mk (by (try simp only [World.size_alloc, grow_size, World.size_setCell] at *); omega) (by simp [go_sem, *] <;> omega) (by simp [go_sem, *] <;> omega)) (by omega) (by omega)).mono ?_; rintro e w1 ⟨rfl, d, rfl⟩) | (go_at_call 13; refine (end_ b1 (k : Int) _ (Clk.mk (by (try simp only [World.size_alloc, grow_size, World.size_setCell] at *); omega) (by simp [go_sem, *] <;> omega) (by simp [go_sem, *] <;> omega)) (by omega) (by omega)).mono ?_; rintro e w1 ⟨rfl, d, rfl⟩))
        go_roundw
        case rel => exact ⟨k + 1, by omega, by go_num, hid (Clk.mk (by (try simp only [World.size_alloc, grow_size, World.size_setCell] at *); omega) (by simp [go_sem, *] <;> omega) (by simp [go_sem, *] <;> omega)), (by repeat (first | (with_reducible exact Ext.refl _) | (with_reducible refine Ext.undrew ?_) | (with_reducible refine Ext.grow ?_ _) | (with_reducible refine Ext.drew ?_) | (with_reducible refine Ext.drewN ?_ _) | (with_reducible refine Ext.alloc ?_ _) | (with_reducible assumption) | ((with_reducible refine Ext.setCell ?_ ?_ _); rotate_left; (first | exact Nat.le_refl _ | ((try dsimp only); (try simp only [World.size_alloc, grow_size, World.size_setCell]); omega)))))⟩
        case measure => simp [intOf]; omega
    · have hk' : (k : Int) = a0 + 1 := by omega
      have HK := hid hk'
      have hq : ((k : Int) == a0 + 1) = true := by rw [hk']; simp
      clear hk'
      go_wp2_with (first | (go_at_call 15; refine (now b1 (k : Int) _ (Clk.mk (by (try simp only [World.size_alloc, grow_size, World.size_setCell] at *); omega) (by simp [go_sem, *] <;> omega) (by simp [go_sem, *] <;> omega)) (by omega) (by omega)).mono ?_; rintro e w1 ⟨rfl, rfl⟩))
      go_ret
      exact ⟨rfl, (by repeat (first | (with_reducible exact Ext.refl _) | (with_reducible refine Ext.undrew ?_) | (with_reducible refine Ext.grow ?_ _) | (with_reducible refine Ext.drew ?_) | (with_reducible refine Ext.drewN ?_ _) | (with_reducible refine Ext.alloc ?_ _) | (with_reducible assumption) | ((with_reducible refine Ext.setCell ?_ ?_ _); rotate_left; (first | exact Nat.le_refl _ | ((try dsimp only); (try simp only [World.size_alloc, grow_size, World.size_setCell]); omega)))))⟩
end epochOnce

end Go.Proofs.Ytgckgljffooodaa
