/- Layer 11: sizes, as the document has them. -/
import Derived.Test.YtgnkcinmpinknaaDoorSizA
namespace Go.Proofs.YtgnkcinmpinknaaDoor
set_option linter.unusedSimpArgs false
set_option linter.unusedVariables false
open Go.RowKit

set_option maxRecDepth 100000 in
set_option maxHeartbeats 4000000 in
theorem sizes_  (w : World) (h : Tab w) :
    Calls Tryd.prog 14 #[] w fun e w' => e = .returned (.slice (some ⟨w.heap.size, 0, none⟩) 14 14) ∧ w' = w.alloc (.cells #[.int .i64 16, .int .i64 32, .int .i64 48, .int .i64 64, .int .i64 80, .int .i64 96, .int .i64 112, .int .i64 128, .int .i64 192, .int .i64 256, .int .i64 384, .int .i64 512, .int .i64 768, .int .i64 1024] 34) := by
  obtain ⟨c0, c1, c2, c3, c4, c5, c6, c7, c8, c9, c10, c11, c12, c13, hb⟩ := h
  go_enter Tryd.func14, Tryd.ntmps14
  go_wp2
  go_ret
  exact ⟨rfl, rfl⟩

set_option maxRecDepth 100000 in
set_option maxHeartbeats 4000000 in
theorem rsizes  (w : World) :
    Calls Tryd.prog 15 #[] w fun e w' => e = .returned (.slice (some ⟨w.heap.size, 0, none⟩) 14 14) ∧ w' = w.alloc (.cells #[.int .i64 16, .int .i64 32, .int .i64 48, .int .i64 64, .int .i64 80, .int .i64 96, .int .i64 112, .int .i64 128, .int .i64 192, .int .i64 256, .int .i64 384, .int .i64 512, .int .i64 768, .int .i64 1024] 3) := by
  go_enter Tryd.func15, Tryd.ntmps15
  go_wp2
  go_ret
  exact ⟨rfl, rfl⟩

set_option maxRecDepth 100000 in
set_option maxHeartbeats 16000000 in
theorem rround (n : Int) (w : World) :
    Calls Tryd.prog 10 #[.int .i64 n] w fun e w' => e = .returned (.tuple #[.int .i64 (roundT n), .bool (roundB n)]) ∧ Ext w w' := by
  by_cases h0 : n < 0
  · have e2 : roundT n = 0 := by unfold roundT; rw [if_pos h0]
    have e3 : roundB n = false := by unfold roundB; simp; omega
    rw [e2, e3]
    clear e2 e3
    go_enter Tryd.func10, Tryd.ntmps10
    go_wp2
    go_ret2
    exact ⟨rfl, (by repeat (first | (with_reducible exact Ext.refl _) | (with_reducible refine Ext.undrew ?_) | (with_reducible refine Ext.grow ?_ _) | (with_reducible refine Ext.drew ?_) | (with_reducible refine Ext.drewN ?_ _) | (with_reducible refine Ext.alloc ?_ _) | (with_reducible assumption) | ((with_reducible refine Ext.setCell ?_ ?_ _); rotate_left; (first | exact Nat.le_refl _ | ((try dsimp only); (try simp only [World.size_alloc, grow_size, World.size_setCell]); omega)))))⟩
  by_cases h1 : 65536 < n
  · have e2 : roundT n = 0 := by unfold roundT; rw [if_neg h0, if_pos h1]
    have e3 : roundB n = false := by unfold roundB; simp; omega
    rw [e2, e3]
    clear e2 e3
    go_enter Tryd.func10, Tryd.ntmps10
    go_wp2
    go_ret2
    exact ⟨rfl, (by repeat (first | (with_reducible exact Ext.refl _) | (with_reducible refine Ext.undrew ?_) | (with_reducible refine Ext.grow ?_ _) | (with_reducible refine Ext.drew ?_) | (with_reducible refine Ext.drewN ?_ _) | (with_reducible refine Ext.alloc ?_ _) | (with_reducible assumption) | ((with_reducible refine Ext.setCell ?_ ?_ _); rotate_left; (first | exact Nat.le_refl _ | ((try dsimp only); (try simp only [World.size_alloc, grow_size, World.size_setCell]); omega)))))⟩
  by_cases k0 : n ≤ 16
  · have e2 : roundT n = 16 := by unfold roundT; rw [if_neg h0, if_neg h1, if_pos k0]
    have e3 : roundB n = true := by unfold roundB; simp; omega
    rw [e2, e3]
    clear e2 e3
    have d0 : decide (n ≤ 16) = true := by simp; omega
    go_enter Tryd.func10, Tryd.ntmps10
    go_wp2_with (go_at_call 15; refine (rsizes _).mono ?_; rintro e w1 ⟨rfl, rfl⟩)
    refine wp_loop_rounds 1 ?_
    rw [rounds_succ]
    go_wp2
    go_ret2
    exact ⟨rfl, (by repeat (first | (with_reducible exact Ext.refl _) | (with_reducible refine Ext.undrew ?_) | (with_reducible refine Ext.grow ?_ _) | (with_reducible refine Ext.drew ?_) | (with_reducible refine Ext.drewN ?_ _) | (with_reducible refine Ext.alloc ?_ _) | (with_reducible assumption) | ((with_reducible refine Ext.setCell ?_ ?_ _); rotate_left; (first | exact Nat.le_refl _ | ((try dsimp only); (try simp only [World.size_alloc, grow_size, World.size_setCell]); omega)))))⟩
  by_cases k1 : n ≤ 32
  · have e2 : roundT n = 32 := by unfold roundT; rw [if_neg h0, if_neg h1, if_neg k0, if_pos k1]
    have e3 : roundB n = true := by unfold roundB; simp; omega
    rw [e2, e3]
    clear e2 e3
    have d0 : decide (n ≤ 16) = false := by simp; omega
    have d1 : decide (n ≤ 32) = true := by simp; omega
    go_enter Tryd.func10, Tryd.ntmps10
    go_wp2_with (go_at_call 15; refine (rsizes _).mono ?_; rintro e w1 ⟨rfl, rfl⟩)
    refine wp_loop_rounds 2 ?_
    rw [rounds_succ]
    go_wp2
    rw [rounds_succ]
    go_wp2
    go_ret2
    exact ⟨rfl, (by repeat (first | (with_reducible exact Ext.refl _) | (with_reducible refine Ext.undrew ?_) | (with_reducible refine Ext.grow ?_ _) | (with_reducible refine Ext.drew ?_) | (with_reducible refine Ext.drewN ?_ _) | (with_reducible refine Ext.alloc ?_ _) | (with_reducible assumption) | ((with_reducible refine Ext.setCell ?_ ?_ _); rotate_left; (first | exact Nat.le_refl _ | ((try dsimp only); (try simp only [World.size_alloc, grow_size, World.size_setCell]); omega)))))⟩
  by_cases k2 : n ≤ 48
  · have e2 : roundT n = 48 := by unfold roundT; rw [if_neg h0, if_neg h1, if_neg k0, if_neg k1, if_pos k2]
    have e3 : roundB n = true := by unfold roundB; simp; omega
    rw [e2, e3]
    clear e2 e3
    have d0 : decide (n ≤ 16) = false := by simp; omega
    have d1 : decide (n ≤ 32) = false := by simp; omega
    have d2 : decide (n ≤ 48) = true := by simp; omega
    go_enter Tryd.func10, Tryd.ntmps10
    go_wp2_with (go_at_call 15; refine (rsizes _).mono ?_; rintro e w1 ⟨rfl, rfl⟩)
    refine wp_loop_rounds 3 ?_
    rw [rounds_succ]
    go_wp2
    rw [rounds_succ]
    go_wp2
    rw [rounds_succ]
    go_wp2
    go_ret2
    exact ⟨rfl, (by repeat (first | (with_reducible exact Ext.refl _) | (with_reducible refine Ext.undrew ?_) | (with_reducible refine Ext.grow ?_ _) | (with_reducible refine Ext.drew ?_) | (with_reducible refine Ext.drewN ?_ _) | (with_reducible refine Ext.alloc ?_ _) | (with_reducible assumption) | ((with_reducible refine Ext.setCell ?_ ?_ _); rotate_left; (first | exact Nat.le_refl _ | ((try dsimp only); (try simp only [World.size_alloc, grow_size, World.size_setCell]); omega)))))⟩
  by_cases k3 : n ≤ 64
  · have e2 : roundT n = 64 := by unfold roundT; rw [if_neg h0, if_neg h1, if_neg k0, if_neg k1, if_neg k2, if_pos k3]
    have e3 : roundB n = true := by unfold roundB; simp; omega
    rw [e2, e3]
    clear e2 e3
    have d0 : decide (n ≤ 16) = false := by simp; omega
    have d1 : decide (n ≤ 32) = false := by simp; omega
    have d2 : decide (n ≤ 48) = false := by simp; omega
    have d3 : decide (n ≤ 64) = true := by simp; omega
    go_enter Tryd.func10, Tryd.ntmps10
    go_wp2_with (go_at_call 15; refine (rsizes _).mono ?_; rintro e w1 ⟨rfl, rfl⟩)
    refine wp_loop_rounds 4 ?_
    rw [rounds_succ]
    go_wp2
    rw [rounds_succ]
    go_wp2
    rw [rounds_succ]
    go_wp2
    rw [rounds_succ]
    go_wp2
    go_ret2
    exact ⟨rfl, (by repeat (first | (with_reducible exact Ext.refl _) | (with_reducible refine Ext.undrew ?_) | (with_reducible refine Ext.grow ?_ _) | (with_reducible refine Ext.drew ?_) | (with_reducible refine Ext.drewN ?_ _) | (with_reducible refine Ext.alloc ?_ _) | (with_reducible assumption) | ((with_reducible refine Ext.setCell ?_ ?_ _); rotate_left; (first | exact Nat.le_refl _ | ((try dsimp only); (try simp only [World.size_alloc, grow_size, World.size_setCell]); omega)))))⟩
  by_cases k4 : n ≤ 80
  · have e2 : roundT n = 80 := by unfold roundT; rw [if_neg h0, if_neg h1, if_neg k0, if_neg k1, if_neg k2, if_neg k3, if_pos k4]
    have e3 : roundB n = true := by unfold roundB; simp; omega
    rw [e2, e3]
    clear e2 e3
    have d0 : decide (n ≤ 16) = false := by simp; omega
    have d1 : decide (n ≤ 32) = false := by simp; omega
    have d2 : decide (n ≤ 48) = false := by simp; omega
    have d3 : decide (n ≤ 64) = false := by simp; omega
    have d4 : decide (n ≤ 80) = true := by simp; omega
    go_enter Tryd.func10, Tryd.ntmps10
    go_wp2_with (go_at_call 15; refine (rsizes _).mono ?_; rintro e w1 ⟨rfl, rfl⟩)
    refine wp_loop_rounds 5 ?_
    rw [rounds_succ]
    go_wp2
    rw [rounds_succ]
    go_wp2
    rw [rounds_succ]
    go_wp2
    rw [rounds_succ]
    go_wp2
    rw [rounds_succ]
    go_wp2
    go_ret2
    exact ⟨rfl, (by repeat (first | (with_reducible exact Ext.refl _) | (with_reducible refine Ext.undrew ?_) | (with_reducible refine Ext.grow ?_ _) | (with_reducible refine Ext.drew ?_) | (with_reducible refine Ext.drewN ?_ _) | (with_reducible refine Ext.alloc ?_ _) | (with_reducible assumption) | ((with_reducible refine Ext.setCell ?_ ?_ _); rotate_left; (first | exact Nat.le_refl _ | ((try dsimp only); (try simp only [World.size_alloc, grow_size, World.size_setCell]); omega)))))⟩
  by_cases k5 : n ≤ 96
  · have e2 : roundT n = 96 := by unfold roundT; rw [if_neg h0, if_neg h1, if_neg k0, if_neg k1, if_neg k2, if_neg k3, if_neg k4, if_pos k5]
    have e3 : roundB n = true := by unfold roundB; simp; omega
    rw [e2, e3]
    clear e2 e3
    have d0 : decide (n ≤ 16) = false := by simp; omega
    have d1 : decide (n ≤ 32) = false := by simp; omega
    have d2 : decide (n ≤ 48) = false := by simp; omega
    have d3 : decide (n ≤ 64) = false := by simp; omega
    have d4 : decide (n ≤ 80) = false := by simp; omega
    have d5 : decide (n ≤ 96) = true := by simp; omega
    go_enter Tryd.func10, Tryd.ntmps10
    go_wp2_with (go_at_call 15; refine (rsizes _).mono ?_; rintro e w1 ⟨rfl, rfl⟩)
    refine wp_loop_rounds 6 ?_
    rw [rounds_succ]
    go_wp2
    rw [rounds_succ]
    go_wp2
    rw [rounds_succ]
    go_wp2
    rw [rounds_succ]
    go_wp2
    rw [rounds_succ]
    go_wp2
    rw [rounds_succ]
    go_wp2
    go_ret2
    exact ⟨rfl, (by repeat (first | (with_reducible exact Ext.refl _) | (with_reducible refine Ext.undrew ?_) | (with_reducible refine Ext.grow ?_ _) | (with_reducible refine Ext.drew ?_) | (with_reducible refine Ext.drewN ?_ _) | (with_reducible refine Ext.alloc ?_ _) | (with_reducible assumption) | ((with_reducible refine Ext.setCell ?_ ?_ _); rotate_left; (first | exact Nat.le_refl _ | ((try dsimp only); (try simp only [World.size_alloc, grow_size, World.size_setCell]); omega)))))⟩
  by_cases k6 : n ≤ 112
  · have e2 : roundT n = 112 := by unfold roundT; rw [if_neg h0, if_neg h1, if_neg k0, if_neg k1, if_neg k2, if_neg k3, if_neg k4, if_neg k5, if_pos k6]
    have e3 : roundB n = true := by unfold roundB; simp; omega
    rw [e2, e3]
    clear e2 e3
    have d0 : decide (n ≤ 16) = false := by simp; omega
    have d1 : decide (n ≤ 32) = false := by simp; omega
    have d2 : decide (n ≤ 48) = false := by simp; omega
    have d3 : decide (n ≤ 64) = false := by simp; omega
    have d4 : decide (n ≤ 80) = false := by simp; omega
    have d5 : decide (n ≤ 96) = false := by simp; omega
    have d6 : decide (n ≤ 112) = true := by simp; omega
    go_enter Tryd.func10, Tryd.ntmps10
    go_wp2_with (go_at_call 15; refine (rsizes _).mono ?_; rintro e w1 ⟨rfl, rfl⟩)
    refine wp_loop_rounds 7 ?_
    rw [rounds_succ]
    go_wp2
    rw [rounds_succ]
    go_wp2
    rw [rounds_succ]
    go_wp2
    rw [rounds_succ]
    go_wp2
    rw [rounds_succ]
    go_wp2
    rw [rounds_succ]
    go_wp2
    rw [rounds_succ]
    go_wp2
    go_ret2
    exact ⟨rfl, (by repeat (first | (with_reducible exact Ext.refl _) | (with_reducible refine Ext.undrew ?_) | (with_reducible refine Ext.grow ?_ _) | (with_reducible refine Ext.drew ?_) | (with_reducible refine Ext.drewN ?_ _) | (with_reducible refine Ext.alloc ?_ _) | (with_reducible assumption) | ((with_reducible refine Ext.setCell ?_ ?_ _); rotate_left; (first | exact Nat.le_refl _ | ((try dsimp only); (try simp only [World.size_alloc, grow_size, World.size_setCell]); omega)))))⟩
  by_cases k7 : n ≤ 128
  · have e2 : roundT n = 128 := by unfold roundT; rw [if_neg h0, if_neg h1, if_neg k0, if_neg k1, if_neg k2, if_neg k3, if_neg k4, if_neg k5, if_neg k6, if_pos k7]
    have e3 : roundB n = true := by unfold roundB; simp; omega
    rw [e2, e3]
    clear e2 e3
    have d0 : decide (n ≤ 16) = false := by simp; omega
    have d1 : decide (n ≤ 32) = false := by simp; omega
    have d2 : decide (n ≤ 48) = false := by simp; omega
    have d3 : decide (n ≤ 64) = false := by simp; omega
    have d4 : decide (n ≤ 80) = false := by simp; omega
    have d5 : decide (n ≤ 96) = false := by simp; omega
    have d6 : decide (n ≤ 112) = false := by simp; omega
    have d7 : decide (n ≤ 128) = true := by simp; omega
    go_enter Tryd.func10, Tryd.ntmps10
    go_wp2_with (go_at_call 15; refine (rsizes _).mono ?_; rintro e w1 ⟨rfl, rfl⟩)
    refine wp_loop_rounds 8 ?_
    rw [rounds_succ]
    go_wp2
    rw [rounds_succ]
    go_wp2
    rw [rounds_succ]
    go_wp2
    rw [rounds_succ]
    go_wp2
    rw [rounds_succ]
    go_wp2
    rw [rounds_succ]
    go_wp2
    rw [rounds_succ]
    go_wp2
    rw [rounds_succ]
    go_wp2
    go_ret2
    exact ⟨rfl, (by repeat (first | (with_reducible exact Ext.refl _) | (with_reducible refine Ext.undrew ?_) | (with_reducible refine Ext.grow ?_ _) | (with_reducible refine Ext.drew ?_) | (with_reducible refine Ext.drewN ?_ _) | (with_reducible refine Ext.alloc ?_ _) | (with_reducible assumption) | ((with_reducible refine Ext.setCell ?_ ?_ _); rotate_left; (first | exact Nat.le_refl _ | ((try dsimp only); (try simp only [World.size_alloc, grow_size, World.size_setCell]); omega)))))⟩
  by_cases k8 : n ≤ 192
  · have e2 : roundT n = 192 := by unfold roundT; rw [if_neg h0, if_neg h1, if_neg k0, if_neg k1, if_neg k2, if_neg k3, if_neg k4, if_neg k5, if_neg k6, if_neg k7, if_pos k8]
    have e3 : roundB n = true := by unfold roundB; simp; omega
    rw [e2, e3]
    clear e2 e3
    have d0 : decide (n ≤ 16) = false := by simp; omega
    have d1 : decide (n ≤ 32) = false := by simp; omega
    have d2 : decide (n ≤ 48) = false := by simp; omega
    have d3 : decide (n ≤ 64) = false := by simp; omega
    have d4 : decide (n ≤ 80) = false := by simp; omega
    have d5 : decide (n ≤ 96) = false := by simp; omega
    have d6 : decide (n ≤ 112) = false := by simp; omega
    have d7 : decide (n ≤ 128) = false := by simp; omega
    have d8 : decide (n ≤ 192) = true := by simp; omega
    go_enter Tryd.func10, Tryd.ntmps10
    go_wp2_with (go_at_call 15; refine (rsizes _).mono ?_; rintro e w1 ⟨rfl, rfl⟩)
    refine wp_loop_rounds 9 ?_
    rw [rounds_succ]
    go_wp2
    rw [rounds_succ]
    go_wp2
    rw [rounds_succ]
    go_wp2
    rw [rounds_succ]
    go_wp2
    rw [rounds_succ]
    go_wp2
    rw [rounds_succ]
    go_wp2
    rw [rounds_succ]
    go_wp2
    rw [rounds_succ]
    go_wp2
    rw [rounds_succ]
    go_wp2
    go_ret2
    exact ⟨rfl, (by repeat (first | (with_reducible exact Ext.refl _) | (with_reducible refine Ext.undrew ?_) | (with_reducible refine Ext.grow ?_ _) | (with_reducible refine Ext.drew ?_) | (with_reducible refine Ext.drewN ?_ _) | (with_reducible refine Ext.alloc ?_ _) | (with_reducible assumption) | ((with_reducible refine Ext.setCell ?_ ?_ _); rotate_left; (first | exact Nat.le_refl _ | ((try dsimp only); (try simp only [World.size_alloc, grow_size, World.size_setCell]); omega)))))⟩
  by_cases k9 : n ≤ 256
  · have e2 : roundT n = 256 := by unfold roundT; rw [if_neg h0, if_neg h1, if_neg k0, if_neg k1, if_neg k2, if_neg k3, if_neg k4, if_neg k5, if_neg k6, if_neg k7, if_neg k8, if_pos k9]
    have e3 : roundB n = true := by unfold roundB; simp; omega
    rw [e2, e3]
    clear e2 e3
    have d0 : decide (n ≤ 16) = false := by simp; omega
    have d1 : decide (n ≤ 32) = false := by simp; omega
    have d2 : decide (n ≤ 48) = false := by simp; omega
    have d3 : decide (n ≤ 64) = false := by simp; omega
    have d4 : decide (n ≤ 80) = false := by simp; omega
    have d5 : decide (n ≤ 96) = false := by simp; omega
    have d6 : decide (n ≤ 112) = false := by simp; omega
    have d7 : decide (n ≤ 128) = false := by simp; omega
    have d8 : decide (n ≤ 192) = false := by simp; omega
    have d9 : decide (n ≤ 256) = true := by simp; omega
    go_enter Tryd.func10, Tryd.ntmps10
    go_wp2_with (go_at_call 15; refine (rsizes _).mono ?_; rintro e w1 ⟨rfl, rfl⟩)
    refine wp_loop_rounds 10 ?_
    rw [rounds_succ]
    go_wp2
    rw [rounds_succ]
    go_wp2
    rw [rounds_succ]
    go_wp2
    rw [rounds_succ]
    go_wp2
    rw [rounds_succ]
    go_wp2
    rw [rounds_succ]
    go_wp2
    rw [rounds_succ]
    go_wp2
    rw [rounds_succ]
    go_wp2
    rw [rounds_succ]
    go_wp2
    rw [rounds_succ]
    go_wp2
    go_ret2
    exact ⟨rfl, (by repeat (first | (with_reducible exact Ext.refl _) | (with_reducible refine Ext.undrew ?_) | (with_reducible refine Ext.grow ?_ _) | (with_reducible refine Ext.drew ?_) | (with_reducible refine Ext.drewN ?_ _) | (with_reducible refine Ext.alloc ?_ _) | (with_reducible assumption) | ((with_reducible refine Ext.setCell ?_ ?_ _); rotate_left; (first | exact Nat.le_refl _ | ((try dsimp only); (try simp only [World.size_alloc, grow_size, World.size_setCell]); omega)))))⟩
  by_cases k10 : n ≤ 384
  · have e2 : roundT n = 384 := by unfold roundT; rw [if_neg h0, if_neg h1, if_neg k0, if_neg k1, if_neg k2, if_neg k3, if_neg k4, if_neg k5, if_neg k6, if_neg k7, if_neg k8, if_neg k9, if_pos k10]
    have e3 : roundB n = true := by unfold roundB; simp; omega
    rw [e2, e3]
    clear e2 e3
    have d0 : decide (n ≤ 16) = false := by simp; omega
    have d1 : decide (n ≤ 32) = false := by simp; omega
    have d2 : decide (n ≤ 48) = false := by simp; omega
    have d3 : decide (n ≤ 64) = false := by simp; omega
    have d4 : decide (n ≤ 80) = false := by simp; omega
    have d5 : decide (n ≤ 96) = false := by simp; omega
    have d6 : decide (n ≤ 112) = false := by simp; omega
    have d7 : decide (n ≤ 128) = false := by simp; omega
    have d8 : decide (n ≤ 192) = false := by simp; omega
    have d9 : decide (n ≤ 256) = false := by simp; omega
    have d10 : decide (n ≤ 384) = true := by simp; omega
    go_enter Tryd.func10, Tryd.ntmps10
    go_wp2_with (go_at_call 15; refine (rsizes _).mono ?_; rintro e w1 ⟨rfl, rfl⟩)
    refine wp_loop_rounds 11 ?_
    rw [rounds_succ]
    go_wp2
    rw [rounds_succ]
    go_wp2
    rw [rounds_succ]
    go_wp2
    rw [rounds_succ]
    go_wp2
    rw [rounds_succ]
    go_wp2
    rw [rounds_succ]
    go_wp2
    rw [rounds_succ]
    go_wp2
    rw [rounds_succ]
    go_wp2
    rw [rounds_succ]
    go_wp2
    rw [rounds_succ]
    go_wp2
    rw [rounds_succ]
    go_wp2
    go_ret2
    exact ⟨rfl, (by repeat (first | (with_reducible exact Ext.refl _) | (with_reducible refine Ext.undrew ?_) | (with_reducible refine Ext.grow ?_ _) | (with_reducible refine Ext.drew ?_) | (with_reducible refine Ext.drewN ?_ _) | (with_reducible refine Ext.alloc ?_ _) | (with_reducible assumption) | ((with_reducible refine Ext.setCell ?_ ?_ _); rotate_left; (first | exact Nat.le_refl _ | ((try dsimp only); (try simp only [World.size_alloc, grow_size, World.size_setCell]); omega)))))⟩
  by_cases k11 : n ≤ 512
  · have e2 : roundT n = 512 := by unfold roundT; rw [if_neg h0, if_neg h1, if_neg k0, if_neg k1, if_neg k2, if_neg k3, if_neg k4, if_neg k5, if_neg k6, if_neg k7, if_neg k8, if_neg k9, if_neg k10, if_pos k11]
    have e3 : roundB n = true := by unfold roundB; simp; omega
    rw [e2, e3]
    clear e2 e3
    have d0 : decide (n ≤ 16) = false := by simp; omega
    have d1 : decide (n ≤ 32) = false := by simp; omega
    have d2 : decide (n ≤ 48) = false := by simp; omega
    have d3 : decide (n ≤ 64) = false := by simp; omega
    have d4 : decide (n ≤ 80) = false := by simp; omega
    have d5 : decide (n ≤ 96) = false := by simp; omega
    have d6 : decide (n ≤ 112) = false := by simp; omega
    have d7 : decide (n ≤ 128) = false := by simp; omega
    have d8 : decide (n ≤ 192) = false := by simp; omega
    have d9 : decide (n ≤ 256) = false := by simp; omega
    have d10 : decide (n ≤ 384) = false := by simp; omega
    have d11 : decide (n ≤ 512) = true := by simp; omega
    go_enter Tryd.func10, Tryd.ntmps10
    go_wp2_with (go_at_call 15; refine (rsizes _).mono ?_; rintro e w1 ⟨rfl, rfl⟩)
    refine wp_loop_rounds 12 ?_
    rw [rounds_succ]
    go_wp2
    rw [rounds_succ]
    go_wp2
    rw [rounds_succ]
    go_wp2
    rw [rounds_succ]
    go_wp2
    rw [rounds_succ]
    go_wp2
    rw [rounds_succ]
    go_wp2
    rw [rounds_succ]
    go_wp2
    rw [rounds_succ]
    go_wp2
    rw [rounds_succ]
    go_wp2
    rw [rounds_succ]
    go_wp2
    rw [rounds_succ]
    go_wp2
    rw [rounds_succ]
    go_wp2
    go_ret2
    exact ⟨rfl, (by repeat (first | (with_reducible exact Ext.refl _) | (with_reducible refine Ext.undrew ?_) | (with_reducible refine Ext.grow ?_ _) | (with_reducible refine Ext.drew ?_) | (with_reducible refine Ext.drewN ?_ _) | (with_reducible refine Ext.alloc ?_ _) | (with_reducible assumption) | ((with_reducible refine Ext.setCell ?_ ?_ _); rotate_left; (first | exact Nat.le_refl _ | ((try dsimp only); (try simp only [World.size_alloc, grow_size, World.size_setCell]); omega)))))⟩
  by_cases k12 : n ≤ 768
  · have e2 : roundT n = 768 := by unfold roundT; rw [if_neg h0, if_neg h1, if_neg k0, if_neg k1, if_neg k2, if_neg k3, if_neg k4, if_neg k5, if_neg k6, if_neg k7, if_neg k8, if_neg k9, if_neg k10, if_neg k11, if_pos k12]
    have e3 : roundB n = true := by unfold roundB; simp; omega
    rw [e2, e3]
    clear e2 e3
    have d0 : decide (n ≤ 16) = false := by simp; omega
    have d1 : decide (n ≤ 32) = false := by simp; omega
    have d2 : decide (n ≤ 48) = false := by simp; omega
    have d3 : decide (n ≤ 64) = false := by simp; omega
    have d4 : decide (n ≤ 80) = false := by simp; omega
    have d5 : decide (n ≤ 96) = false := by simp; omega
    have d6 : decide (n ≤ 112) = false := by simp; omega
    have d7 : decide (n ≤ 128) = false := by simp; omega
    have d8 : decide (n ≤ 192) = false := by simp; omega
    have d9 : decide (n ≤ 256) = false := by simp; omega
    have d10 : decide (n ≤ 384) = false := by simp; omega
    have d11 : decide (n ≤ 512) = false := by simp; omega
    have d12 : decide (n ≤ 768) = true := by simp; omega
    go_enter Tryd.func10, Tryd.ntmps10
    go_wp2_with (go_at_call 15; refine (rsizes _).mono ?_; rintro e w1 ⟨rfl, rfl⟩)
    refine wp_loop_rounds 13 ?_
    rw [rounds_succ]
    go_wp2
    rw [rounds_succ]
    go_wp2
    rw [rounds_succ]
    go_wp2
    rw [rounds_succ]
    go_wp2
    rw [rounds_succ]
    go_wp2
    rw [rounds_succ]
    go_wp2
    rw [rounds_succ]
    go_wp2
    rw [rounds_succ]
    go_wp2
    rw [rounds_succ]
    go_wp2
    rw [rounds_succ]
    go_wp2
    rw [rounds_succ]
    go_wp2
    rw [rounds_succ]
    go_wp2
    rw [rounds_succ]
    go_wp2
    go_ret2
    exact ⟨rfl, (by repeat (first | (with_reducible exact Ext.refl _) | (with_reducible refine Ext.undrew ?_) | (with_reducible refine Ext.grow ?_ _) | (with_reducible refine Ext.drew ?_) | (with_reducible refine Ext.drewN ?_ _) | (with_reducible refine Ext.alloc ?_ _) | (with_reducible assumption) | ((with_reducible refine Ext.setCell ?_ ?_ _); rotate_left; (first | exact Nat.le_refl _ | ((try dsimp only); (try simp only [World.size_alloc, grow_size, World.size_setCell]); omega)))))⟩
  by_cases k13 : n ≤ 1024
  · have e2 : roundT n = 1024 := by unfold roundT; rw [if_neg h0, if_neg h1, if_neg k0, if_neg k1, if_neg k2, if_neg k3, if_neg k4, if_neg k5, if_neg k6, if_neg k7, if_neg k8, if_neg k9, if_neg k10, if_neg k11, if_neg k12, if_pos k13]
    have e3 : roundB n = true := by unfold roundB; simp; omega
    rw [e2, e3]
    clear e2 e3
    have d0 : decide (n ≤ 16) = false := by simp; omega
    have d1 : decide (n ≤ 32) = false := by simp; omega
    have d2 : decide (n ≤ 48) = false := by simp; omega
    have d3 : decide (n ≤ 64) = false := by simp; omega
    have d4 : decide (n ≤ 80) = false := by simp; omega
    have d5 : decide (n ≤ 96) = false := by simp; omega
    have d6 : decide (n ≤ 112) = false := by simp; omega
    have d7 : decide (n ≤ 128) = false := by simp; omega
    have d8 : decide (n ≤ 192) = false := by simp; omega
    have d9 : decide (n ≤ 256) = false := by simp; omega
    have d10 : decide (n ≤ 384) = false := by simp; omega
    have d11 : decide (n ≤ 512) = false := by simp; omega
    have d12 : decide (n ≤ 768) = false := by simp; omega
    have d13 : decide (n ≤ 1024) = true := by simp; omega
    go_enter Tryd.func10, Tryd.ntmps10
    go_wp2_with (go_at_call 15; refine (rsizes _).mono ?_; rintro e w1 ⟨rfl, rfl⟩)
    refine wp_loop_rounds 14 ?_
    rw [rounds_succ]
    go_wp2
    rw [rounds_succ]
    go_wp2
    rw [rounds_succ]
    go_wp2
    rw [rounds_succ]
    go_wp2
    rw [rounds_succ]
    go_wp2
    rw [rounds_succ]
    go_wp2
    rw [rounds_succ]
    go_wp2
    rw [rounds_succ]
    go_wp2
    rw [rounds_succ]
    go_wp2
    rw [rounds_succ]
    go_wp2
    rw [rounds_succ]
    go_wp2
    rw [rounds_succ]
    go_wp2
    rw [rounds_succ]
    go_wp2
    rw [rounds_succ]
    go_wp2
    go_ret2
    exact ⟨rfl, (by repeat (first | (with_reducible exact Ext.refl _) | (with_reducible refine Ext.undrew ?_) | (with_reducible refine Ext.grow ?_ _) | (with_reducible refine Ext.drew ?_) | (with_reducible refine Ext.drewN ?_ _) | (with_reducible refine Ext.alloc ?_ _) | (with_reducible assumption) | ((with_reducible refine Ext.setCell ?_ ?_ _); rotate_left; (first | exact Nat.le_refl _ | ((try dsimp only); (try simp only [World.size_alloc, grow_size, World.size_setCell]); omega)))))⟩
  have e2 : roundT n = (n + 255) / 256 * 256 := by unfold roundT; rw [if_neg h0, if_neg h1, if_neg k0, if_neg k1, if_neg k2, if_neg k3, if_neg k4, if_neg k5, if_neg k6, if_neg k7, if_neg k8, if_neg k9, if_neg k10, if_neg k11, if_neg k12, if_neg k13]
  have e3 : roundB n = true := by unfold roundB; simp; omega
  rw [e2, e3]
  clear e2 e3
  have d0 : decide (n ≤ 16) = false := by simp; omega
  have d1 : decide (n ≤ 32) = false := by simp; omega
  have d2 : decide (n ≤ 48) = false := by simp; omega
  have d3 : decide (n ≤ 64) = false := by simp; omega
  have d4 : decide (n ≤ 80) = false := by simp; omega
  have d5 : decide (n ≤ 96) = false := by simp; omega
  have d6 : decide (n ≤ 112) = false := by simp; omega
  have d7 : decide (n ≤ 128) = false := by simp; omega
  have d8 : decide (n ≤ 192) = false := by simp; omega
  have d9 : decide (n ≤ 256) = false := by simp; omega
  have d10 : decide (n ≤ 384) = false := by simp; omega
  have d11 : decide (n ≤ 512) = false := by simp; omega
  have d12 : decide (n ≤ 768) = false := by simp; omega
  have d13 : decide (n ≤ 1024) = false := by simp; omega
  go_enter Tryd.func10, Tryd.ntmps10
  go_wp2_with (go_at_call 15; refine (rsizes _).mono ?_; rintro e w1 ⟨rfl, rfl⟩)
  refine wp_loop_rounds 15 ?_
  rw [rounds_succ]
  go_wp2
  rw [rounds_succ]
  go_wp2
  rw [rounds_succ]
  go_wp2
  rw [rounds_succ]
  go_wp2
  rw [rounds_succ]
  go_wp2
  rw [rounds_succ]
  go_wp2
  rw [rounds_succ]
  go_wp2
  rw [rounds_succ]
  go_wp2
  rw [rounds_succ]
  go_wp2
  rw [rounds_succ]
  go_wp2
  rw [rounds_succ]
  go_wp2
  rw [rounds_succ]
  go_wp2
  rw [rounds_succ]
  go_wp2
  rw [rounds_succ]
  go_wp2
  rw [rounds_succ]
  go_wp2
  go_loop [6] (fun m => ∃ j : Nat, m = .int .i64 (1280 + 256 * j) ∧ 1024 + 256 * (j : Int) < n) (fun m => (n - intOf m).toNat)
  case atStart => exact ⟨0, by go_num, by omega⟩
  case round =>
    obtain ⟨j, rfl, hj⟩ := hrel
    by_cases hlt : 1280 + 256 * (j : Int) < n
    · go_wp2
      go_round
      case rel => exact ⟨j + 1, by go_num, by omega⟩
      case measure => simp [intOf]; omega
    · go_wp2
      go_ret2
      refine ⟨?_, (by repeat (first | (with_reducible exact Ext.refl _) | (with_reducible refine Ext.undrew ?_) | (with_reducible refine Ext.grow ?_ _) | (with_reducible refine Ext.drew ?_) | (with_reducible refine Ext.drewN ?_ _) | (with_reducible refine Ext.alloc ?_ _) | (with_reducible assumption) | ((with_reducible refine Ext.setCell ?_ ?_ _); rotate_left; (first | exact Nat.le_refl _ | ((try dsimp only); (try simp only [World.size_alloc, grow_size, World.size_setCell]); omega)))))⟩
      have hv : 1280 + 256 * (j : Int) = (n + 255) / 256 * 256 := by omega
      simp [hv]

set_option maxRecDepth 100000 in
set_option maxHeartbeats 16000000 in
theorem rclass (n : Int) (w : World) :
    Calls Tryd.prog 12 #[.int .i64 n] w fun e w' => e = .returned (.int .i64 (classT n)) ∧ Ext w w' := by
  by_cases h0 : n < 0
  · have e : classT n = -1 := by unfold classT; rw [if_pos h0]
    have e3 : roundB n = false := by unfold roundB; simp; omega
    rw [e]
    clear e
    go_enter Tryd.func12, Tryd.ntmps12
    go_wp2_with (go_at_call 10; refine (rround n _).mono ?_; rintro e w1 ⟨rfl, hy⟩; obtain ⟨d, rfl⟩ := hy.grown; clear hy)
    go_ret
    exact ⟨rfl, (by repeat (first | (with_reducible exact Ext.refl _) | (with_reducible refine Ext.undrew ?_) | (with_reducible refine Ext.grow ?_ _) | (with_reducible refine Ext.drew ?_) | (with_reducible refine Ext.drewN ?_ _) | (with_reducible refine Ext.alloc ?_ _) | (with_reducible assumption) | ((with_reducible refine Ext.setCell ?_ ?_ _); rotate_left; (first | exact Nat.le_refl _ | ((try dsimp only); (try simp only [World.size_alloc, grow_size, World.size_setCell]); omega)))))⟩
  by_cases h1 : 65536 < n
  · have e : classT n = -1 := by unfold classT; rw [if_neg h0, if_pos h1]
    have e3 : roundB n = false := by unfold roundB; simp; omega
    rw [e]
    clear e
    go_enter Tryd.func12, Tryd.ntmps12
    go_wp2_with (go_at_call 10; refine (rround n _).mono ?_; rintro e w1 ⟨rfl, hy⟩; obtain ⟨d, rfl⟩ := hy.grown; clear hy)
    go_ret
    exact ⟨rfl, (by repeat (first | (with_reducible exact Ext.refl _) | (with_reducible refine Ext.undrew ?_) | (with_reducible refine Ext.grow ?_ _) | (with_reducible refine Ext.drew ?_) | (with_reducible refine Ext.drewN ?_ _) | (with_reducible refine Ext.alloc ?_ _) | (with_reducible assumption) | ((with_reducible refine Ext.setCell ?_ ?_ _); rotate_left; (first | exact Nat.le_refl _ | ((try dsimp only); (try simp only [World.size_alloc, grow_size, World.size_setCell]); omega)))))⟩
  by_cases k0 : n ≤ 16
  · have e : classT n = 0 := by unfold classT; rw [if_neg h0, if_neg h1, if_pos k0]
    have e2 : roundT n = 16 := by unfold roundT; rw [if_neg h0, if_neg h1, if_pos k0]
    have e3 : roundB n = true := by unfold roundB; simp; omega
    rw [e]
    clear e
    go_enter Tryd.func12, Tryd.ntmps12
    go_wp2_with (first | (go_at_call 10; refine (rround n _).mono ?_; rintro e w1 ⟨rfl, hy⟩; obtain ⟨d, rfl⟩ := hy.grown; clear hy) | (go_at_call 15; refine (rsizes _).mono ?_; rintro e w1 ⟨rfl, rfl⟩))
    refine wp_loop_rounds 1 ?_
    rw [rounds_succ]
    go_wp2
    go_ret
    exact ⟨rfl, (by repeat (first | (with_reducible exact Ext.refl _) | (with_reducible refine Ext.undrew ?_) | (with_reducible refine Ext.grow ?_ _) | (with_reducible refine Ext.drew ?_) | (with_reducible refine Ext.drewN ?_ _) | (with_reducible refine Ext.alloc ?_ _) | (with_reducible assumption) | ((with_reducible refine Ext.setCell ?_ ?_ _); rotate_left; (first | exact Nat.le_refl _ | ((try dsimp only); (try simp only [World.size_alloc, grow_size, World.size_setCell]); omega)))))⟩
  by_cases k1 : n ≤ 32
  · have e : classT n = 1 := by unfold classT; rw [if_neg h0, if_neg h1, if_neg k0, if_pos k1]
    have e2 : roundT n = 32 := by unfold roundT; rw [if_neg h0, if_neg h1, if_neg k0, if_pos k1]
    have e3 : roundB n = true := by unfold roundB; simp; omega
    rw [e]
    clear e
    go_enter Tryd.func12, Tryd.ntmps12
    go_wp2_with (first | (go_at_call 10; refine (rround n _).mono ?_; rintro e w1 ⟨rfl, hy⟩; obtain ⟨d, rfl⟩ := hy.grown; clear hy) | (go_at_call 15; refine (rsizes _).mono ?_; rintro e w1 ⟨rfl, rfl⟩))
    refine wp_loop_rounds 2 ?_
    rw [rounds_succ]
    go_wp2
    rw [rounds_succ]
    go_wp2
    go_ret
    exact ⟨rfl, (by repeat (first | (with_reducible exact Ext.refl _) | (with_reducible refine Ext.undrew ?_) | (with_reducible refine Ext.grow ?_ _) | (with_reducible refine Ext.drew ?_) | (with_reducible refine Ext.drewN ?_ _) | (with_reducible refine Ext.alloc ?_ _) | (with_reducible assumption) | ((with_reducible refine Ext.setCell ?_ ?_ _); rotate_left; (first | exact Nat.le_refl _ | ((try dsimp only); (try simp only [World.size_alloc, grow_size, World.size_setCell]); omega)))))⟩
  by_cases k2 : n ≤ 48
  · have e : classT n = 2 := by unfold classT; rw [if_neg h0, if_neg h1, if_neg k0, if_neg k1, if_pos k2]
    have e2 : roundT n = 48 := by unfold roundT; rw [if_neg h0, if_neg h1, if_neg k0, if_neg k1, if_pos k2]
    have e3 : roundB n = true := by unfold roundB; simp; omega
    rw [e]
    clear e
    go_enter Tryd.func12, Tryd.ntmps12
    go_wp2_with (first | (go_at_call 10; refine (rround n _).mono ?_; rintro e w1 ⟨rfl, hy⟩; obtain ⟨d, rfl⟩ := hy.grown; clear hy) | (go_at_call 15; refine (rsizes _).mono ?_; rintro e w1 ⟨rfl, rfl⟩))
    refine wp_loop_rounds 3 ?_
    rw [rounds_succ]
    go_wp2
    rw [rounds_succ]
    go_wp2
    rw [rounds_succ]
    go_wp2
    go_ret
    exact ⟨rfl, (by repeat (first | (with_reducible exact Ext.refl _) | (with_reducible refine Ext.undrew ?_) | (with_reducible refine Ext.grow ?_ _) | (with_reducible refine Ext.drew ?_) | (with_reducible refine Ext.drewN ?_ _) | (with_reducible refine Ext.alloc ?_ _) | (with_reducible assumption) | ((with_reducible refine Ext.setCell ?_ ?_ _); rotate_left; (first | exact Nat.le_refl _ | ((try dsimp only); (try simp only [World.size_alloc, grow_size, World.size_setCell]); omega)))))⟩
  by_cases k3 : n ≤ 64
  · have e : classT n = 3 := by unfold classT; rw [if_neg h0, if_neg h1, if_neg k0, if_neg k1, if_neg k2, if_pos k3]
    have e2 : roundT n = 64 := by unfold roundT; rw [if_neg h0, if_neg h1, if_neg k0, if_neg k1, if_neg k2, if_pos k3]
    have e3 : roundB n = true := by unfold roundB; simp; omega
    rw [e]
    clear e
    go_enter Tryd.func12, Tryd.ntmps12
    go_wp2_with (first | (go_at_call 10; refine (rround n _).mono ?_; rintro e w1 ⟨rfl, hy⟩; obtain ⟨d, rfl⟩ := hy.grown; clear hy) | (go_at_call 15; refine (rsizes _).mono ?_; rintro e w1 ⟨rfl, rfl⟩))
    refine wp_loop_rounds 4 ?_
    rw [rounds_succ]
    go_wp2
    rw [rounds_succ]
    go_wp2
    rw [rounds_succ]
    go_wp2
    rw [rounds_succ]
    go_wp2
    go_ret
    exact ⟨rfl, (by repeat (first | (with_reducible exact Ext.refl _) | (with_reducible refine Ext.undrew ?_) | (with_reducible refine Ext.grow ?_ _) | (with_reducible refine Ext.drew ?_) | (with_reducible refine Ext.drewN ?_ _) | (with_reducible refine Ext.alloc ?_ _) | (with_reducible assumption) | ((with_reducible refine Ext.setCell ?_ ?_ _); rotate_left; (first | exact Nat.le_refl _ | ((try dsimp only); (try simp only [World.size_alloc, grow_size, World.size_setCell]); omega)))))⟩
  by_cases k4 : n ≤ 80
  · have e : classT n = 4 := by unfold classT; rw [if_neg h0, if_neg h1, if_neg k0, if_neg k1, if_neg k2, if_neg k3, if_pos k4]
    have e2 : roundT n = 80 := by unfold roundT; rw [if_neg h0, if_neg h1, if_neg k0, if_neg k1, if_neg k2, if_neg k3, if_pos k4]
    have e3 : roundB n = true := by unfold roundB; simp; omega
    rw [e]
    clear e
    go_enter Tryd.func12, Tryd.ntmps12
    go_wp2_with (first | (go_at_call 10; refine (rround n _).mono ?_; rintro e w1 ⟨rfl, hy⟩; obtain ⟨d, rfl⟩ := hy.grown; clear hy) | (go_at_call 15; refine (rsizes _).mono ?_; rintro e w1 ⟨rfl, rfl⟩))
    refine wp_loop_rounds 5 ?_
    rw [rounds_succ]
    go_wp2
    rw [rounds_succ]
    go_wp2
    rw [rounds_succ]
    go_wp2
    rw [rounds_succ]
    go_wp2
    rw [rounds_succ]
    go_wp2
    go_ret
    exact ⟨rfl, (by repeat (first | (with_reducible exact Ext.refl _) | (with_reducible refine Ext.undrew ?_) | (with_reducible refine Ext.grow ?_ _) | (with_reducible refine Ext.drew ?_) | (with_reducible refine Ext.drewN ?_ _) | (with_reducible refine Ext.alloc ?_ _) | (with_reducible assumption) | ((with_reducible refine Ext.setCell ?_ ?_ _); rotate_left; (first | exact Nat.le_refl _ | ((try dsimp only); (try simp only [World.size_alloc, grow_size, World.size_setCell]); omega)))))⟩
  by_cases k5 : n ≤ 96
  · have e : classT n = 5 := by unfold classT; rw [if_neg h0, if_neg h1, if_neg k0, if_neg k1, if_neg k2, if_neg k3, if_neg k4, if_pos k5]
    have e2 : roundT n = 96 := by unfold roundT; rw [if_neg h0, if_neg h1, if_neg k0, if_neg k1, if_neg k2, if_neg k3, if_neg k4, if_pos k5]
    have e3 : roundB n = true := by unfold roundB; simp; omega
    rw [e]
    clear e
    go_enter Tryd.func12, Tryd.ntmps12
    go_wp2_with (first | (go_at_call 10; refine (rround n _).mono ?_; rintro e w1 ⟨rfl, hy⟩; obtain ⟨d, rfl⟩ := hy.grown; clear hy) | (go_at_call 15; refine (rsizes _).mono ?_; rintro e w1 ⟨rfl, rfl⟩))
    refine wp_loop_rounds 6 ?_
    rw [rounds_succ]
    go_wp2
    rw [rounds_succ]
    go_wp2
    rw [rounds_succ]
    go_wp2
    rw [rounds_succ]
    go_wp2
    rw [rounds_succ]
    go_wp2
    rw [rounds_succ]
    go_wp2
    go_ret
    exact ⟨rfl, (by repeat (first | (with_reducible exact Ext.refl _) | (with_reducible refine Ext.undrew ?_) | (with_reducible refine Ext.grow ?_ _) | (with_reducible refine Ext.drew ?_) | (with_reducible refine Ext.drewN ?_ _) | (with_reducible refine Ext.alloc ?_ _) | (with_reducible assumption) | ((with_reducible refine Ext.setCell ?_ ?_ _); rotate_left; (first | exact Nat.le_refl _ | ((try dsimp only); (try simp only [World.size_alloc, grow_size, World.size_setCell]); omega)))))⟩
  by_cases k6 : n ≤ 112
  · have e : classT n = 6 := by unfold classT; rw [if_neg h0, if_neg h1, if_neg k0, if_neg k1, if_neg k2, if_neg k3, if_neg k4, if_neg k5, if_pos k6]
    have e2 : roundT n = 112 := by unfold roundT; rw [if_neg h0, if_neg h1, if_neg k0, if_neg k1, if_neg k2, if_neg k3, if_neg k4, if_neg k5, if_pos k6]
    have e3 : roundB n = true := by unfold roundB; simp; omega
    rw [e]
    clear e
    go_enter Tryd.func12, Tryd.ntmps12
    go_wp2_with (first | (go_at_call 10; refine (rround n _).mono ?_; rintro e w1 ⟨rfl, hy⟩; obtain ⟨d, rfl⟩ := hy.grown; clear hy) | (go_at_call 15; refine (rsizes _).mono ?_; rintro e w1 ⟨rfl, rfl⟩))
    refine wp_loop_rounds 7 ?_
    rw [rounds_succ]
    go_wp2
    rw [rounds_succ]
    go_wp2
    rw [rounds_succ]
    go_wp2
    rw [rounds_succ]
    go_wp2
    rw [rounds_succ]
    go_wp2
    rw [rounds_succ]
    go_wp2
    rw [rounds_succ]
    go_wp2
    go_ret
    exact ⟨rfl, (by repeat (first | (with_reducible exact Ext.refl _) | (with_reducible refine Ext.undrew ?_) | (with_reducible refine Ext.grow ?_ _) | (with_reducible refine Ext.drew ?_) | (with_reducible refine Ext.drewN ?_ _) | (with_reducible refine Ext.alloc ?_ _) | (with_reducible assumption) | ((with_reducible refine Ext.setCell ?_ ?_ _); rotate_left; (first | exact Nat.le_refl _ | ((try dsimp only); (try simp only [World.size_alloc, grow_size, World.size_setCell]); omega)))))⟩
  by_cases k7 : n ≤ 128
  · have e : classT n = 7 := by unfold classT; rw [if_neg h0, if_neg h1, if_neg k0, if_neg k1, if_neg k2, if_neg k3, if_neg k4, if_neg k5, if_neg k6, if_pos k7]
    have e2 : roundT n = 128 := by unfold roundT; rw [if_neg h0, if_neg h1, if_neg k0, if_neg k1, if_neg k2, if_neg k3, if_neg k4, if_neg k5, if_neg k6, if_pos k7]
    have e3 : roundB n = true := by unfold roundB; simp; omega
    rw [e]
    clear e
    go_enter Tryd.func12, Tryd.ntmps12
    go_wp2_with (first | (go_at_call 10; refine (rround n _).mono ?_; rintro e w1 ⟨rfl, hy⟩; obtain ⟨d, rfl⟩ := hy.grown; clear hy) | (go_at_call 15; refine (rsizes _).mono ?_; rintro e w1 ⟨rfl, rfl⟩))
    refine wp_loop_rounds 8 ?_
    rw [rounds_succ]
    go_wp2
    rw [rounds_succ]
    go_wp2
    rw [rounds_succ]
    go_wp2
    rw [rounds_succ]
    go_wp2
    rw [rounds_succ]
    go_wp2
    rw [rounds_succ]
    go_wp2
    rw [rounds_succ]
    go_wp2
    rw [rounds_succ]
    go_wp2
    go_ret
    exact ⟨rfl, (by repeat (first | (with_reducible exact Ext.refl _) | (with_reducible refine Ext.undrew ?_) | (with_reducible refine Ext.grow ?_ _) | (with_reducible refine Ext.drew ?_) | (with_reducible refine Ext.drewN ?_ _) | (with_reducible refine Ext.alloc ?_ _) | (with_reducible assumption) | ((with_reducible refine Ext.setCell ?_ ?_ _); rotate_left; (first | exact Nat.le_refl _ | ((try dsimp only); (try simp only [World.size_alloc, grow_size, World.size_setCell]); omega)))))⟩
  by_cases k8 : n ≤ 192
  · have e : classT n = 8 := by unfold classT; rw [if_neg h0, if_neg h1, if_neg k0, if_neg k1, if_neg k2, if_neg k3, if_neg k4, if_neg k5, if_neg k6, if_neg k7, if_pos k8]
    have e2 : roundT n = 192 := by unfold roundT; rw [if_neg h0, if_neg h1, if_neg k0, if_neg k1, if_neg k2, if_neg k3, if_neg k4, if_neg k5, if_neg k6, if_neg k7, if_pos k8]
    have e3 : roundB n = true := by unfold roundB; simp; omega
    rw [e]
    clear e
    go_enter Tryd.func12, Tryd.ntmps12
    go_wp2_with (first | (go_at_call 10; refine (rround n _).mono ?_; rintro e w1 ⟨rfl, hy⟩; obtain ⟨d, rfl⟩ := hy.grown; clear hy) | (go_at_call 15; refine (rsizes _).mono ?_; rintro e w1 ⟨rfl, rfl⟩))
    refine wp_loop_rounds 9 ?_
    rw [rounds_succ]
    go_wp2
    rw [rounds_succ]
    go_wp2
    rw [rounds_succ]
    go_wp2
    rw [rounds_succ]
    go_wp2
    rw [rounds_succ]
    go_wp2
    rw [rounds_succ]
    go_wp2
    rw [rounds_succ]
    go_wp2
    rw [rounds_succ]
    go_wp2
    rw [rounds_succ]
    go_wp2
    go_ret
    exact ⟨rfl, (by repeat (first | (with_reducible exact Ext.refl _) | (with_reducible refine Ext.undrew ?_) | (with_reducible refine Ext.grow ?_ _) | (with_reducible refine Ext.drew ?_) | (with_reducible refine Ext.drewN ?_ _) | (with_reducible refine Ext.alloc ?_ _) | (with_reducible assumption) | ((with_reducible refine Ext.setCell ?_ ?_ _); rotate_left; (first | exact Nat.le_refl _ | ((try dsimp only); (try simp only [World.size_alloc, grow_size, World.size_setCell]); omega)))))⟩
  by_cases k9 : n ≤ 256
  · have e : classT n = 9 := by unfold classT; rw [if_neg h0, if_neg h1, if_neg k0, if_neg k1, if_neg k2, if_neg k3, if_neg k4, if_neg k5, if_neg k6, if_neg k7, if_neg k8, if_pos k9]
    have e2 : roundT n = 256 := by unfold roundT; rw [if_neg h0, if_neg h1, if_neg k0, if_neg k1, if_neg k2, if_neg k3, if_neg k4, if_neg k5, if_neg k6, if_neg k7, if_neg k8, if_pos k9]
    have e3 : roundB n = true := by unfold roundB; simp; omega
    rw [e]
    clear e
    go_enter Tryd.func12, Tryd.ntmps12
    go_wp2_with (first | (go_at_call 10; refine (rround n _).mono ?_; rintro e w1 ⟨rfl, hy⟩; obtain ⟨d, rfl⟩ := hy.grown; clear hy) | (go_at_call 15; refine (rsizes _).mono ?_; rintro e w1 ⟨rfl, rfl⟩))
    refine wp_loop_rounds 10 ?_
    rw [rounds_succ]
    go_wp2
    rw [rounds_succ]
    go_wp2
    rw [rounds_succ]
    go_wp2
    rw [rounds_succ]
    go_wp2
    rw [rounds_succ]
    go_wp2
    rw [rounds_succ]
    go_wp2
    rw [rounds_succ]
    go_wp2
    rw [rounds_succ]
    go_wp2
    rw [rounds_succ]
    go_wp2
    rw [rounds_succ]
    go_wp2
    go_ret
    exact ⟨rfl, (by repeat (first | (with_reducible exact Ext.refl _) | (with_reducible refine Ext.undrew ?_) | (with_reducible refine Ext.grow ?_ _) | (with_reducible refine Ext.drew ?_) | (with_reducible refine Ext.drewN ?_ _) | (with_reducible refine Ext.alloc ?_ _) | (with_reducible assumption) | ((with_reducible refine Ext.setCell ?_ ?_ _); rotate_left; (first | exact Nat.le_refl _ | ((try dsimp only); (try simp only [World.size_alloc, grow_size, World.size_setCell]); omega)))))⟩
  by_cases k10 : n ≤ 384
  · have e : classT n = 10 := by unfold classT; rw [if_neg h0, if_neg h1, if_neg k0, if_neg k1, if_neg k2, if_neg k3, if_neg k4, if_neg k5, if_neg k6, if_neg k7, if_neg k8, if_neg k9, if_pos k10]
    have e2 : roundT n = 384 := by unfold roundT; rw [if_neg h0, if_neg h1, if_neg k0, if_neg k1, if_neg k2, if_neg k3, if_neg k4, if_neg k5, if_neg k6, if_neg k7, if_neg k8, if_neg k9, if_pos k10]
    have e3 : roundB n = true := by unfold roundB; simp; omega
    rw [e]
    clear e
    go_enter Tryd.func12, Tryd.ntmps12
    go_wp2_with (first | (go_at_call 10; refine (rround n _).mono ?_; rintro e w1 ⟨rfl, hy⟩; obtain ⟨d, rfl⟩ := hy.grown; clear hy) | (go_at_call 15; refine (rsizes _).mono ?_; rintro e w1 ⟨rfl, rfl⟩))
    refine wp_loop_rounds 11 ?_
    rw [rounds_succ]
    go_wp2
    rw [rounds_succ]
    go_wp2
    rw [rounds_succ]
    go_wp2
    rw [rounds_succ]
    go_wp2
    rw [rounds_succ]
    go_wp2
    rw [rounds_succ]
    go_wp2
    rw [rounds_succ]
    go_wp2
    rw [rounds_succ]
    go_wp2
    rw [rounds_succ]
    go_wp2
    rw [rounds_succ]
    go_wp2
    rw [rounds_succ]
    go_wp2
    go_ret
    exact ⟨rfl, (by repeat (first | (with_reducible exact Ext.refl _) | (with_reducible refine Ext.undrew ?_) | (with_reducible refine Ext.grow ?_ _) | (with_reducible refine Ext.drew ?_) | (with_reducible refine Ext.drewN ?_ _) | (with_reducible refine Ext.alloc ?_ _) | (with_reducible assumption) | ((with_reducible refine Ext.setCell ?_ ?_ _); rotate_left; (first | exact Nat.le_refl _ | ((try dsimp only); (try simp only [World.size_alloc, grow_size, World.size_setCell]); omega)))))⟩
  by_cases k11 : n ≤ 512
  · have e : classT n = 11 := by unfold classT; rw [if_neg h0, if_neg h1, if_neg k0, if_neg k1, if_neg k2, if_neg k3, if_neg k4, if_neg k5, if_neg k6, if_neg k7, if_neg k8, if_neg k9, if_neg k10, if_pos k11]
    have e2 : roundT n = 512 := by unfold roundT; rw [if_neg h0, if_neg h1, if_neg k0, if_neg k1, if_neg k2, if_neg k3, if_neg k4, if_neg k5, if_neg k6, if_neg k7, if_neg k8, if_neg k9, if_neg k10, if_pos k11]
    have e3 : roundB n = true := by unfold roundB; simp; omega
    rw [e]
    clear e
    go_enter Tryd.func12, Tryd.ntmps12
    go_wp2_with (first | (go_at_call 10; refine (rround n _).mono ?_; rintro e w1 ⟨rfl, hy⟩; obtain ⟨d, rfl⟩ := hy.grown; clear hy) | (go_at_call 15; refine (rsizes _).mono ?_; rintro e w1 ⟨rfl, rfl⟩))
    refine wp_loop_rounds 12 ?_
    rw [rounds_succ]
    go_wp2
    rw [rounds_succ]
    go_wp2
    rw [rounds_succ]
    go_wp2
    rw [rounds_succ]
    go_wp2
    rw [rounds_succ]
    go_wp2
    rw [rounds_succ]
    go_wp2
    rw [rounds_succ]
    go_wp2
    rw [rounds_succ]
    go_wp2
    rw [rounds_succ]
    go_wp2
    rw [rounds_succ]
    go_wp2
    rw [rounds_succ]
    go_wp2
    rw [rounds_succ]
    go_wp2
    go_ret
    exact ⟨rfl, (by repeat (first | (with_reducible exact Ext.refl _) | (with_reducible refine Ext.undrew ?_) | (with_reducible refine Ext.grow ?_ _) | (with_reducible refine Ext.drew ?_) | (with_reducible refine Ext.drewN ?_ _) | (with_reducible refine Ext.alloc ?_ _) | (with_reducible assumption) | ((with_reducible refine Ext.setCell ?_ ?_ _); rotate_left; (first | exact Nat.le_refl _ | ((try dsimp only); (try simp only [World.size_alloc, grow_size, World.size_setCell]); omega)))))⟩
  by_cases k12 : n ≤ 768
  · have e : classT n = 12 := by unfold classT; rw [if_neg h0, if_neg h1, if_neg k0, if_neg k1, if_neg k2, if_neg k3, if_neg k4, if_neg k5, if_neg k6, if_neg k7, if_neg k8, if_neg k9, if_neg k10, if_neg k11, if_pos k12]
    have e2 : roundT n = 768 := by unfold roundT; rw [if_neg h0, if_neg h1, if_neg k0, if_neg k1, if_neg k2, if_neg k3, if_neg k4, if_neg k5, if_neg k6, if_neg k7, if_neg k8, if_neg k9, if_neg k10, if_neg k11, if_pos k12]
    have e3 : roundB n = true := by unfold roundB; simp; omega
    rw [e]
    clear e
    go_enter Tryd.func12, Tryd.ntmps12
    go_wp2_with (first | (go_at_call 10; refine (rround n _).mono ?_; rintro e w1 ⟨rfl, hy⟩; obtain ⟨d, rfl⟩ := hy.grown; clear hy) | (go_at_call 15; refine (rsizes _).mono ?_; rintro e w1 ⟨rfl, rfl⟩))
    refine wp_loop_rounds 13 ?_
    rw [rounds_succ]
    go_wp2
    rw [rounds_succ]
    go_wp2
    rw [rounds_succ]
    go_wp2
    rw [rounds_succ]
    go_wp2
    rw [rounds_succ]
    go_wp2
    rw [rounds_succ]
    go_wp2
    rw [rounds_succ]
    go_wp2
    rw [rounds_succ]
    go_wp2
    rw [rounds_succ]
    go_wp2
    rw [rounds_succ]
    go_wp2
    rw [rounds_succ]
    go_wp2
    rw [rounds_succ]
    go_wp2
    rw [rounds_succ]
    go_wp2
    go_ret
    exact ⟨rfl, (by repeat (first | (with_reducible exact Ext.refl _) | (with_reducible refine Ext.undrew ?_) | (with_reducible refine Ext.grow ?_ _) | (with_reducible refine Ext.drew ?_) | (with_reducible refine Ext.drewN ?_ _) | (with_reducible refine Ext.alloc ?_ _) | (with_reducible assumption) | ((with_reducible refine Ext.setCell ?_ ?_ _); rotate_left; (first | exact Nat.le_refl _ | ((try dsimp only); (try simp only [World.size_alloc, grow_size, World.size_setCell]); omega)))))⟩
  by_cases k13 : n ≤ 1024
  · have e : classT n = 13 := by unfold classT; rw [if_neg h0, if_neg h1, if_neg k0, if_neg k1, if_neg k2, if_neg k3, if_neg k4, if_neg k5, if_neg k6, if_neg k7, if_neg k8, if_neg k9, if_neg k10, if_neg k11, if_neg k12, if_pos k13]
    have e2 : roundT n = 1024 := by unfold roundT; rw [if_neg h0, if_neg h1, if_neg k0, if_neg k1, if_neg k2, if_neg k3, if_neg k4, if_neg k5, if_neg k6, if_neg k7, if_neg k8, if_neg k9, if_neg k10, if_neg k11, if_neg k12, if_pos k13]
    have e3 : roundB n = true := by unfold roundB; simp; omega
    rw [e]
    clear e
    go_enter Tryd.func12, Tryd.ntmps12
    go_wp2_with (first | (go_at_call 10; refine (rround n _).mono ?_; rintro e w1 ⟨rfl, hy⟩; obtain ⟨d, rfl⟩ := hy.grown; clear hy) | (go_at_call 15; refine (rsizes _).mono ?_; rintro e w1 ⟨rfl, rfl⟩))
    refine wp_loop_rounds 14 ?_
    rw [rounds_succ]
    go_wp2
    rw [rounds_succ]
    go_wp2
    rw [rounds_succ]
    go_wp2
    rw [rounds_succ]
    go_wp2
    rw [rounds_succ]
    go_wp2
    rw [rounds_succ]
    go_wp2
    rw [rounds_succ]
    go_wp2
    rw [rounds_succ]
    go_wp2
    rw [rounds_succ]
    go_wp2
    rw [rounds_succ]
    go_wp2
    rw [rounds_succ]
    go_wp2
    rw [rounds_succ]
    go_wp2
    rw [rounds_succ]
    go_wp2
    rw [rounds_succ]
    go_wp2
    go_ret
    exact ⟨rfl, (by repeat (first | (with_reducible exact Ext.refl _) | (with_reducible refine Ext.undrew ?_) | (with_reducible refine Ext.grow ?_ _) | (with_reducible refine Ext.drew ?_) | (with_reducible refine Ext.drewN ?_ _) | (with_reducible refine Ext.alloc ?_ _) | (with_reducible assumption) | ((with_reducible refine Ext.setCell ?_ ?_ _); rotate_left; (first | exact Nat.le_refl _ | ((try dsimp only); (try simp only [World.size_alloc, grow_size, World.size_setCell]); omega)))))⟩
  have e : classT n = 14 := by unfold classT; rw [if_neg h0, if_neg h1, if_neg k0, if_neg k1, if_neg k2, if_neg k3, if_neg k4, if_neg k5, if_neg k6, if_neg k7, if_neg k8, if_neg k9, if_neg k10, if_neg k11, if_neg k12, if_neg k13]
  have e2 : roundT n = (n + 255) / 256 * 256 := by unfold roundT; rw [if_neg h0, if_neg h1, if_neg k0, if_neg k1, if_neg k2, if_neg k3, if_neg k4, if_neg k5, if_neg k6, if_neg k7, if_neg k8, if_neg k9, if_neg k10, if_neg k11, if_neg k12, if_neg k13]
  have e3 : roundB n = true := by unfold roundB; simp; omega
  rw [e]
  clear e
  obtain ⟨r, hr⟩ : ∃ r, r = (n + 255) / 256 * 256 := ⟨_, rfl⟩
  have hr1 : 1280 ≤ r := by omega
  rw [← hr] at e2
  clear hr
  have f0 : ((16 : Int) == r) = false := by simp; omega
  have f1 : ((32 : Int) == r) = false := by simp; omega
  have f2 : ((48 : Int) == r) = false := by simp; omega
  have f3 : ((64 : Int) == r) = false := by simp; omega
  have f4 : ((80 : Int) == r) = false := by simp; omega
  have f5 : ((96 : Int) == r) = false := by simp; omega
  have f6 : ((112 : Int) == r) = false := by simp; omega
  have f7 : ((128 : Int) == r) = false := by simp; omega
  have f8 : ((192 : Int) == r) = false := by simp; omega
  have f9 : ((256 : Int) == r) = false := by simp; omega
  have f10 : ((384 : Int) == r) = false := by simp; omega
  have f11 : ((512 : Int) == r) = false := by simp; omega
  have f12 : ((768 : Int) == r) = false := by simp; omega
  have f13 : ((1024 : Int) == r) = false := by simp; omega
  go_enter Tryd.func12, Tryd.ntmps12
  go_wp2_with (first | (go_at_call 10; refine (rround n _).mono ?_; rintro e w1 ⟨rfl, hy⟩; obtain ⟨d, rfl⟩ := hy.grown; clear hy) | (go_at_call 15; refine (rsizes _).mono ?_; rintro e w1 ⟨rfl, rfl⟩))
  refine wp_loop_rounds 15 ?_
  rw [rounds_succ]
  go_wp2
  rw [rounds_succ]
  go_wp2
  rw [rounds_succ]
  go_wp2
  rw [rounds_succ]
  go_wp2
  rw [rounds_succ]
  go_wp2
  rw [rounds_succ]
  go_wp2
  rw [rounds_succ]
  go_wp2
  rw [rounds_succ]
  go_wp2
  rw [rounds_succ]
  go_wp2
  rw [rounds_succ]
  go_wp2
  rw [rounds_succ]
  go_wp2
  rw [rounds_succ]
  go_wp2
  rw [rounds_succ]
  go_wp2
  rw [rounds_succ]
  go_wp2
  rw [rounds_succ]
  go_wp2
  go_ret
  exact ⟨rfl, (by repeat (first | (with_reducible exact Ext.refl _) | (with_reducible refine Ext.undrew ?_) | (with_reducible refine Ext.grow ?_ _) | (with_reducible refine Ext.drew ?_) | (with_reducible refine Ext.drewN ?_ _) | (with_reducible refine Ext.alloc ?_ _) | (with_reducible assumption) | ((with_reducible refine Ext.setCell ?_ ?_ _); rotate_left; (first | exact Nat.le_refl _ | ((try dsimp only); (try simp only [World.size_alloc, grow_size, World.size_setCell]); omega)))))⟩


end Go.Proofs.YtgnkcinmpinknaaDoor
