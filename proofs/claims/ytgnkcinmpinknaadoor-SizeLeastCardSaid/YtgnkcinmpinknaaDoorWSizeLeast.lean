/- The walk of the law SizeLeast. -/
import Derived.Test.YtgnkcinmpinknaaDoorSizC
namespace Go.Proofs.YtgnkcinmpinknaaDoor
set_option linter.unusedSimpArgs false
set_option linter.unusedVariables false
open Go.RowKit

namespace sizeLeast
set_option maxRecDepth 100000 in
set_option maxHeartbeats 16000000 in
theorem walk (a0 : Int) (w : World) (w0 : (Lit.int .u16 a0).wf = true) (hTab : Tab w) :
    Calls Tryd.prog 4 #[.int .u16 a0] w fun e w' => e = .returned (.bool true) ∧ Ext w w' := by
  obtain ⟨a0l, a0h⟩ := wfu16 w0
  clear w0
  have HT := hid hTab
  clear hTab
  have e1 := roundB_yes a0l (show a0 ≤ 65536 by omega)
  obtain ⟨p1, p2, p3, p4, p5⟩ := roundT_bd a0l (show a0 ≤ 65536 by omega)
  have hS := roundT_self a0l (show a0 ≤ 65536 by omega)
  have HS := hid hS
  clear hS
  rcases classT_at a0l (show a0 ≤ 65536 by omega) with ⟨_, h, e2⟩ | ⟨_, h, h2, e2⟩ | ⟨_, h, h2, e2⟩ | ⟨_, h, h2, e2⟩ | ⟨_, h, h2, e2⟩ | ⟨_, h, h2, e2⟩ | ⟨_, h, h2, e2⟩ | ⟨_, h, h2, e2⟩ | ⟨_, h, h2, e2⟩ | ⟨_, h, h2, e2⟩ | ⟨_, h, h2, e2⟩ | ⟨_, h, h2, e2⟩ | ⟨_, h, h2, e2⟩ | ⟨_, h, h2, e2⟩ | ⟨_, h, e2⟩
  · have e3 : roundT 16 = 16 := by decide
    have e4 : roundB 16 = true := by decide
    have g1 : decide (a0 ≤ 1024) = true := by simp; omega
    have g2 : decide (16 < a0) = false := by simp; omega
    have g3 : decide (a0 ≤ 16) = true := by simp; omega
    have d1 : decide (a0 ≤ 32) = true := by simp; omega
    have d2 : decide (a0 ≤ 48) = true := by simp; omega
    have d3 : decide (a0 ≤ 64) = true := by simp; omega
    have d4 : decide (a0 ≤ 80) = true := by simp; omega
    have d5 : decide (a0 ≤ 96) = true := by simp; omega
    have d6 : decide (a0 ≤ 112) = true := by simp; omega
    have d7 : decide (a0 ≤ 128) = true := by simp; omega
    have d8 : decide (a0 ≤ 192) = true := by simp; omega
    have d9 : decide (a0 ≤ 256) = true := by simp; omega
    have d10 : decide (a0 ≤ 384) = true := by simp; omega
    have d11 : decide (a0 ≤ 512) = true := by simp; omega
    have d12 : decide (a0 ≤ 768) = true := by simp; omega
    have d13 : decide (a0 ≤ 1024) = true := by simp; omega
    clear h p1 p2 p3 p4 p5
    go_enter Tryd.func4, Tryd.ntmps4
    go_wp2_with (first | (go_at_call 8; refine (head _ HT.out).mono ?_; rintro e w1 ⟨rfl, hy⟩; obtain ⟨d, rfl⟩ := hy.grown; clear hy) | (go_at_call 9; refine (round_ _ _ (Tab.ext HT.out (by repeat (first | (with_reducible exact Ext.refl _) | (with_reducible refine Ext.undrew ?_) | (with_reducible refine Ext.grow ?_ _) | (with_reducible refine Ext.drew ?_) | (with_reducible refine Ext.drewN ?_ _) | (with_reducible refine Ext.alloc ?_ _) | (with_reducible assumption) | ((with_reducible refine Ext.setCell ?_ ?_ _); rotate_left; (first | exact Nat.le_refl _ | ((try dsimp only); (try simp only [World.size_alloc, grow_size, World.size_setCell]); omega))))))).mono ?_; rintro e w1 ⟨rfl, rfl⟩) | (go_at_call 11; refine (class_ _ _ (Tab.ext HT.out (by repeat (first | (with_reducible exact Ext.refl _) | (with_reducible refine Ext.undrew ?_) | (with_reducible refine Ext.grow ?_ _) | (with_reducible refine Ext.drew ?_) | (with_reducible refine Ext.drewN ?_ _) | (with_reducible refine Ext.alloc ?_ _) | (with_reducible assumption) | ((with_reducible refine Ext.setCell ?_ ?_ _); rotate_left; (first | exact Nat.le_refl _ | ((try dsimp only); (try simp only [World.size_alloc, grow_size, World.size_setCell]); omega))))))).mono ?_; rintro e w1 ⟨rfl, rfl⟩) | (go_at_call 14; refine (sizes_ _ (Tab.ext HT.out (by repeat (first | (with_reducible exact Ext.refl _) | (with_reducible refine Ext.undrew ?_) | (with_reducible refine Ext.grow ?_ _) | (with_reducible refine Ext.drew ?_) | (with_reducible refine Ext.drewN ?_ _) | (with_reducible refine Ext.alloc ?_ _) | (with_reducible assumption) | ((with_reducible refine Ext.setCell ?_ ?_ _); rotate_left; (first | exact Nat.le_refl _ | ((try dsimp only); (try simp only [World.size_alloc, grow_size, World.size_setCell]); omega))))))).mono ?_; rintro e w1 ⟨rfl, rfl⟩))
    refine wp_loop_rounds 15 ?_
    rw [rounds_succ]
    go_wp2
    rw [rounds_succ]
    go_wp2
    rw [rounds_succ]
    go_wp2
    rw [rounds_succ]
    go_wp2
    rw [rounds_succ]
    go_wp2
    rw [rounds_succ]
    go_wp2
    rw [rounds_succ]
    go_wp2
    rw [rounds_succ]
    go_wp2
    rw [rounds_succ]
    go_wp2
    rw [rounds_succ]
    go_wp2
    rw [rounds_succ]
    go_wp2
    rw [rounds_succ]
    go_wp2
    rw [rounds_succ]
    go_wp2
    rw [rounds_succ]
    go_wp2
    rw [rounds_succ]
    go_wp2
    all_goals go_ret
    all_goals exact ⟨rfl, (by repeat (first | (with_reducible exact Ext.refl _) | (with_reducible refine Ext.undrew ?_) | (with_reducible refine Ext.grow ?_ _) | (with_reducible refine Ext.drew ?_) | (with_reducible refine Ext.drewN ?_ _) | (with_reducible refine Ext.alloc ?_ _) | (with_reducible assumption) | ((with_reducible refine Ext.setCell ?_ ?_ _); rotate_left; (first | exact Nat.le_refl _ | ((try dsimp only); (try simp only [World.size_alloc, grow_size, World.size_setCell]); omega)))))⟩
  · have e3 : roundT 32 = 32 := by decide
    have e4 : roundB 32 = true := by decide
    have g1 : decide (a0 ≤ 1024) = true := by simp; omega
    have g2 : decide (32 < a0) = false := by simp; omega
    have g3 : decide (a0 ≤ 32) = true := by simp; omega
    have d0 : decide (a0 ≤ 16) = false := by simp; omega
    have d2 : decide (a0 ≤ 48) = true := by simp; omega
    have d3 : decide (a0 ≤ 64) = true := by simp; omega
    have d4 : decide (a0 ≤ 80) = true := by simp; omega
    have d5 : decide (a0 ≤ 96) = true := by simp; omega
    have d6 : decide (a0 ≤ 112) = true := by simp; omega
    have d7 : decide (a0 ≤ 128) = true := by simp; omega
    have d8 : decide (a0 ≤ 192) = true := by simp; omega
    have d9 : decide (a0 ≤ 256) = true := by simp; omega
    have d10 : decide (a0 ≤ 384) = true := by simp; omega
    have d11 : decide (a0 ≤ 512) = true := by simp; omega
    have d12 : decide (a0 ≤ 768) = true := by simp; omega
    have d13 : decide (a0 ≤ 1024) = true := by simp; omega
    clear h h2 p1 p2 p3 p4 p5
    go_enter Tryd.func4, Tryd.ntmps4
    go_wp2_with (first | (go_at_call 8; refine (head _ HT.out).mono ?_; rintro e w1 ⟨rfl, hy⟩; obtain ⟨d, rfl⟩ := hy.grown; clear hy) | (go_at_call 9; refine (round_ _ _ (Tab.ext HT.out (by repeat (first | (with_reducible exact Ext.refl _) | (with_reducible refine Ext.undrew ?_) | (with_reducible refine Ext.grow ?_ _) | (with_reducible refine Ext.drew ?_) | (with_reducible refine Ext.drewN ?_ _) | (with_reducible refine Ext.alloc ?_ _) | (with_reducible assumption) | ((with_reducible refine Ext.setCell ?_ ?_ _); rotate_left; (first | exact Nat.le_refl _ | ((try dsimp only); (try simp only [World.size_alloc, grow_size, World.size_setCell]); omega))))))).mono ?_; rintro e w1 ⟨rfl, rfl⟩) | (go_at_call 11; refine (class_ _ _ (Tab.ext HT.out (by repeat (first | (with_reducible exact Ext.refl _) | (with_reducible refine Ext.undrew ?_) | (with_reducible refine Ext.grow ?_ _) | (with_reducible refine Ext.drew ?_) | (with_reducible refine Ext.drewN ?_ _) | (with_reducible refine Ext.alloc ?_ _) | (with_reducible assumption) | ((with_reducible refine Ext.setCell ?_ ?_ _); rotate_left; (first | exact Nat.le_refl _ | ((try dsimp only); (try simp only [World.size_alloc, grow_size, World.size_setCell]); omega))))))).mono ?_; rintro e w1 ⟨rfl, rfl⟩) | (go_at_call 14; refine (sizes_ _ (Tab.ext HT.out (by repeat (first | (with_reducible exact Ext.refl _) | (with_reducible refine Ext.undrew ?_) | (with_reducible refine Ext.grow ?_ _) | (with_reducible refine Ext.drew ?_) | (with_reducible refine Ext.drewN ?_ _) | (with_reducible refine Ext.alloc ?_ _) | (with_reducible assumption) | ((with_reducible refine Ext.setCell ?_ ?_ _); rotate_left; (first | exact Nat.le_refl _ | ((try dsimp only); (try simp only [World.size_alloc, grow_size, World.size_setCell]); omega))))))).mono ?_; rintro e w1 ⟨rfl, rfl⟩))
    refine wp_loop_rounds 15 ?_
    rw [rounds_succ]
    go_wp2
    rw [rounds_succ]
    go_wp2
    rw [rounds_succ]
    go_wp2
    rw [rounds_succ]
    go_wp2
    rw [rounds_succ]
    go_wp2
    rw [rounds_succ]
    go_wp2
    rw [rounds_succ]
    go_wp2
    rw [rounds_succ]
    go_wp2
    rw [rounds_succ]
    go_wp2
    rw [rounds_succ]
    go_wp2
    rw [rounds_succ]
    go_wp2
    rw [rounds_succ]
    go_wp2
    rw [rounds_succ]
    go_wp2
    rw [rounds_succ]
    go_wp2
    rw [rounds_succ]
    go_wp2
    all_goals go_ret
    all_goals exact ⟨rfl, (by repeat (first | (with_reducible exact Ext.refl _) | (with_reducible refine Ext.undrew ?_) | (with_reducible refine Ext.grow ?_ _) | (with_reducible refine Ext.drew ?_) | (with_reducible refine Ext.drewN ?_ _) | (with_reducible refine Ext.alloc ?_ _) | (with_reducible assumption) | ((with_reducible refine Ext.setCell ?_ ?_ _); rotate_left; (first | exact Nat.le_refl _ | ((try dsimp only); (try simp only [World.size_alloc, grow_size, World.size_setCell]); omega)))))⟩
  · have e3 : roundT 48 = 48 := by decide
    have e4 : roundB 48 = true := by decide
    have g1 : decide (a0 ≤ 1024) = true := by simp; omega
    have g2 : decide (48 < a0) = false := by simp; omega
    have g3 : decide (a0 ≤ 48) = true := by simp; omega
    have d0 : decide (a0 ≤ 16) = false := by simp; omega
    have d1 : decide (a0 ≤ 32) = false := by simp; omega
    have d3 : decide (a0 ≤ 64) = true := by simp; omega
    have d4 : decide (a0 ≤ 80) = true := by simp; omega
    have d5 : decide (a0 ≤ 96) = true := by simp; omega
    have d6 : decide (a0 ≤ 112) = true := by simp; omega
    have d7 : decide (a0 ≤ 128) = true := by simp; omega
    have d8 : decide (a0 ≤ 192) = true := by simp; omega
    have d9 : decide (a0 ≤ 256) = true := by simp; omega
    have d10 : decide (a0 ≤ 384) = true := by simp; omega
    have d11 : decide (a0 ≤ 512) = true := by simp; omega
    have d12 : decide (a0 ≤ 768) = true := by simp; omega
    have d13 : decide (a0 ≤ 1024) = true := by simp; omega
    clear h h2 p1 p2 p3 p4 p5
    go_enter Tryd.func4, Tryd.ntmps4
    go_wp2_with (first | (go_at_call 8; refine (head _ HT.out).mono ?_; rintro e w1 ⟨rfl, hy⟩; obtain ⟨d, rfl⟩ := hy.grown; clear hy) | (go_at_call 9; refine (round_ _ _ (Tab.ext HT.out (by repeat (first | (with_reducible exact Ext.refl _) | (with_reducible refine Ext.undrew ?_) | (with_reducible refine Ext.grow ?_ _) | (with_reducible refine Ext.drew ?_) | (with_reducible refine Ext.drewN ?_ _) | (with_reducible refine Ext.alloc ?_ _) | (with_reducible assumption) | ((with_reducible refine Ext.setCell ?_ ?_ _); rotate_left; (first | exact Nat.le_refl _ | ((try dsimp only); (try simp only [World.size_alloc, grow_size, World.size_setCell]); omega))))))).mono ?_; rintro e w1 ⟨rfl, rfl⟩) | (go_at_call 11; refine (class_ _ _ (Tab.ext HT.out (by repeat (first | (with_reducible exact Ext.refl _) | (with_reducible refine Ext.undrew ?_) | (with_reducible refine Ext.grow ?_ _) | (with_reducible refine Ext.drew ?_) | (with_reducible refine Ext.drewN ?_ _) | (with_reducible refine Ext.alloc ?_ _) | (with_reducible assumption) | ((with_reducible refine Ext.setCell ?_ ?_ _); rotate_left; (first | exact Nat.le_refl _ | ((try dsimp only); (try simp only [World.size_alloc, grow_size, World.size_setCell]); omega))))))).mono ?_; rintro e w1 ⟨rfl, rfl⟩) | (go_at_call 14; refine (sizes_ _ (Tab.ext HT.out (by repeat (first | (with_reducible exact Ext.refl _) | (with_reducible refine Ext.undrew ?_) | (with_reducible refine Ext.grow ?_ _) | (with_reducible refine Ext.drew ?_) | (with_reducible refine Ext.drewN ?_ _) | (with_reducible refine Ext.alloc ?_ _) | (with_reducible assumption) | ((with_reducible refine Ext.setCell ?_ ?_ _); rotate_left; (first | exact Nat.le_refl _ | ((try dsimp only); (try simp only [World.size_alloc, grow_size, World.size_setCell]); omega))))))).mono ?_; rintro e w1 ⟨rfl, rfl⟩))
    refine wp_loop_rounds 15 ?_
    rw [rounds_succ]
    go_wp2
    rw [rounds_succ]
    go_wp2
    rw [rounds_succ]
    go_wp2
    rw [rounds_succ]
    go_wp2
    rw [rounds_succ]
    go_wp2
    rw [rounds_succ]
    go_wp2
    rw [rounds_succ]
    go_wp2
    rw [rounds_succ]
    go_wp2
    rw [rounds_succ]
    go_wp2
    rw [rounds_succ]
    go_wp2
    rw [rounds_succ]
    go_wp2
    rw [rounds_succ]
    go_wp2
    rw [rounds_succ]
    go_wp2
    rw [rounds_succ]
    go_wp2
    rw [rounds_succ]
    go_wp2
    all_goals go_ret
    all_goals exact ⟨rfl, (by repeat (first | (with_reducible exact Ext.refl _) | (with_reducible refine Ext.undrew ?_) | (with_reducible refine Ext.grow ?_ _) | (with_reducible refine Ext.drew ?_) | (with_reducible refine Ext.drewN ?_ _) | (with_reducible refine Ext.alloc ?_ _) | (with_reducible assumption) | ((with_reducible refine Ext.setCell ?_ ?_ _); rotate_left; (first | exact Nat.le_refl _ | ((try dsimp only); (try simp only [World.size_alloc, grow_size, World.size_setCell]); omega)))))⟩
  · have e3 : roundT 64 = 64 := by decide
    have e4 : roundB 64 = true := by decide
    have g1 : decide (a0 ≤ 1024) = true := by simp; omega
    have g2 : decide (64 < a0) = false := by simp; omega
    have g3 : decide (a0 ≤ 64) = true := by simp; omega
    have d0 : decide (a0 ≤ 16) = false := by simp; omega
    have d1 : decide (a0 ≤ 32) = false := by simp; omega
    have d2 : decide (a0 ≤ 48) = false := by simp; omega
    have d4 : decide (a0 ≤ 80) = true := by simp; omega
    have d5 : decide (a0 ≤ 96) = true := by simp; omega
    have d6 : decide (a0 ≤ 112) = true := by simp; omega
    have d7 : decide (a0 ≤ 128) = true := by simp; omega
    have d8 : decide (a0 ≤ 192) = true := by simp; omega
    have d9 : decide (a0 ≤ 256) = true := by simp; omega
    have d10 : decide (a0 ≤ 384) = true := by simp; omega
    have d11 : decide (a0 ≤ 512) = true := by simp; omega
    have d12 : decide (a0 ≤ 768) = true := by simp; omega
    have d13 : decide (a0 ≤ 1024) = true := by simp; omega
    clear h h2 p1 p2 p3 p4 p5
    go_enter Tryd.func4, Tryd.ntmps4
    go_wp2_with (first | (go_at_call 8; refine (head _ HT.out).mono ?_; rintro e w1 ⟨rfl, hy⟩; obtain ⟨d, rfl⟩ := hy.grown; clear hy) | (go_at_call 9; refine (round_ _ _ (Tab.ext HT.out (by repeat (first | (with_reducible exact Ext.refl _) | (with_reducible refine Ext.undrew ?_) | (with_reducible refine Ext.grow ?_ _) | (with_reducible refine Ext.drew ?_) | (with_reducible refine Ext.drewN ?_ _) | (with_reducible refine Ext.alloc ?_ _) | (with_reducible assumption) | ((with_reducible refine Ext.setCell ?_ ?_ _); rotate_left; (first | exact Nat.le_refl _ | ((try dsimp only); (try simp only [World.size_alloc, grow_size, World.size_setCell]); omega))))))).mono ?_; rintro e w1 ⟨rfl, rfl⟩) | (go_at_call 11; refine (class_ _ _ (Tab.ext HT.out (by repeat (first | (with_reducible exact Ext.refl _) | (with_reducible refine Ext.undrew ?_) | (with_reducible refine Ext.grow ?_ _) | (with_reducible refine Ext.drew ?_) | (with_reducible refine Ext.drewN ?_ _) | (with_reducible refine Ext.alloc ?_ _) | (with_reducible assumption) | ((with_reducible refine Ext.setCell ?_ ?_ _); rotate_left; (first | exact Nat.le_refl _ | ((try dsimp only); (try simp only [World.size_alloc, grow_size, World.size_setCell]); omega))))))).mono ?_; rintro e w1 ⟨rfl, rfl⟩) | (go_at_call 14; refine (sizes_ _ (Tab.ext HT.out (by repeat (first | (with_reducible exact Ext.refl _) | (with_reducible refine Ext.undrew ?_) | (with_reducible refine Ext.grow ?_ _) | (with_reducible refine Ext.drew ?_) | (with_reducible refine Ext.drewN ?_ _) | (with_reducible refine Ext.alloc ?_ _) | (with_reducible assumption) | ((with_reducible refine Ext.setCell ?_ ?_ _); rotate_left; (first | exact Nat.le_refl _ | ((try dsimp only); (try simp only [World.size_alloc, grow_size, World.size_setCell]); omega))))))).mono ?_; rintro e w1 ⟨rfl, rfl⟩))
    refine wp_loop_rounds 15 ?_
    rw [rounds_succ]
    go_wp2
    rw [rounds_succ]
    go_wp2
    rw [rounds_succ]
    go_wp2
    rw [rounds_succ]
    go_wp2
    rw [rounds_succ]
    go_wp2
    rw [rounds_succ]
    go_wp2
    rw [rounds_succ]
    go_wp2
    rw [rounds_succ]
    go_wp2
    rw [rounds_succ]
    go_wp2
    rw [rounds_succ]
    go_wp2
    rw [rounds_succ]
    go_wp2
    rw [rounds_succ]
    go_wp2
    rw [rounds_succ]
    go_wp2
    rw [rounds_succ]
    go_wp2
    rw [rounds_succ]
    go_wp2
    all_goals go_ret
    all_goals exact ⟨rfl, (by repeat (first | (with_reducible exact Ext.refl _) | (with_reducible refine Ext.undrew ?_) | (with_reducible refine Ext.grow ?_ _) | (with_reducible refine Ext.drew ?_) | (with_reducible refine Ext.drewN ?_ _) | (with_reducible refine Ext.alloc ?_ _) | (with_reducible assumption) | ((with_reducible refine Ext.setCell ?_ ?_ _); rotate_left; (first | exact Nat.le_refl _ | ((try dsimp only); (try simp only [World.size_alloc, grow_size, World.size_setCell]); omega)))))⟩
  · have e3 : roundT 80 = 80 := by decide
    have e4 : roundB 80 = true := by decide
    have g1 : decide (a0 ≤ 1024) = true := by simp; omega
    have g2 : decide (80 < a0) = false := by simp; omega
    have g3 : decide (a0 ≤ 80) = true := by simp; omega
    have d0 : decide (a0 ≤ 16) = false := by simp; omega
    have d1 : decide (a0 ≤ 32) = false := by simp; omega
    have d2 : decide (a0 ≤ 48) = false := by simp; omega
    have d3 : decide (a0 ≤ 64) = false := by simp; omega
    have d5 : decide (a0 ≤ 96) = true := by simp; omega
    have d6 : decide (a0 ≤ 112) = true := by simp; omega
    have d7 : decide (a0 ≤ 128) = true := by simp; omega
    have d8 : decide (a0 ≤ 192) = true := by simp; omega
    have d9 : decide (a0 ≤ 256) = true := by simp; omega
    have d10 : decide (a0 ≤ 384) = true := by simp; omega
    have d11 : decide (a0 ≤ 512) = true := by simp; omega
    have d12 : decide (a0 ≤ 768) = true := by simp; omega
    have d13 : decide (a0 ≤ 1024) = true := by simp; omega
    clear h h2 p1 p2 p3 p4 p5
    go_enter Tryd.func4, Tryd.ntmps4
    go_wp2_with (first | (go_at_call 8; refine (head _ HT.out).mono ?_; rintro e w1 ⟨rfl, hy⟩; obtain ⟨d, rfl⟩ := hy.grown; clear hy) | (go_at_call 9; refine (round_ _ _ (Tab.ext HT.out (by repeat (first | (with_reducible exact Ext.refl _) | (with_reducible refine Ext.undrew ?_) | (with_reducible refine Ext.grow ?_ _) | (with_reducible refine Ext.drew ?_) | (with_reducible refine Ext.drewN ?_ _) | (with_reducible refine Ext.alloc ?_ _) | (with_reducible assumption) | ((with_reducible refine Ext.setCell ?_ ?_ _); rotate_left; (first | exact Nat.le_refl _ | ((try dsimp only); (try simp only [World.size_alloc, grow_size, World.size_setCell]); omega))))))).mono ?_; rintro e w1 ⟨rfl, rfl⟩) | (go_at_call 11; refine (class_ _ _ (Tab.ext HT.out (by repeat (first | (with_reducible exact Ext.refl _) | (with_reducible refine Ext.undrew ?_) | (with_reducible refine Ext.grow ?_ _) | (with_reducible refine Ext.drew ?_) | (with_reducible refine Ext.drewN ?_ _) | (with_reducible refine Ext.alloc ?_ _) | (with_reducible assumption) | ((with_reducible refine Ext.setCell ?_ ?_ _); rotate_left; (first | exact Nat.le_refl _ | ((try dsimp only); (try simp only [World.size_alloc, grow_size, World.size_setCell]); omega))))))).mono ?_; rintro e w1 ⟨rfl, rfl⟩) | (go_at_call 14; refine (sizes_ _ (Tab.ext HT.out (by repeat (first | (with_reducible exact Ext.refl _) | (with_reducible refine Ext.undrew ?_) | (with_reducible refine Ext.grow ?_ _) | (with_reducible refine Ext.drew ?_) | (with_reducible refine Ext.drewN ?_ _) | (with_reducible refine Ext.alloc ?_ _) | (with_reducible assumption) | ((with_reducible refine Ext.setCell ?_ ?_ _); rotate_left; (first | exact Nat.le_refl _ | ((try dsimp only); (try simp only [World.size_alloc, grow_size, World.size_setCell]); omega))))))).mono ?_; rintro e w1 ⟨rfl, rfl⟩))
    refine wp_loop_rounds 15 ?_
    rw [rounds_succ]
    go_wp2
    rw [rounds_succ]
    go_wp2
    rw [rounds_succ]
    go_wp2
    rw [rounds_succ]
    go_wp2
    rw [rounds_succ]
    go_wp2
    rw [rounds_succ]
    go_wp2
    rw [rounds_succ]
    go_wp2
    rw [rounds_succ]
    go_wp2
    rw [rounds_succ]
    go_wp2
    rw [rounds_succ]
    go_wp2
    rw [rounds_succ]
    go_wp2
    rw [rounds_succ]
    go_wp2
    rw [rounds_succ]
    go_wp2
    rw [rounds_succ]
    go_wp2
    rw [rounds_succ]
    go_wp2
    all_goals go_ret
    all_goals exact ⟨rfl, (by repeat (first | (with_reducible exact Ext.refl _) | (with_reducible refine Ext.undrew ?_) | (with_reducible refine Ext.grow ?_ _) | (with_reducible refine Ext.drew ?_) | (with_reducible refine Ext.drewN ?_ _) | (with_reducible refine Ext.alloc ?_ _) | (with_reducible assumption) | ((with_reducible refine Ext.setCell ?_ ?_ _); rotate_left; (first | exact Nat.le_refl _ | ((try dsimp only); (try simp only [World.size_alloc, grow_size, World.size_setCell]); omega)))))⟩
  · have e3 : roundT 96 = 96 := by decide
    have e4 : roundB 96 = true := by decide
    have g1 : decide (a0 ≤ 1024) = true := by simp; omega
    have g2 : decide (96 < a0) = false := by simp; omega
    have g3 : decide (a0 ≤ 96) = true := by simp; omega
    have d0 : decide (a0 ≤ 16) = false := by simp; omega
    have d1 : decide (a0 ≤ 32) = false := by simp; omega
    have d2 : decide (a0 ≤ 48) = false := by simp; omega
    have d3 : decide (a0 ≤ 64) = false := by simp; omega
    have d4 : decide (a0 ≤ 80) = false := by simp; omega
    have d6 : decide (a0 ≤ 112) = true := by simp; omega
    have d7 : decide (a0 ≤ 128) = true := by simp; omega
    have d8 : decide (a0 ≤ 192) = true := by simp; omega
    have d9 : decide (a0 ≤ 256) = true := by simp; omega
    have d10 : decide (a0 ≤ 384) = true := by simp; omega
    have d11 : decide (a0 ≤ 512) = true := by simp; omega
    have d12 : decide (a0 ≤ 768) = true := by simp; omega
    have d13 : decide (a0 ≤ 1024) = true := by simp; omega
    clear h h2 p1 p2 p3 p4 p5
    go_enter Tryd.func4, Tryd.ntmps4
    go_wp2_with (first | (go_at_call 8; refine (head _ HT.out).mono ?_; rintro e w1 ⟨rfl, hy⟩; obtain ⟨d, rfl⟩ := hy.grown; clear hy) | (go_at_call 9; refine (round_ _ _ (Tab.ext HT.out (by repeat (first | (with_reducible exact Ext.refl _) | (with_reducible refine Ext.undrew ?_) | (with_reducible refine Ext.grow ?_ _) | (with_reducible refine Ext.drew ?_) | (with_reducible refine Ext.drewN ?_ _) | (with_reducible refine Ext.alloc ?_ _) | (with_reducible assumption) | ((with_reducible refine Ext.setCell ?_ ?_ _); rotate_left; (first | exact Nat.le_refl _ | ((try dsimp only); (try simp only [World.size_alloc, grow_size, World.size_setCell]); omega))))))).mono ?_; rintro e w1 ⟨rfl, rfl⟩) | (go_at_call 11; refine (class_ _ _ (Tab.ext HT.out (by repeat (first | (with_reducible exact Ext.refl _) | (with_reducible refine Ext.undrew ?_) | (with_reducible refine Ext.grow ?_ _) | (with_reducible refine Ext.drew ?_) | (with_reducible refine Ext.drewN ?_ _) | (with_reducible refine Ext.alloc ?_ _) | (with_reducible assumption) | ((with_reducible refine Ext.setCell ?_ ?_ _); rotate_left; (first | exact Nat.le_refl _ | ((try dsimp only); (try simp only [World.size_alloc, grow_size, World.size_setCell]); omega))))))).mono ?_; rintro e w1 ⟨rfl, rfl⟩) | (go_at_call 14; refine (sizes_ _ (Tab.ext HT.out (by repeat (first | (with_reducible exact Ext.refl _) | (with_reducible refine Ext.undrew ?_) | (with_reducible refine Ext.grow ?_ _) | (with_reducible refine Ext.drew ?_) | (with_reducible refine Ext.drewN ?_ _) | (with_reducible refine Ext.alloc ?_ _) | (with_reducible assumption) | ((with_reducible refine Ext.setCell ?_ ?_ _); rotate_left; (first | exact Nat.le_refl _ | ((try dsimp only); (try simp only [World.size_alloc, grow_size, World.size_setCell]); omega))))))).mono ?_; rintro e w1 ⟨rfl, rfl⟩))
    refine wp_loop_rounds 15 ?_
    rw [rounds_succ]
    go_wp2
    rw [rounds_succ]
    go_wp2
    rw [rounds_succ]
    go_wp2
    rw [rounds_succ]
    go_wp2
    rw [rounds_succ]
    go_wp2
    rw [rounds_succ]
    go_wp2
    rw [rounds_succ]
    go_wp2
    rw [rounds_succ]
    go_wp2
    rw [rounds_succ]
    go_wp2
    rw [rounds_succ]
    go_wp2
    rw [rounds_succ]
    go_wp2
    rw [rounds_succ]
    go_wp2
    rw [rounds_succ]
    go_wp2
    rw [rounds_succ]
    go_wp2
    rw [rounds_succ]
    go_wp2
    all_goals go_ret
    all_goals exact ⟨rfl, (by repeat (first | (with_reducible exact Ext.refl _) | (with_reducible refine Ext.undrew ?_) | (with_reducible refine Ext.grow ?_ _) | (with_reducible refine Ext.drew ?_) | (with_reducible refine Ext.drewN ?_ _) | (with_reducible refine Ext.alloc ?_ _) | (with_reducible assumption) | ((with_reducible refine Ext.setCell ?_ ?_ _); rotate_left; (first | exact Nat.le_refl _ | ((try dsimp only); (try simp only [World.size_alloc, grow_size, World.size_setCell]); omega)))))⟩
  · have e3 : roundT 112 = 112 := by decide
    have e4 : roundB 112 = true := by decide
    have g1 : decide (a0 ≤ 1024) = true := by simp; omega
    have g2 : decide (112 < a0) = false := by simp; omega
    have g3 : decide (a0 ≤ 112) = true := by simp; omega
    have d0 : decide (a0 ≤ 16) = false := by simp; omega
    have d1 : decide (a0 ≤ 32) = false := by simp; omega
    have d2 : decide (a0 ≤ 48) = false := by simp; omega
    have d3 : decide (a0 ≤ 64) = false := by simp; omega
    have d4 : decide (a0 ≤ 80) = false := by simp; omega
    have d5 : decide (a0 ≤ 96) = false := by simp; omega
    have d7 : decide (a0 ≤ 128) = true := by simp; omega
    have d8 : decide (a0 ≤ 192) = true := by simp; omega
    have d9 : decide (a0 ≤ 256) = true := by simp; omega
    have d10 : decide (a0 ≤ 384) = true := by simp; omega
    have d11 : decide (a0 ≤ 512) = true := by simp; omega
    have d12 : decide (a0 ≤ 768) = true := by simp; omega
    have d13 : decide (a0 ≤ 1024) = true := by simp; omega
    clear h h2 p1 p2 p3 p4 p5
    go_enter Tryd.func4, Tryd.ntmps4
    go_wp2_with (first | (go_at_call 8; refine (head _ HT.out).mono ?_; rintro e w1 ⟨rfl, hy⟩; obtain ⟨d, rfl⟩ := hy.grown; clear hy) | (go_at_call 9; refine (round_ _ _ (Tab.ext HT.out (by repeat (first | (with_reducible exact Ext.refl _) | (with_reducible refine Ext.undrew ?_) | (with_reducible refine Ext.grow ?_ _) | (with_reducible refine Ext.drew ?_) | (with_reducible refine Ext.drewN ?_ _) | (with_reducible refine Ext.alloc ?_ _) | (with_reducible assumption) | ((with_reducible refine Ext.setCell ?_ ?_ _); rotate_left; (first | exact Nat.le_refl _ | ((try dsimp only); (try simp only [World.size_alloc, grow_size, World.size_setCell]); omega))))))).mono ?_; rintro e w1 ⟨rfl, rfl⟩) | (go_at_call 11; refine (class_ _ _ (Tab.ext HT.out (by repeat (first | (with_reducible exact Ext.refl _) | (with_reducible refine Ext.undrew ?_) | (with_reducible refine Ext.grow ?_ _) | (with_reducible refine Ext.drew ?_) | (with_reducible refine Ext.drewN ?_ _) | (with_reducible refine Ext.alloc ?_ _) | (with_reducible assumption) | ((with_reducible refine Ext.setCell ?_ ?_ _); rotate_left; (first | exact Nat.le_refl _ | ((try dsimp only); (try simp only [World.size_alloc, grow_size, World.size_setCell]); omega))))))).mono ?_; rintro e w1 ⟨rfl, rfl⟩) | (go_at_call 14; refine (sizes_ _ (Tab.ext HT.out (by repeat (first | (with_reducible exact Ext.refl _) | (with_reducible refine Ext.undrew ?_) | (with_reducible refine Ext.grow ?_ _) | (with_reducible refine Ext.drew ?_) | (with_reducible refine Ext.drewN ?_ _) | (with_reducible refine Ext.alloc ?_ _) | (with_reducible assumption) | ((with_reducible refine Ext.setCell ?_ ?_ _); rotate_left; (first | exact Nat.le_refl _ | ((try dsimp only); (try simp only [World.size_alloc, grow_size, World.size_setCell]); omega))))))).mono ?_; rintro e w1 ⟨rfl, rfl⟩))
    refine wp_loop_rounds 15 ?_
    rw [rounds_succ]
    go_wp2
    rw [rounds_succ]
    go_wp2
    rw [rounds_succ]
    go_wp2
    rw [rounds_succ]
    go_wp2
    rw [rounds_succ]
    go_wp2
    rw [rounds_succ]
    go_wp2
    rw [rounds_succ]
    go_wp2
    rw [rounds_succ]
    go_wp2
    rw [rounds_succ]
    go_wp2
    rw [rounds_succ]
    go_wp2
    rw [rounds_succ]
    go_wp2
    rw [rounds_succ]
    go_wp2
    rw [rounds_succ]
    go_wp2
    rw [rounds_succ]
    go_wp2
    rw [rounds_succ]
    go_wp2
    all_goals go_ret
    all_goals exact ⟨rfl, (by repeat (first | (with_reducible exact Ext.refl _) | (with_reducible refine Ext.undrew ?_) | (with_reducible refine Ext.grow ?_ _) | (with_reducible refine Ext.drew ?_) | (with_reducible refine Ext.drewN ?_ _) | (with_reducible refine Ext.alloc ?_ _) | (with_reducible assumption) | ((with_reducible refine Ext.setCell ?_ ?_ _); rotate_left; (first | exact Nat.le_refl _ | ((try dsimp only); (try simp only [World.size_alloc, grow_size, World.size_setCell]); omega)))))⟩
  · have e3 : roundT 128 = 128 := by decide
    have e4 : roundB 128 = true := by decide
    have g1 : decide (a0 ≤ 1024) = true := by simp; omega
    have g2 : decide (128 < a0) = false := by simp; omega
    have g3 : decide (a0 ≤ 128) = true := by simp; omega
    have d0 : decide (a0 ≤ 16) = false := by simp; omega
    have d1 : decide (a0 ≤ 32) = false := by simp; omega
    have d2 : decide (a0 ≤ 48) = false := by simp; omega
    have d3 : decide (a0 ≤ 64) = false := by simp; omega
    have d4 : decide (a0 ≤ 80) = false := by simp; omega
    have d5 : decide (a0 ≤ 96) = false := by simp; omega
    have d6 : decide (a0 ≤ 112) = false := by simp; omega
    have d8 : decide (a0 ≤ 192) = true := by simp; omega
    have d9 : decide (a0 ≤ 256) = true := by simp; omega
    have d10 : decide (a0 ≤ 384) = true := by simp; omega
    have d11 : decide (a0 ≤ 512) = true := by simp; omega
    have d12 : decide (a0 ≤ 768) = true := by simp; omega
    have d13 : decide (a0 ≤ 1024) = true := by simp; omega
    clear h h2 p1 p2 p3 p4 p5
    go_enter Tryd.func4, Tryd.ntmps4
    go_wp2_with (first | (go_at_call 8; refine (head _ HT.out).mono ?_; rintro e w1 ⟨rfl, hy⟩; obtain ⟨d, rfl⟩ := hy.grown; clear hy) | (go_at_call 9; refine (round_ _ _ (Tab.ext HT.out (by repeat (first | (with_reducible exact Ext.refl _) | (with_reducible refine Ext.undrew ?_) | (with_reducible refine Ext.grow ?_ _) | (with_reducible refine Ext.drew ?_) | (with_reducible refine Ext.drewN ?_ _) | (with_reducible refine Ext.alloc ?_ _) | (with_reducible assumption) | ((with_reducible refine Ext.setCell ?_ ?_ _); rotate_left; (first | exact Nat.le_refl _ | ((try dsimp only); (try simp only [World.size_alloc, grow_size, World.size_setCell]); omega))))))).mono ?_; rintro e w1 ⟨rfl, rfl⟩) | (go_at_call 11; refine (class_ _ _ (Tab.ext HT.out (by repeat (first | (with_reducible exact Ext.refl _) | (with_reducible refine Ext.undrew ?_) | (with_reducible refine Ext.grow ?_ _) | (with_reducible refine Ext.drew ?_) | (with_reducible refine Ext.drewN ?_ _) | (with_reducible refine Ext.alloc ?_ _) | (with_reducible assumption) | ((with_reducible refine Ext.setCell ?_ ?_ _); rotate_left; (first | exact Nat.le_refl _ | ((try dsimp only); (try simp only [World.size_alloc, grow_size, World.size_setCell]); omega))))))).mono ?_; rintro e w1 ⟨rfl, rfl⟩) | (go_at_call 14; refine (sizes_ _ (Tab.ext HT.out (by repeat (first | (with_reducible exact Ext.refl _) | (with_reducible refine Ext.undrew ?_) | (with_reducible refine Ext.grow ?_ _) | (with_reducible refine Ext.drew ?_) | (with_reducible refine Ext.drewN ?_ _) | (with_reducible refine Ext.alloc ?_ _) | (with_reducible assumption) | ((with_reducible refine Ext.setCell ?_ ?_ _); rotate_left; (first | exact Nat.le_refl _ | ((try dsimp only); (try simp only [World.size_alloc, grow_size, World.size_setCell]); omega))))))).mono ?_; rintro e w1 ⟨rfl, rfl⟩))
    refine wp_loop_rounds 15 ?_
    rw [rounds_succ]
    go_wp2
    rw [rounds_succ]
    go_wp2
    rw [rounds_succ]
    go_wp2
    rw [rounds_succ]
    go_wp2
    rw [rounds_succ]
    go_wp2
    rw [rounds_succ]
    go_wp2
    rw [rounds_succ]
    go_wp2
    rw [rounds_succ]
    go_wp2
    rw [rounds_succ]
    go_wp2
    rw [rounds_succ]
    go_wp2
    rw [rounds_succ]
    go_wp2
    rw [rounds_succ]
    go_wp2
    rw [rounds_succ]
    go_wp2
    rw [rounds_succ]
    go_wp2
    rw [rounds_succ]
    go_wp2
    all_goals go_ret
    all_goals exact ⟨rfl, (by repeat (first | (with_reducible exact Ext.refl _) | (with_reducible refine Ext.undrew ?_) | (with_reducible refine Ext.grow ?_ _) | (with_reducible refine Ext.drew ?_) | (with_reducible refine Ext.drewN ?_ _) | (with_reducible refine Ext.alloc ?_ _) | (with_reducible assumption) | ((with_reducible refine Ext.setCell ?_ ?_ _); rotate_left; (first | exact Nat.le_refl _ | ((try dsimp only); (try simp only [World.size_alloc, grow_size, World.size_setCell]); omega)))))⟩
  · have e3 : roundT 192 = 192 := by decide
    have e4 : roundB 192 = true := by decide
    have g1 : decide (a0 ≤ 1024) = true := by simp; omega
    have g2 : decide (192 < a0) = false := by simp; omega
    have g3 : decide (a0 ≤ 192) = true := by simp; omega
    have d0 : decide (a0 ≤ 16) = false := by simp; omega
    have d1 : decide (a0 ≤ 32) = false := by simp; omega
    have d2 : decide (a0 ≤ 48) = false := by simp; omega
    have d3 : decide (a0 ≤ 64) = false := by simp; omega
    have d4 : decide (a0 ≤ 80) = false := by simp; omega
    have d5 : decide (a0 ≤ 96) = false := by simp; omega
    have d6 : decide (a0 ≤ 112) = false := by simp; omega
    have d7 : decide (a0 ≤ 128) = false := by simp; omega
    have d9 : decide (a0 ≤ 256) = true := by simp; omega
    have d10 : decide (a0 ≤ 384) = true := by simp; omega
    have d11 : decide (a0 ≤ 512) = true := by simp; omega
    have d12 : decide (a0 ≤ 768) = true := by simp; omega
    have d13 : decide (a0 ≤ 1024) = true := by simp; omega
    clear h h2 p1 p2 p3 p4 p5
    go_enter Tryd.func4, Tryd.ntmps4
    go_wp2_with (first | (go_at_call 8; refine (head _ HT.out).mono ?_; rintro e w1 ⟨rfl, hy⟩; obtain ⟨d, rfl⟩ := hy.grown; clear hy) | (go_at_call 9; refine (round_ _ _ (Tab.ext HT.out (by repeat (first | (with_reducible exact Ext.refl _) | (with_reducible refine Ext.undrew ?_) | (with_reducible refine Ext.grow ?_ _) | (with_reducible refine Ext.drew ?_) | (with_reducible refine Ext.drewN ?_ _) | (with_reducible refine Ext.alloc ?_ _) | (with_reducible assumption) | ((with_reducible refine Ext.setCell ?_ ?_ _); rotate_left; (first | exact Nat.le_refl _ | ((try dsimp only); (try simp only [World.size_alloc, grow_size, World.size_setCell]); omega))))))).mono ?_; rintro e w1 ⟨rfl, rfl⟩) | (go_at_call 11; refine (class_ _ _ (Tab.ext HT.out (by repeat (first | (with_reducible exact Ext.refl _) | (with_reducible refine Ext.undrew ?_) | (with_reducible refine Ext.grow ?_ _) | (with_reducible refine Ext.drew ?_) | (with_reducible refine Ext.drewN ?_ _) | (with_reducible refine Ext.alloc ?_ _) | (with_reducible assumption) | ((with_reducible refine Ext.setCell ?_ ?_ _); rotate_left; (first | exact Nat.le_refl _ | ((try dsimp only); (try simp only [World.size_alloc, grow_size, World.size_setCell]); omega))))))).mono ?_; rintro e w1 ⟨rfl, rfl⟩) | (go_at_call 14; refine (sizes_ _ (Tab.ext HT.out (by repeat (first | (with_reducible exact Ext.refl _) | (with_reducible refine Ext.undrew ?_) | (with_reducible refine Ext.grow ?_ _) | (with_reducible refine Ext.drew ?_) | (with_reducible refine Ext.drewN ?_ _) | (with_reducible refine Ext.alloc ?_ _) | (with_reducible assumption) | ((with_reducible refine Ext.setCell ?_ ?_ _); rotate_left; (first | exact Nat.le_refl _ | ((try dsimp only); (try simp only [World.size_alloc, grow_size, World.size_setCell]); omega))))))).mono ?_; rintro e w1 ⟨rfl, rfl⟩))
    refine wp_loop_rounds 15 ?_
    rw [rounds_succ]
    go_wp2
    rw [rounds_succ]
    go_wp2
    rw [rounds_succ]
    go_wp2
    rw [rounds_succ]
    go_wp2
    rw [rounds_succ]
    go_wp2
    rw [rounds_succ]
    go_wp2
    rw [rounds_succ]
    go_wp2
    rw [rounds_succ]
    go_wp2
    rw [rounds_succ]
    go_wp2
    rw [rounds_succ]
    go_wp2
    rw [rounds_succ]
    go_wp2
    rw [rounds_succ]
    go_wp2
    rw [rounds_succ]
    go_wp2
    rw [rounds_succ]
    go_wp2
    rw [rounds_succ]
    go_wp2
    all_goals go_ret
    all_goals exact ⟨rfl, (by repeat (first | (with_reducible exact Ext.refl _) | (with_reducible refine Ext.undrew ?_) | (with_reducible refine Ext.grow ?_ _) | (with_reducible refine Ext.drew ?_) | (with_reducible refine Ext.drewN ?_ _) | (with_reducible refine Ext.alloc ?_ _) | (with_reducible assumption) | ((with_reducible refine Ext.setCell ?_ ?_ _); rotate_left; (first | exact Nat.le_refl _ | ((try dsimp only); (try simp only [World.size_alloc, grow_size, World.size_setCell]); omega)))))⟩
  · have e3 : roundT 256 = 256 := by decide
    have e4 : roundB 256 = true := by decide
    have g1 : decide (a0 ≤ 1024) = true := by simp; omega
    have g2 : decide (256 < a0) = false := by simp; omega
    have g3 : decide (a0 ≤ 256) = true := by simp; omega
    have d0 : decide (a0 ≤ 16) = false := by simp; omega
    have d1 : decide (a0 ≤ 32) = false := by simp; omega
    have d2 : decide (a0 ≤ 48) = false := by simp; omega
    have d3 : decide (a0 ≤ 64) = false := by simp; omega
    have d4 : decide (a0 ≤ 80) = false := by simp; omega
    have d5 : decide (a0 ≤ 96) = false := by simp; omega
    have d6 : decide (a0 ≤ 112) = false := by simp; omega
    have d7 : decide (a0 ≤ 128) = false := by simp; omega
    have d8 : decide (a0 ≤ 192) = false := by simp; omega
    have d10 : decide (a0 ≤ 384) = true := by simp; omega
    have d11 : decide (a0 ≤ 512) = true := by simp; omega
    have d12 : decide (a0 ≤ 768) = true := by simp; omega
    have d13 : decide (a0 ≤ 1024) = true := by simp; omega
    clear h h2 p1 p2 p3 p4 p5
    go_enter Tryd.func4, Tryd.ntmps4
    go_wp2_with (first | (go_at_call 8; refine (head _ HT.out).mono ?_; rintro e w1 ⟨rfl, hy⟩; obtain ⟨d, rfl⟩ := hy.grown; clear hy) | (go_at_call 9; refine (round_ _ _ (Tab.ext HT.out (by repeat (first | (with_reducible exact Ext.refl _) | (with_reducible refine Ext.undrew ?_) | (with_reducible refine Ext.grow ?_ _) | (with_reducible refine Ext.drew ?_) | (with_reducible refine Ext.drewN ?_ _) | (with_reducible refine Ext.alloc ?_ _) | (with_reducible assumption) | ((with_reducible refine Ext.setCell ?_ ?_ _); rotate_left; (first | exact Nat.le_refl _ | ((try dsimp only); (try simp only [World.size_alloc, grow_size, World.size_setCell]); omega))))))).mono ?_; rintro e w1 ⟨rfl, rfl⟩) | (go_at_call 11; refine (class_ _ _ (Tab.ext HT.out (by repeat (first | (with_reducible exact Ext.refl _) | (with_reducible refine Ext.undrew ?_) | (with_reducible refine Ext.grow ?_ _) | (with_reducible refine Ext.drew ?_) | (with_reducible refine Ext.drewN ?_ _) | (with_reducible refine Ext.alloc ?_ _) | (with_reducible assumption) | ((with_reducible refine Ext.setCell ?_ ?_ _); rotate_left; (first | exact Nat.le_refl _ | ((try dsimp only); (try simp only [World.size_alloc, grow_size, World.size_setCell]); omega))))))).mono ?_; rintro e w1 ⟨rfl, rfl⟩) | (go_at_call 14; refine (sizes_ _ (Tab.ext HT.out (by repeat (first | (with_reducible exact Ext.refl _) | (with_reducible refine Ext.undrew ?_) | (with_reducible refine Ext.grow ?_ _) | (with_reducible refine Ext.drew ?_) | (with_reducible refine Ext.drewN ?_ _) | (with_reducible refine Ext.alloc ?_ _) | (with_reducible assumption) | ((with_reducible refine Ext.setCell ?_ ?_ _); rotate_left; (first | exact Nat.le_refl _ | ((try dsimp only); (try simp only [World.size_alloc, grow_size, World.size_setCell]); omega))))))).mono ?_; rintro e w1 ⟨rfl, rfl⟩))
    refine wp_loop_rounds 15 ?_
    rw [rounds_succ]
    go_wp2
    rw [rounds_succ]
    go_wp2
    rw [rounds_succ]
    go_wp2
    rw [rounds_succ]
    go_wp2
    rw [rounds_succ]
    go_wp2
    rw [rounds_succ]
    go_wp2
    rw [rounds_succ]
    go_wp2
    rw [rounds_succ]
    go_wp2
    rw [rounds_succ]
    go_wp2
    rw [rounds_succ]
    go_wp2
    rw [rounds_succ]
    go_wp2
    rw [rounds_succ]
    go_wp2
    rw [rounds_succ]
    go_wp2
    rw [rounds_succ]
    go_wp2
    rw [rounds_succ]
    go_wp2
    all_goals go_ret
    all_goals exact ⟨rfl, (by repeat (first | (with_reducible exact Ext.refl _) | (with_reducible refine Ext.undrew ?_) | (with_reducible refine Ext.grow ?_ _) | (with_reducible refine Ext.drew ?_) | (with_reducible refine Ext.drewN ?_ _) | (with_reducible refine Ext.alloc ?_ _) | (with_reducible assumption) | ((with_reducible refine Ext.setCell ?_ ?_ _); rotate_left; (first | exact Nat.le_refl _ | ((try dsimp only); (try simp only [World.size_alloc, grow_size, World.size_setCell]); omega)))))⟩
  · have e3 : roundT 384 = 384 := by decide
    have e4 : roundB 384 = true := by decide
    have g1 : decide (a0 ≤ 1024) = true := by simp; omega
    have g2 : decide (384 < a0) = false := by simp; omega
    have g3 : decide (a0 ≤ 384) = true := by simp; omega
    have d0 : decide (a0 ≤ 16) = false := by simp; omega
    have d1 : decide (a0 ≤ 32) = false := by simp; omega
    have d2 : decide (a0 ≤ 48) = false := by simp; omega
    have d3 : decide (a0 ≤ 64) = false := by simp; omega
    have d4 : decide (a0 ≤ 80) = false := by simp; omega
    have d5 : decide (a0 ≤ 96) = false := by simp; omega
    have d6 : decide (a0 ≤ 112) = false := by simp; omega
    have d7 : decide (a0 ≤ 128) = false := by simp; omega
    have d8 : decide (a0 ≤ 192) = false := by simp; omega
    have d9 : decide (a0 ≤ 256) = false := by simp; omega
    have d11 : decide (a0 ≤ 512) = true := by simp; omega
    have d12 : decide (a0 ≤ 768) = true := by simp; omega
    have d13 : decide (a0 ≤ 1024) = true := by simp; omega
    clear h h2 p1 p2 p3 p4 p5
    go_enter Tryd.func4, Tryd.ntmps4
    go_wp2_with (first | (go_at_call 8; refine (head _ HT.out).mono ?_; rintro e w1 ⟨rfl, hy⟩; obtain ⟨d, rfl⟩ := hy.grown; clear hy) | (go_at_call 9; refine (round_ _ _ (Tab.ext HT.out (by repeat (first | (with_reducible exact Ext.refl _) | (with_reducible refine Ext.undrew ?_) | (with_reducible refine Ext.grow ?_ _) | (with_reducible refine Ext.drew ?_) | (with_reducible refine Ext.drewN ?_ _) | (with_reducible refine Ext.alloc ?_ _) | (with_reducible assumption) | ((with_reducible refine Ext.setCell ?_ ?_ _); rotate_left; (first | exact Nat.le_refl _ | ((try dsimp only); (try simp only [World.size_alloc, grow_size, World.size_setCell]); omega))))))).mono ?_; rintro e w1 ⟨rfl, rfl⟩) | (go_at_call 11; refine (class_ _ _ (Tab.ext HT.out (by repeat (first | (with_reducible exact Ext.refl _) | (with_reducible refine Ext.undrew ?_) | (with_reducible refine Ext.grow ?_ _) | (with_reducible refine Ext.drew ?_) | (with_reducible refine Ext.drewN ?_ _) | (with_reducible refine Ext.alloc ?_ _) | (with_reducible assumption) | ((with_reducible refine Ext.setCell ?_ ?_ _); rotate_left; (first | exact Nat.le_refl _ | ((try dsimp only); (try simp only [World.size_alloc, grow_size, World.size_setCell]); omega))))))).mono ?_; rintro e w1 ⟨rfl, rfl⟩) | (go_at_call 14; refine (sizes_ _ (Tab.ext HT.out (by repeat (first | (with_reducible exact Ext.refl _) | (with_reducible refine Ext.undrew ?_) | (with_reducible refine Ext.grow ?_ _) | (with_reducible refine Ext.drew ?_) | (with_reducible refine Ext.drewN ?_ _) | (with_reducible refine Ext.alloc ?_ _) | (with_reducible assumption) | ((with_reducible refine Ext.setCell ?_ ?_ _); rotate_left; (first | exact Nat.le_refl _ | ((try dsimp only); (try simp only [World.size_alloc, grow_size, World.size_setCell]); omega))))))).mono ?_; rintro e w1 ⟨rfl, rfl⟩))
    refine wp_loop_rounds 15 ?_
    rw [rounds_succ]
    go_wp2
    rw [rounds_succ]
    go_wp2
    rw [rounds_succ]
    go_wp2
    rw [rounds_succ]
    go_wp2
    rw [rounds_succ]
    go_wp2
    rw [rounds_succ]
    go_wp2
    rw [rounds_succ]
    go_wp2
    rw [rounds_succ]
    go_wp2
    rw [rounds_succ]
    go_wp2
    rw [rounds_succ]
    go_wp2
    rw [rounds_succ]
    go_wp2
    rw [rounds_succ]
    go_wp2
    rw [rounds_succ]
    go_wp2
    rw [rounds_succ]
    go_wp2
    rw [rounds_succ]
    go_wp2
    all_goals go_ret
    all_goals exact ⟨rfl, (by repeat (first | (with_reducible exact Ext.refl _) | (with_reducible refine Ext.undrew ?_) | (with_reducible refine Ext.grow ?_ _) | (with_reducible refine Ext.drew ?_) | (with_reducible refine Ext.drewN ?_ _) | (with_reducible refine Ext.alloc ?_ _) | (with_reducible assumption) | ((with_reducible refine Ext.setCell ?_ ?_ _); rotate_left; (first | exact Nat.le_refl _ | ((try dsimp only); (try simp only [World.size_alloc, grow_size, World.size_setCell]); omega)))))⟩
  · have e3 : roundT 512 = 512 := by decide
    have e4 : roundB 512 = true := by decide
    have g1 : decide (a0 ≤ 1024) = true := by simp; omega
    have g2 : decide (512 < a0) = false := by simp; omega
    have g3 : decide (a0 ≤ 512) = true := by simp; omega
    have d0 : decide (a0 ≤ 16) = false := by simp; omega
    have d1 : decide (a0 ≤ 32) = false := by simp; omega
    have d2 : decide (a0 ≤ 48) = false := by simp; omega
    have d3 : decide (a0 ≤ 64) = false := by simp; omega
    have d4 : decide (a0 ≤ 80) = false := by simp; omega
    have d5 : decide (a0 ≤ 96) = false := by simp; omega
    have d6 : decide (a0 ≤ 112) = false := by simp; omega
    have d7 : decide (a0 ≤ 128) = false := by simp; omega
    have d8 : decide (a0 ≤ 192) = false := by simp; omega
    have d9 : decide (a0 ≤ 256) = false := by simp; omega
    have d10 : decide (a0 ≤ 384) = false := by simp; omega
    have d12 : decide (a0 ≤ 768) = true := by simp; omega
    have d13 : decide (a0 ≤ 1024) = true := by simp; omega
    clear h h2 p1 p2 p3 p4 p5
    go_enter Tryd.func4, Tryd.ntmps4
    go_wp2_with (first | (go_at_call 8; refine (head _ HT.out).mono ?_; rintro e w1 ⟨rfl, hy⟩; obtain ⟨d, rfl⟩ := hy.grown; clear hy) | (go_at_call 9; refine (round_ _ _ (Tab.ext HT.out (by repeat (first | (with_reducible exact Ext.refl _) | (with_reducible refine Ext.undrew ?_) | (with_reducible refine Ext.grow ?_ _) | (with_reducible refine Ext.drew ?_) | (with_reducible refine Ext.drewN ?_ _) | (with_reducible refine Ext.alloc ?_ _) | (with_reducible assumption) | ((with_reducible refine Ext.setCell ?_ ?_ _); rotate_left; (first | exact Nat.le_refl _ | ((try dsimp only); (try simp only [World.size_alloc, grow_size, World.size_setCell]); omega))))))).mono ?_; rintro e w1 ⟨rfl, rfl⟩) | (go_at_call 11; refine (class_ _ _ (Tab.ext HT.out (by repeat (first | (with_reducible exact Ext.refl _) | (with_reducible refine Ext.undrew ?_) | (with_reducible refine Ext.grow ?_ _) | (with_reducible refine Ext.drew ?_) | (with_reducible refine Ext.drewN ?_ _) | (with_reducible refine Ext.alloc ?_ _) | (with_reducible assumption) | ((with_reducible refine Ext.setCell ?_ ?_ _); rotate_left; (first | exact Nat.le_refl _ | ((try dsimp only); (try simp only [World.size_alloc, grow_size, World.size_setCell]); omega))))))).mono ?_; rintro e w1 ⟨rfl, rfl⟩) | (go_at_call 14; refine (sizes_ _ (Tab.ext HT.out (by repeat (first | (with_reducible exact Ext.refl _) | (with_reducible refine Ext.undrew ?_) | (with_reducible refine Ext.grow ?_ _) | (with_reducible refine Ext.drew ?_) | (with_reducible refine Ext.drewN ?_ _) | (with_reducible refine Ext.alloc ?_ _) | (with_reducible assumption) | ((with_reducible refine Ext.setCell ?_ ?_ _); rotate_left; (first | exact Nat.le_refl _ | ((try dsimp only); (try simp only [World.size_alloc, grow_size, World.size_setCell]); omega))))))).mono ?_; rintro e w1 ⟨rfl, rfl⟩))
    refine wp_loop_rounds 15 ?_
    rw [rounds_succ]
    go_wp2
    rw [rounds_succ]
    go_wp2
    rw [rounds_succ]
    go_wp2
    rw [rounds_succ]
    go_wp2
    rw [rounds_succ]
    go_wp2
    rw [rounds_succ]
    go_wp2
    rw [rounds_succ]
    go_wp2
    rw [rounds_succ]
    go_wp2
    rw [rounds_succ]
    go_wp2
    rw [rounds_succ]
    go_wp2
    rw [rounds_succ]
    go_wp2
    rw [rounds_succ]
    go_wp2
    rw [rounds_succ]
    go_wp2
    rw [rounds_succ]
    go_wp2
    rw [rounds_succ]
    go_wp2
    all_goals go_ret
    all_goals exact ⟨rfl, (by repeat (first | (with_reducible exact Ext.refl _) | (with_reducible refine Ext.undrew ?_) | (with_reducible refine Ext.grow ?_ _) | (with_reducible refine Ext.drew ?_) | (with_reducible refine Ext.drewN ?_ _) | (with_reducible refine Ext.alloc ?_ _) | (with_reducible assumption) | ((with_reducible refine Ext.setCell ?_ ?_ _); rotate_left; (first | exact Nat.le_refl _ | ((try dsimp only); (try simp only [World.size_alloc, grow_size, World.size_setCell]); omega)))))⟩
  · have e3 : roundT 768 = 768 := by decide
    have e4 : roundB 768 = true := by decide
    have g1 : decide (a0 ≤ 1024) = true := by simp; omega
    have g2 : decide (768 < a0) = false := by simp; omega
    have g3 : decide (a0 ≤ 768) = true := by simp; omega
    have d0 : decide (a0 ≤ 16) = false := by simp; omega
    have d1 : decide (a0 ≤ 32) = false := by simp; omega
    have d2 : decide (a0 ≤ 48) = false := by simp; omega
    have d3 : decide (a0 ≤ 64) = false := by simp; omega
    have d4 : decide (a0 ≤ 80) = false := by simp; omega
    have d5 : decide (a0 ≤ 96) = false := by simp; omega
    have d6 : decide (a0 ≤ 112) = false := by simp; omega
    have d7 : decide (a0 ≤ 128) = false := by simp; omega
    have d8 : decide (a0 ≤ 192) = false := by simp; omega
    have d9 : decide (a0 ≤ 256) = false := by simp; omega
    have d10 : decide (a0 ≤ 384) = false := by simp; omega
    have d11 : decide (a0 ≤ 512) = false := by simp; omega
    have d13 : decide (a0 ≤ 1024) = true := by simp; omega
    clear h h2 p1 p2 p3 p4 p5
    go_enter Tryd.func4, Tryd.ntmps4
    go_wp2_with (first | (go_at_call 8; refine (head _ HT.out).mono ?_; rintro e w1 ⟨rfl, hy⟩; obtain ⟨d, rfl⟩ := hy.grown; clear hy) | (go_at_call 9; refine (round_ _ _ (Tab.ext HT.out (by repeat (first | (with_reducible exact Ext.refl _) | (with_reducible refine Ext.undrew ?_) | (with_reducible refine Ext.grow ?_ _) | (with_reducible refine Ext.drew ?_) | (with_reducible refine Ext.drewN ?_ _) | (with_reducible refine Ext.alloc ?_ _) | (with_reducible assumption) | ((with_reducible refine Ext.setCell ?_ ?_ _); rotate_left; (first | exact Nat.le_refl _ | ((try dsimp only); (try simp only [World.size_alloc, grow_size, World.size_setCell]); omega))))))).mono ?_; rintro e w1 ⟨rfl, rfl⟩) | (go_at_call 11; refine (class_ _ _ (Tab.ext HT.out (by repeat (first | (with_reducible exact Ext.refl _) | (with_reducible refine Ext.undrew ?_) | (with_reducible refine Ext.grow ?_ _) | (with_reducible refine Ext.drew ?_) | (with_reducible refine Ext.drewN ?_ _) | (with_reducible refine Ext.alloc ?_ _) | (with_reducible assumption) | ((with_reducible refine Ext.setCell ?_ ?_ _); rotate_left; (first | exact Nat.le_refl _ | ((try dsimp only); (try simp only [World.size_alloc, grow_size, World.size_setCell]); omega))))))).mono ?_; rintro e w1 ⟨rfl, rfl⟩) | (go_at_call 14; refine (sizes_ _ (Tab.ext HT.out (by repeat (first | (with_reducible exact Ext.refl _) | (with_reducible refine Ext.undrew ?_) | (with_reducible refine Ext.grow ?_ _) | (with_reducible refine Ext.drew ?_) | (with_reducible refine Ext.drewN ?_ _) | (with_reducible refine Ext.alloc ?_ _) | (with_reducible assumption) | ((with_reducible refine Ext.setCell ?_ ?_ _); rotate_left; (first | exact Nat.le_refl _ | ((try dsimp only); (try simp only [World.size_alloc, grow_size, World.size_setCell]); omega))))))).mono ?_; rintro e w1 ⟨rfl, rfl⟩))
    refine wp_loop_rounds 15 ?_
    rw [rounds_succ]
    go_wp2
    rw [rounds_succ]
    go_wp2
    rw [rounds_succ]
    go_wp2
    rw [rounds_succ]
    go_wp2
    rw [rounds_succ]
    go_wp2
    rw [rounds_succ]
    go_wp2
    rw [rounds_succ]
    go_wp2
    rw [rounds_succ]
    go_wp2
    rw [rounds_succ]
    go_wp2
    rw [rounds_succ]
    go_wp2
    rw [rounds_succ]
    go_wp2
    rw [rounds_succ]
    go_wp2
    rw [rounds_succ]
    go_wp2
    rw [rounds_succ]
    go_wp2
    rw [rounds_succ]
    go_wp2
    all_goals go_ret
    all_goals exact ⟨rfl, (by repeat (first | (with_reducible exact Ext.refl _) | (with_reducible refine Ext.undrew ?_) | (with_reducible refine Ext.grow ?_ _) | (with_reducible refine Ext.drew ?_) | (with_reducible refine Ext.drewN ?_ _) | (with_reducible refine Ext.alloc ?_ _) | (with_reducible assumption) | ((with_reducible refine Ext.setCell ?_ ?_ _); rotate_left; (first | exact Nat.le_refl _ | ((try dsimp only); (try simp only [World.size_alloc, grow_size, World.size_setCell]); omega)))))⟩
  · have e3 : roundT 1024 = 1024 := by decide
    have e4 : roundB 1024 = true := by decide
    have g1 : decide (a0 ≤ 1024) = true := by simp; omega
    have g2 : decide (1024 < a0) = false := by simp; omega
    have g3 : decide (a0 ≤ 1024) = true := by simp; omega
    have d0 : decide (a0 ≤ 16) = false := by simp; omega
    have d1 : decide (a0 ≤ 32) = false := by simp; omega
    have d2 : decide (a0 ≤ 48) = false := by simp; omega
    have d3 : decide (a0 ≤ 64) = false := by simp; omega
    have d4 : decide (a0 ≤ 80) = false := by simp; omega
    have d5 : decide (a0 ≤ 96) = false := by simp; omega
    have d6 : decide (a0 ≤ 112) = false := by simp; omega
    have d7 : decide (a0 ≤ 128) = false := by simp; omega
    have d8 : decide (a0 ≤ 192) = false := by simp; omega
    have d9 : decide (a0 ≤ 256) = false := by simp; omega
    have d10 : decide (a0 ≤ 384) = false := by simp; omega
    have d11 : decide (a0 ≤ 512) = false := by simp; omega
    have d12 : decide (a0 ≤ 768) = false := by simp; omega
    clear h h2 p1 p2 p3 p4 p5
    go_enter Tryd.func4, Tryd.ntmps4
    go_wp2_with (first | (go_at_call 8; refine (head _ HT.out).mono ?_; rintro e w1 ⟨rfl, hy⟩; obtain ⟨d, rfl⟩ := hy.grown; clear hy) | (go_at_call 9; refine (round_ _ _ (Tab.ext HT.out (by repeat (first | (with_reducible exact Ext.refl _) | (with_reducible refine Ext.undrew ?_) | (with_reducible refine Ext.grow ?_ _) | (with_reducible refine Ext.drew ?_) | (with_reducible refine Ext.drewN ?_ _) | (with_reducible refine Ext.alloc ?_ _) | (with_reducible assumption) | ((with_reducible refine Ext.setCell ?_ ?_ _); rotate_left; (first | exact Nat.le_refl _ | ((try dsimp only); (try simp only [World.size_alloc, grow_size, World.size_setCell]); omega))))))).mono ?_; rintro e w1 ⟨rfl, rfl⟩) | (go_at_call 11; refine (class_ _ _ (Tab.ext HT.out (by repeat (first | (with_reducible exact Ext.refl _) | (with_reducible refine Ext.undrew ?_) | (with_reducible refine Ext.grow ?_ _) | (with_reducible refine Ext.drew ?_) | (with_reducible refine Ext.drewN ?_ _) | (with_reducible refine Ext.alloc ?_ _) | (with_reducible assumption) | ((with_reducible refine Ext.setCell ?_ ?_ _); rotate_left; (first | exact Nat.le_refl _ | ((try dsimp only); (try simp only [World.size_alloc, grow_size, World.size_setCell]); omega))))))).mono ?_; rintro e w1 ⟨rfl, rfl⟩) | (go_at_call 14; refine (sizes_ _ (Tab.ext HT.out (by repeat (first | (with_reducible exact Ext.refl _) | (with_reducible refine Ext.undrew ?_) | (with_reducible refine Ext.grow ?_ _) | (with_reducible refine Ext.drew ?_) | (with_reducible refine Ext.drewN ?_ _) | (with_reducible refine Ext.alloc ?_ _) | (with_reducible assumption) | ((with_reducible refine Ext.setCell ?_ ?_ _); rotate_left; (first | exact Nat.le_refl _ | ((try dsimp only); (try simp only [World.size_alloc, grow_size, World.size_setCell]); omega))))))).mono ?_; rintro e w1 ⟨rfl, rfl⟩))
    refine wp_loop_rounds 15 ?_
    rw [rounds_succ]
    go_wp2
    rw [rounds_succ]
    go_wp2
    rw [rounds_succ]
    go_wp2
    rw [rounds_succ]
    go_wp2
    rw [rounds_succ]
    go_wp2
    rw [rounds_succ]
    go_wp2
    rw [rounds_succ]
    go_wp2
    rw [rounds_succ]
    go_wp2
    rw [rounds_succ]
    go_wp2
    rw [rounds_succ]
    go_wp2
    rw [rounds_succ]
    go_wp2
    rw [rounds_succ]
    go_wp2
    rw [rounds_succ]
    go_wp2
    rw [rounds_succ]
    go_wp2
    rw [rounds_succ]
    go_wp2
    all_goals go_ret
    all_goals exact ⟨rfl, (by repeat (first | (with_reducible exact Ext.refl _) | (with_reducible refine Ext.undrew ?_) | (with_reducible refine Ext.grow ?_ _) | (with_reducible refine Ext.drew ?_) | (with_reducible refine Ext.drewN ?_ _) | (with_reducible refine Ext.alloc ?_ _) | (with_reducible assumption) | ((with_reducible refine Ext.setCell ?_ ?_ _); rotate_left; (first | exact Nat.le_refl _ | ((try dsimp only); (try simp only [World.size_alloc, grow_size, World.size_setCell]); omega)))))⟩
  · have e3 := HS.out
    obtain ⟨r, hr⟩ : ∃ r, r = roundT a0 := ⟨_, rfl⟩
    have hq : r % 256 = 0 := by rw [hr, e2]; omega
    have hq2 : (r % 256 == 0) = true := by simpa using hq
    have hq3 : (r % 16 != 0) = false := by simp; omega
    rw [← hr] at e3 p1 p2 p3 p4 p5
    have e2' : roundT a0 = r := hr.symm
    have e4 := roundB_yes (show 0 ≤ r by omega) p5
    have g1 : decide (a0 ≤ 1024) = false := by simp; omega
    have g2 : decide (r < a0) = false := by simp; omega
    have g4 : decide (r < 16) = false := by simp; omega
    have g5 : decide (r - a0 < 256) = true := by simp; omega
    clear e2 hr hq
    have d0 : decide (a0 ≤ 16) = false := by simp; omega
    have d1 : decide (a0 ≤ 32) = false := by simp; omega
    have d2 : decide (a0 ≤ 48) = false := by simp; omega
    have d3 : decide (a0 ≤ 64) = false := by simp; omega
    have d4 : decide (a0 ≤ 80) = false := by simp; omega
    have d5 : decide (a0 ≤ 96) = false := by simp; omega
    have d6 : decide (a0 ≤ 112) = false := by simp; omega
    have d7 : decide (a0 ≤ 128) = false := by simp; omega
    have d8 : decide (a0 ≤ 192) = false := by simp; omega
    have d9 : decide (a0 ≤ 256) = false := by simp; omega
    have d10 : decide (a0 ≤ 384) = false := by simp; omega
    have d11 : decide (a0 ≤ 512) = false := by simp; omega
    have d12 : decide (a0 ≤ 768) = false := by simp; omega
    have d13 : decide (a0 ≤ 1024) = false := by simp; omega
    clear h p4
    go_enter Tryd.func4, Tryd.ntmps4
    go_wp2_with (first | (go_at_call 8; refine (head _ HT.out).mono ?_; rintro e w1 ⟨rfl, hy⟩; obtain ⟨d, rfl⟩ := hy.grown; clear hy) | (go_at_call 9; refine (round_ _ _ (Tab.ext HT.out (by repeat (first | (with_reducible exact Ext.refl _) | (with_reducible refine Ext.undrew ?_) | (with_reducible refine Ext.grow ?_ _) | (with_reducible refine Ext.drew ?_) | (with_reducible refine Ext.drewN ?_ _) | (with_reducible refine Ext.alloc ?_ _) | (with_reducible assumption) | ((with_reducible refine Ext.setCell ?_ ?_ _); rotate_left; (first | exact Nat.le_refl _ | ((try dsimp only); (try simp only [World.size_alloc, grow_size, World.size_setCell]); omega))))))).mono ?_; rintro e w1 ⟨rfl, rfl⟩) | (go_at_call 11; refine (class_ _ _ (Tab.ext HT.out (by repeat (first | (with_reducible exact Ext.refl _) | (with_reducible refine Ext.undrew ?_) | (with_reducible refine Ext.grow ?_ _) | (with_reducible refine Ext.drew ?_) | (with_reducible refine Ext.drewN ?_ _) | (with_reducible refine Ext.alloc ?_ _) | (with_reducible assumption) | ((with_reducible refine Ext.setCell ?_ ?_ _); rotate_left; (first | exact Nat.le_refl _ | ((try dsimp only); (try simp only [World.size_alloc, grow_size, World.size_setCell]); omega))))))).mono ?_; rintro e w1 ⟨rfl, rfl⟩) | (go_at_call 14; refine (sizes_ _ (Tab.ext HT.out (by repeat (first | (with_reducible exact Ext.refl _) | (with_reducible refine Ext.undrew ?_) | (with_reducible refine Ext.grow ?_ _) | (with_reducible refine Ext.drew ?_) | (with_reducible refine Ext.drewN ?_ _) | (with_reducible refine Ext.alloc ?_ _) | (with_reducible assumption) | ((with_reducible refine Ext.setCell ?_ ?_ _); rotate_left; (first | exact Nat.le_refl _ | ((try dsimp only); (try simp only [World.size_alloc, grow_size, World.size_setCell]); omega))))))).mono ?_; rintro e w1 ⟨rfl, rfl⟩))
    refine wp_loop_rounds 15 ?_
    rw [rounds_succ]
    go_wp2
    rw [rounds_succ]
    go_wp2
    rw [rounds_succ]
    go_wp2
    rw [rounds_succ]
    go_wp2
    rw [rounds_succ]
    go_wp2
    rw [rounds_succ]
    go_wp2
    rw [rounds_succ]
    go_wp2
    rw [rounds_succ]
    go_wp2
    rw [rounds_succ]
    go_wp2
    rw [rounds_succ]
    go_wp2
    rw [rounds_succ]
    go_wp2
    rw [rounds_succ]
    go_wp2
    rw [rounds_succ]
    go_wp2
    rw [rounds_succ]
    go_wp2
    rw [rounds_succ]
    go_wp2
    all_goals go_ret
    all_goals exact ⟨rfl, (by repeat (first | (with_reducible exact Ext.refl _) | (with_reducible refine Ext.undrew ?_) | (with_reducible refine Ext.grow ?_ _) | (with_reducible refine Ext.drew ?_) | (with_reducible refine Ext.drewN ?_ _) | (with_reducible refine Ext.alloc ?_ _) | (with_reducible assumption) | ((with_reducible refine Ext.setCell ?_ ?_ _); rotate_left; (first | exact Nat.le_refl _ | ((try dsimp only); (try simp only [World.size_alloc, grow_size, World.size_setCell]); omega)))))⟩
end sizeLeast

end Go.Proofs.YtgnkcinmpinknaaDoor
