/- Layer 4: the live question of the laws. -/
import Derived.Test.YtnakimlicedogaaDer
namespace Go.Proofs.Ytnakimlicedogaa
set_option linter.unusedSimpArgs false
set_option linter.unusedVariables false
open Go.RowKit

set_option maxRecDepth 100000 in
set_option maxHeartbeats 8000000 in
theorem head (w : World) : Calls Try.prog 10 #[] w fun e w' => e = .returned (.bool true) ∧ Ext w w' := by
  have e0 : boundsC ⟨true, 16, 48, 20, 7, 0⟩ 28 = ⟨true, 20, 48, 20, 7, 0⟩ := by decide +kernel
  have e1 : boundsE ⟨true, 16, 48, 20, 7, 0⟩ 28 = 0 := by decide +kernel
  have e2 : boundsE ⟨true, 16, 48, 20, 7, 0⟩ 29 = 43 := by decide +kernel
  have e3 : boundsC ⟨true, 16, 48, 20, 7, 0⟩ 29 = ⟨false, 0, 0, 0, 0, 0⟩ := by decide +kernel
  have e4 : permsC ⟨true, 16, 48, 20, 7, 0⟩ 1 = ⟨true, 16, 48, 20, 1, 0⟩ := by decide +kernel
  have e5 : permsE ⟨true, 16, 48, 20, 7, 0⟩ 1 = 0 := by decide +kernel
  have e6 : moveC ⟨true, 16, 48, 20, 7, 0⟩ (-1) = ⟨true, 16, 48, 4294967295, 7, 0⟩ := by decide +kernel
  have e7 : moveE ⟨true, 16, 48, 20, 7, 0⟩ = 0 := by decide +kernel
  have e8 : sealC ⟨true, 16, 48, 20, 7, 0⟩ ⟨true, 0, 256, 9, 96, 0⟩ = ⟨true, 16, 48, 20, 7, 9⟩ := by decide +kernel
  have e9 : sealE ⟨true, 16, 48, 20, 7, 0⟩ ⟨true, 0, 256, 9, 96, 0⟩ = 0 := by decide +kernel
  have e10 : unsealC ⟨true, 16, 48, 20, 7, 9⟩ ⟨true, 0, 256, 9, 96, 0⟩ = ⟨true, 16, 48, 20, 7, 0⟩ := by decide +kernel
  have e11 : unsealE ⟨true, 16, 48, 20, 7, 9⟩ ⟨true, 0, 256, 9, 96, 0⟩ = 0 := by decide +kernel
  have e12 : boundsE ⟨true, 16, 48, 20, 7, 9⟩ 1 = 42 := by decide +kernel
  have e13 : boundsC ⟨true, 16, 48, 20, 7, 9⟩ 1 = ⟨false, 0, 0, 0, 0, 0⟩ := by decide +kernel
  have e14 : enterC ⟨true, 16, 48, 20, 7, 0⟩ = ⟨true, 16, 48, 20, 7, 1⟩ := by decide +kernel
  have e15 : enterE ⟨true, 16, 48, 20, 7, 0⟩ = 0 := by decide +kernel
  have e16 : clearC ⟨true, 20, 48, 20, 7, 0⟩ = ⟨false, 20, 48, 20, 7, 0⟩ := by decide +kernel
  have e17 : buildC ⟨false, 20, 48, 20, 7, 0⟩ ⟨true, 16, 48, 20, 7, 0⟩ = ⟨true, 20, 48, 20, 7, 0⟩ := by decide +kernel
  have e18 : buildE ⟨false, 20, 48, 20, 7, 0⟩ ⟨true, 16, 48, 20, 7, 0⟩ = 0 := by decide +kernel
  go_enter Try.func10, Try.ntmps10
  go_wp2_with (first | (go_at_call 11; refine (bounds_ _ _ _ _ _ _ _ _).mono ?_; rintro e w1 ⟨rfl, hy⟩; obtain ⟨d, rfl⟩ := hy.grown; clear hy) | (go_at_call 13; refine (perms_ _ _ _ _ _ _ _ _).mono ?_; rintro e w1 ⟨rfl, hy⟩; obtain ⟨d, rfl⟩ := hy.grown; clear hy) | (go_at_call 15; refine (move_ _ _ _ _ _ _ _ _).mono ?_; rintro e w1 ⟨rfl, hy⟩; obtain ⟨d, rfl⟩ := hy.grown; clear hy) | (go_at_call 17; refine (clear_ _ _ _ _ _ _ _).mono ?_; rintro e w1 ⟨rfl, hy⟩; obtain ⟨d, rfl⟩ := hy.grown; clear hy) | (go_at_call 19; refine (seal_ _ _ _ _ _ _ _ _ _ _ _ _ _).mono ?_; rintro e w1 ⟨rfl, hy⟩; obtain ⟨d, rfl⟩ := hy.grown; clear hy) | (go_at_call 21; refine (unseal_ _ _ _ _ _ _ _ _ _ _ _ _ _).mono ?_; rintro e w1 ⟨rfl, hy⟩; obtain ⟨d, rfl⟩ := hy.grown; clear hy) | (go_at_call 23; refine (enter_ _ _ _ _ _ _ _).mono ?_; rintro e w1 ⟨rfl, hy⟩; obtain ⟨d, rfl⟩ := hy.grown; clear hy) | (go_at_call 25; refine (build_ _ _ _ _ _ _ _ _ _ _ _ _ _).mono ?_; rintro e w1 ⟨rfl, hy⟩; obtain ⟨d, rfl⟩ := hy.grown; clear hy))
  refine wp_region_chain (.rd 0 (.rd 2 (.br 1 (.br 3 (.rd 4 (.rd 5 (.rd 6 (.ac 7 (.ac 8 (.rd 9 (.done))))))) 7 (.ac 3 (.rd 4 (.rd 5 (.rd 6 (.ac 8 (.rd 9 (.done)))))))) 7 (.ac 1 (.ac 3 (.rd 4 (.rd 5 (.rd 6 (.ac 8 (.rd 9 (.done))))))))))) (by kernel_rfl) (by kernel_rfl) (fun _ _ d _ _ h => by cases d <;> exact h) (by simp only [Ord.map, nthOp, List.append]; rfl) ?_; (repeat' (first | (refine chain_read (by rfl) (fun K hK => ?_); go_big_quiet_op; refine hK _ ?_; clear hK K) | (refine chain_act (by rfl) (fun K hK => ?_); go_wp2_with (first | (go_at_call 11; refine (bounds_ _ _ _ _ _ _ _ _).mono ?_; rintro e w1 ⟨rfl, hy⟩; obtain ⟨d, rfl⟩ := hy.grown; clear hy) | (go_at_call 13; refine (perms_ _ _ _ _ _ _ _ _).mono ?_; rintro e w1 ⟨rfl, hy⟩; obtain ⟨d, rfl⟩ := hy.grown; clear hy) | (go_at_call 15; refine (move_ _ _ _ _ _ _ _ _).mono ?_; rintro e w1 ⟨rfl, hy⟩; obtain ⟨d, rfl⟩ := hy.grown; clear hy) | (go_at_call 17; refine (clear_ _ _ _ _ _ _ _).mono ?_; rintro e w1 ⟨rfl, hy⟩; obtain ⟨d, rfl⟩ := hy.grown; clear hy) | (go_at_call 19; refine (seal_ _ _ _ _ _ _ _ _ _ _ _ _ _).mono ?_; rintro e w1 ⟨rfl, hy⟩; obtain ⟨d, rfl⟩ := hy.grown; clear hy) | (go_at_call 21; refine (unseal_ _ _ _ _ _ _ _ _ _ _ _ _ _).mono ?_; rintro e w1 ⟨rfl, hy⟩; obtain ⟨d, rfl⟩ := hy.grown; clear hy) | (go_at_call 23; refine (enter_ _ _ _ _ _ _ _).mono ?_; rintro e w1 ⟨rfl, hy⟩; obtain ⟨d, rfl⟩ := hy.grown; clear hy) | (go_at_call 25; refine (build_ _ _ _ _ _ _ _ _ _ _ _ _ _).mono ?_; rintro e w1 ⟨rfl, hy⟩; obtain ⟨d, rfl⟩ := hy.grown; clear hy)); refine ⟨(by repeat (first | (with_reducible exact Ext.refl _) | (with_reducible refine Ext.undrew ?_) | (with_reducible refine Ext.grow ?_ _) | (with_reducible refine Ext.drew ?_) | (with_reducible refine Ext.drewN ?_ _) | (with_reducible refine Ext.alloc ?_ _) | (with_reducible assumption) | ((with_reducible refine Ext.setCell ?_ ?_ _); rotate_left; (first | exact Nat.le_refl _ | (dsimp only; simp only [World.size_alloc, grow_size, World.size_setCell]; omega))))), ?_⟩) | refine chain_br ?_ ?_)); all_goals refine chain_nil ?_
  all_goals go_wp2
  all_goals go_ret
  all_goals exact ⟨rfl, (by repeat (first | (with_reducible exact Ext.refl _) | (with_reducible refine Ext.undrew ?_) | (with_reducible refine Ext.grow ?_ _) | (with_reducible refine Ext.drew ?_) | (with_reducible refine Ext.drewN ?_ _) | (with_reducible refine Ext.alloc ?_ _) | (with_reducible assumption) | ((with_reducible refine Ext.setCell ?_ ?_ _); rotate_left; (first | exact Nat.le_refl _ | (dsimp only; simp only [World.size_alloc, grow_size, World.size_setCell]; omega)))))⟩
end Go.Proofs.Ytnakimlicedogaa
