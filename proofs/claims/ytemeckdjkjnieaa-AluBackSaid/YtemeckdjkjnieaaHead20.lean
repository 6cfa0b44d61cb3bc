/- Layer 20: the live question of the laws. -/
import Derived.Test.YtemeckdjkjnieaaAluC
import Derived.Test.YtemeckdjkjnieaaAluD
namespace Go.Proofs.Ytemeckdjkjnieaa
set_option linter.unusedSimpArgs false
set_option linter.unusedVariables false
open Go.RowKit


set_option maxRecDepth 100000 in
set_option maxHeartbeats 4000000 in
theorem head (w : World) : Calls Try.prog 9 #[] w fun e w' => e = .returned (.bool true) ∧ Ext w w' := by
  have e0 : doV 4 0 1 = 4294967295 := by decide
  have e1 : doE 4 1 = 0 := by decide
  have e2 : doV 5 65537 65537 = 131073 := by decide
  have e3 : doE 5 65537 = 0 := by decide
  have e4 : doE 6 4294967296 = 201 := by decide
  have e5 : doV 7 (-1) 1 = 0 := by decide
  have e6 : doE 7 1 = 0 := by decide
  have e7 : doE 9 1 = 151 := by decide
  have e10 : isB 8 = true := by decide
  have e12 : strOf [0, 1, 2] = ⟨#[0, 1, 2]⟩ := by rfl
  have E12 := hid e12
  clear e12
  have e11 : isB 17 = false := by decide
  go_enter Try.func9, Try.ntmps9
  go_wp2_with (first | (go_at_call 10; refine (do_ _ _ _ _).mono ?_; rintro e w1 ⟨rfl, hy⟩; obtain ⟨d, rfl⟩ := hy.grown; clear hy) | (go_at_call 12; refine (is_ _ _).mono ?_; rintro e w1 ⟨rfl, hy⟩; obtain ⟨d, rfl⟩ := hy.grown; clear hy) | (go_at_call 14; refine (bytes3 _ _ (by omega) (by omega)).mono ?_; rintro e w1 ⟨rfl, rfl⟩) | (go_at_call 14; refine (bytes0 _ _ _ (by omega)).mono ?_; rintro e w1 ⟨rfl, rfl⟩) | (go_at_call 16; refine (number_head _ _ _ (by omega) (by omega) (by simp [go_sem])).mono ?_; rintro e w1 ⟨rfl, rfl⟩))
  rw [str_new3 _ _ _ _ _ _ (by simp only [grow_size])]
  rw [E12.out]
  go_wp2_with (first | (go_at_call 12; refine (is_ _ _).mono ?_; rintro e w1 ⟨rfl, hy⟩; obtain ⟨d, rfl⟩ := hy.grown; clear hy) | (go_at_call 14; refine (bytes0 _ _ _ (by omega)).mono ?_; rintro e w1 ⟨rfl, rfl⟩) | (go_at_call 16; refine (number_head _ _ _ (by omega) (by omega) (by simp [go_sem])).mono ?_; rintro e w1 ⟨rfl, rfl⟩))
  all_goals go_ret
  all_goals exact ⟨rfl, (by repeat (first | (with_reducible exact Ext.refl _) | (with_reducible refine Ext.undrew ?_) | (with_reducible refine Ext.grow ?_ _) | (with_reducible refine Ext.drew ?_) | (with_reducible refine Ext.drewN ?_ _) | (with_reducible refine Ext.alloc ?_ _) | (with_reducible assumption) | ((with_reducible refine Ext.setCell ?_ ?_ _); rotate_left; (first | exact Nat.le_refl _ | ((try dsimp only); (try simp only [World.size_alloc, grow_size, World.size_setCell]); omega)))))⟩

end Go.Proofs.Ytemeckdjkjnieaa
