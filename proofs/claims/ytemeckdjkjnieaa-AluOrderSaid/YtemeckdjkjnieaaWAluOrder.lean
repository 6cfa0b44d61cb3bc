/- The walk of the law AluOrder. -/
import Derived.Test.YtemeckdjkjnieaaAluM
namespace Go.Proofs.Ytemeckdjkjnieaa
set_option linter.unusedSimpArgs false
set_option linter.unusedVariables false
open Go.RowKit

namespace aluOrder
set_option maxRecDepth 100000 in
set_option maxHeartbeats 8000000 in
theorem walk (a0 : Int) (a1 : Int) (a2 : Int) (w : World) (w0 : (Lit.int .u32 a0).wf = true) (w1 : (Lit.int .u32 a1).wf = true) (w2 : (Lit.int .u32 a2).wf = true) :
    Calls Try.prog 8 #[.int .u32 a0, .int .u32 a1, .int .u32 a2] w fun e w' => e = .returned (.bool true) ∧ Ext w w' := by
  obtain ⟨a0l, a0h⟩ := wfu32 w0
  obtain ⟨a1l, a1h⟩ := wfu32 w1
  obtain ⟨a2l, a2h⟩ := wfu32 w2
  clear w0 w1 w2
  have e1 := doV_lt a0l a0h a1l a1h
  have e2 := doV_lt a1l a1h a0l a0h
  have e3 := doV_eq a0l a0h a1l a1h
  have e4 := doV_lt a1l a1h a2l a2h
  have e5 := doV_lt a0l a0h a2l a2h
  rcases Int.lt_trichotomy a0 a1 with h | h | h
  · skip
    rw [if_pos h] at e1
    rw [if_neg (by omega)] at e2
    rw [if_neg (by omega)] at e3
    have hd : decide (a0 < a1) = true := by simp <;> omega
    by_cases h2 : a1 < a2
    · rw [if_pos h2] at e4
      by_cases h3 : a0 < a2
      · rw [if_pos h3] at e5
        go_enter Try.func8, Try.ntmps8
        go_wp2_with (first | (go_at_call 9; refine (head _).mono ?_; rintro e w1 ⟨rfl, hy⟩; obtain ⟨d, rfl⟩ := hy.grown; clear hy) | (go_at_call 18; refine (ldo _ _ _ _ (by omega) (by omega) (by omega) (by omega)).mono ?_; rintro e w1 ⟨rfl, hy⟩; obtain ⟨d, rfl⟩ := hy.grown; clear hy))
        all_goals go_ret
        all_goals exact ⟨rfl, (by repeat (first | (with_reducible exact Ext.refl _) | (with_reducible refine Ext.undrew ?_) | (with_reducible refine Ext.grow ?_ _) | (with_reducible refine Ext.drew ?_) | (with_reducible refine Ext.drewN ?_ _) | (with_reducible refine Ext.alloc ?_ _) | (with_reducible assumption) | ((with_reducible refine Ext.setCell ?_ ?_ _); rotate_left; (first | exact Nat.le_refl _ | ((try dsimp only); (try simp only [World.size_alloc, grow_size, World.size_setCell]); omega)))))⟩
      · rw [if_neg h3] at e5
        exfalso; omega
    · rw [if_neg h2] at e4
      go_enter Try.func8, Try.ntmps8
      go_wp2_with (first | (go_at_call 9; refine (head _).mono ?_; rintro e w1 ⟨rfl, hy⟩; obtain ⟨d, rfl⟩ := hy.grown; clear hy) | (go_at_call 18; refine (ldo _ _ _ _ (by omega) (by omega) (by omega) (by omega)).mono ?_; rintro e w1 ⟨rfl, hy⟩; obtain ⟨d, rfl⟩ := hy.grown; clear hy))
      all_goals go_ret
      all_goals exact ⟨rfl, (by repeat (first | (with_reducible exact Ext.refl _) | (with_reducible refine Ext.undrew ?_) | (with_reducible refine Ext.grow ?_ _) | (with_reducible refine Ext.drew ?_) | (with_reducible refine Ext.drewN ?_ _) | (with_reducible refine Ext.alloc ?_ _) | (with_reducible assumption) | ((with_reducible refine Ext.setCell ?_ ?_ _); rotate_left; (first | exact Nat.le_refl _ | ((try dsimp only); (try simp only [World.size_alloc, grow_size, World.size_setCell]); omega)))))⟩
  · subst h
    rw [if_neg (by omega)] at e1
    rw [if_neg (by omega)] at e2
    rw [if_pos rfl] at e3
    have hd : decide (a0 < a0) = false := by simp <;> omega
    by_cases h2 : a0 < a2
    · rw [if_pos h2] at e4
      by_cases h3 : a0 < a2
      · rw [if_pos h3] at e5
        go_enter Try.func8, Try.ntmps8
        go_wp2_with (first | (go_at_call 9; refine (head _).mono ?_; rintro e w1 ⟨rfl, hy⟩; obtain ⟨d, rfl⟩ := hy.grown; clear hy) | (go_at_call 18; refine (ldo _ _ _ _ (by omega) (by omega) (by omega) (by omega)).mono ?_; rintro e w1 ⟨rfl, hy⟩; obtain ⟨d, rfl⟩ := hy.grown; clear hy))
        all_goals go_ret
        all_goals exact ⟨rfl, (by repeat (first | (with_reducible exact Ext.refl _) | (with_reducible refine Ext.undrew ?_) | (with_reducible refine Ext.grow ?_ _) | (with_reducible refine Ext.drew ?_) | (with_reducible refine Ext.drewN ?_ _) | (with_reducible refine Ext.alloc ?_ _) | (with_reducible assumption) | ((with_reducible refine Ext.setCell ?_ ?_ _); rotate_left; (first | exact Nat.le_refl _ | ((try dsimp only); (try simp only [World.size_alloc, grow_size, World.size_setCell]); omega)))))⟩
      · rw [if_neg h3] at e5
        go_enter Try.func8, Try.ntmps8
        go_wp2_with (first | (go_at_call 9; refine (head _).mono ?_; rintro e w1 ⟨rfl, hy⟩; obtain ⟨d, rfl⟩ := hy.grown; clear hy) | (go_at_call 18; refine (ldo _ _ _ _ (by omega) (by omega) (by omega) (by omega)).mono ?_; rintro e w1 ⟨rfl, hy⟩; obtain ⟨d, rfl⟩ := hy.grown; clear hy))
        all_goals go_ret
        all_goals exact ⟨rfl, (by repeat (first | (with_reducible exact Ext.refl _) | (with_reducible refine Ext.undrew ?_) | (with_reducible refine Ext.grow ?_ _) | (with_reducible refine Ext.drew ?_) | (with_reducible refine Ext.drewN ?_ _) | (with_reducible refine Ext.alloc ?_ _) | (with_reducible assumption) | ((with_reducible refine Ext.setCell ?_ ?_ _); rotate_left; (first | exact Nat.le_refl _ | ((try dsimp only); (try simp only [World.size_alloc, grow_size, World.size_setCell]); omega)))))⟩
    · rw [if_neg h2] at e4
      go_enter Try.func8, Try.ntmps8
      go_wp2_with (first | (go_at_call 9; refine (head _).mono ?_; rintro e w1 ⟨rfl, hy⟩; obtain ⟨d, rfl⟩ := hy.grown; clear hy) | (go_at_call 18; refine (ldo _ _ _ _ (by omega) (by omega) (by omega) (by omega)).mono ?_; rintro e w1 ⟨rfl, hy⟩; obtain ⟨d, rfl⟩ := hy.grown; clear hy))
      all_goals go_ret
      all_goals exact ⟨rfl, (by repeat (first | (with_reducible exact Ext.refl _) | (with_reducible refine Ext.undrew ?_) | (with_reducible refine Ext.grow ?_ _) | (with_reducible refine Ext.drew ?_) | (with_reducible refine Ext.drewN ?_ _) | (with_reducible refine Ext.alloc ?_ _) | (with_reducible assumption) | ((with_reducible refine Ext.setCell ?_ ?_ _); rotate_left; (first | exact Nat.le_refl _ | ((try dsimp only); (try simp only [World.size_alloc, grow_size, World.size_setCell]); omega)))))⟩
  · skip
    rw [if_neg (by omega)] at e1
    rw [if_pos h] at e2
    rw [if_neg (by omega)] at e3
    have hd : decide (a0 < a1) = false := by simp <;> omega
    by_cases h2 : a1 < a2
    · rw [if_pos h2] at e4
      by_cases h3 : a0 < a2
      · rw [if_pos h3] at e5
        go_enter Try.func8, Try.ntmps8
        go_wp2_with (first | (go_at_call 9; refine (head _).mono ?_; rintro e w1 ⟨rfl, hy⟩; obtain ⟨d, rfl⟩ := hy.grown; clear hy) | (go_at_call 18; refine (ldo _ _ _ _ (by omega) (by omega) (by omega) (by omega)).mono ?_; rintro e w1 ⟨rfl, hy⟩; obtain ⟨d, rfl⟩ := hy.grown; clear hy))
        all_goals go_ret
        all_goals exact ⟨rfl, (by repeat (first | (with_reducible exact Ext.refl _) | (with_reducible refine Ext.undrew ?_) | (with_reducible refine Ext.grow ?_ _) | (with_reducible refine Ext.drew ?_) | (with_reducible refine Ext.drewN ?_ _) | (with_reducible refine Ext.alloc ?_ _) | (with_reducible assumption) | ((with_reducible refine Ext.setCell ?_ ?_ _); rotate_left; (first | exact Nat.le_refl _ | ((try dsimp only); (try simp only [World.size_alloc, grow_size, World.size_setCell]); omega)))))⟩
      · rw [if_neg h3] at e5
        go_enter Try.func8, Try.ntmps8
        go_wp2_with (first | (go_at_call 9; refine (head _).mono ?_; rintro e w1 ⟨rfl, hy⟩; obtain ⟨d, rfl⟩ := hy.grown; clear hy) | (go_at_call 18; refine (ldo _ _ _ _ (by omega) (by omega) (by omega) (by omega)).mono ?_; rintro e w1 ⟨rfl, hy⟩; obtain ⟨d, rfl⟩ := hy.grown; clear hy))
        all_goals go_ret
        all_goals exact ⟨rfl, (by repeat (first | (with_reducible exact Ext.refl _) | (with_reducible refine Ext.undrew ?_) | (with_reducible refine Ext.grow ?_ _) | (with_reducible refine Ext.drew ?_) | (with_reducible refine Ext.drewN ?_ _) | (with_reducible refine Ext.alloc ?_ _) | (with_reducible assumption) | ((with_reducible refine Ext.setCell ?_ ?_ _); rotate_left; (first | exact Nat.le_refl _ | ((try dsimp only); (try simp only [World.size_alloc, grow_size, World.size_setCell]); omega)))))⟩
    · rw [if_neg h2] at e4
      go_enter Try.func8, Try.ntmps8
      go_wp2_with (first | (go_at_call 9; refine (head _).mono ?_; rintro e w1 ⟨rfl, hy⟩; obtain ⟨d, rfl⟩ := hy.grown; clear hy) | (go_at_call 18; refine (ldo _ _ _ _ (by omega) (by omega) (by omega) (by omega)).mono ?_; rintro e w1 ⟨rfl, hy⟩; obtain ⟨d, rfl⟩ := hy.grown; clear hy))
      all_goals go_ret
      all_goals exact ⟨rfl, (by repeat (first | (with_reducible exact Ext.refl _) | (with_reducible refine Ext.undrew ?_) | (with_reducible refine Ext.grow ?_ _) | (with_reducible refine Ext.drew ?_) | (with_reducible refine Ext.drewN ?_ _) | (with_reducible refine Ext.alloc ?_ _) | (with_reducible assumption) | ((with_reducible refine Ext.setCell ?_ ?_ _); rotate_left; (first | exact Nat.le_refl _ | ((try dsimp only); (try simp only [World.size_alloc, grow_size, World.size_setCell]); omega)))))⟩
end aluOrder

end Go.Proofs.Ytemeckdjkjnieaa
