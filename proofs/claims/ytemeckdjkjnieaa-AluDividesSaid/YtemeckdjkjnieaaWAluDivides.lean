/- The walk of the law AluDivides. -/
import Derived.Test.YtemeckdjkjnieaaAluM
namespace Go.Proofs.Ytemeckdjkjnieaa
set_option linter.unusedSimpArgs false
set_option linter.unusedVariables false
open Go.RowKit

namespace aluDivides
set_option maxRecDepth 100000 in
set_option maxHeartbeats 8000000 in
theorem walk (a0 : Int) (a1 : Int) (w : World) (w0 : (Lit.int .u32 a0).wf = true) (w1 : (Lit.int .u32 a1).wf = true) :
    Calls Try.prog 5 #[.int .u32 a0, .int .u32 a1] w fun e w' => e = .returned (.bool true) ∧ Ext w w' := by
  obtain ⟨a0l, a0h⟩ := wfu32 w0
  obtain ⟨a1l, a1h⟩ := wfu32 w1
  clear w0 w1
  by_cases hb : a1 = 0
  · subst hb
    have e1 : doV 6 a0 0 = 0 := by simp [doV, m32]
    have e2 : doE 6 0 = 201 := by decide
    go_enter Try.func5, Try.ntmps5
    go_wp2_with (first | (go_at_call 9; refine (head _).mono ?_; rintro e w1 ⟨rfl, hy⟩; obtain ⟨d, rfl⟩ := hy.grown; clear hy) | (go_at_call 10; refine (do_ _ _ _ _).mono ?_; rintro e w1 ⟨rfl, hy⟩; obtain ⟨d, rfl⟩ := hy.grown; clear hy))
    all_goals go_ret
    all_goals exact ⟨rfl, (by repeat (first | (with_reducible exact Ext.refl _) | (with_reducible refine Ext.undrew ?_) | (with_reducible refine Ext.grow ?_ _) | (with_reducible refine Ext.drew ?_) | (with_reducible refine Ext.drewN ?_ _) | (with_reducible refine Ext.alloc ?_ _) | (with_reducible assumption) | ((with_reducible refine Ext.setCell ?_ ?_ _); rotate_left; (first | exact Nat.le_refl _ | ((try dsimp only); (try simp only [World.size_alloc, grow_size, World.size_setCell]); omega)))))⟩
  · have hb1 : (a1 == 0) = false := by simpa using hb
    have e1 := doV_div a0l a0h (show 0 < a1 by omega) a1h
    have e2 : doE 6 a1 = 0 := by
      have : ¬ m32 a1 = 0 := by rw [m32_of a1l a1h]; exact hb
      simp [doE, this]
    have e3 := doV_lt a0l a0h a1l a1h
    have e4 := doV_eq a0l a0h a1l a1h
    have q0 := ediv_bd a0l a0h a1l
    have hq := Int.emod_add_mul_ediv a0 a1
    have hr0 := Int.emod_nonneg a0 hb
    have hr1 := Int.emod_lt_of_pos a0 (show 0 < a1 by omega)
    have hlt : a0 / a1 = 0 ↔ a0 < a1 := by
      constructor
      · intro h; rw [h] at hq; omega
      · intro h; exact Int.ediv_eq_zero_of_lt a0l h
    obtain ⟨q, hqq⟩ : ∃ q, q = a0 / a1 := ⟨_, rfl⟩
    rw [← hqq] at e1 q0 hq hlt
    have hqa : q * a1 ≤ a0 := by rw [Int.mul_comm]; omega
    have hqb : a0 - q * a1 < a1 := by rw [Int.mul_comm q]; omega
    have hqc : 0 ≤ q * a1 := Int.mul_nonneg q0.1 a1l
    obtain ⟨z, hz⟩ : ∃ z, z = q * a1 := ⟨_, rfl⟩
    have HQ := hid hq
    have HQQ := hid hqq
    rw [← hz] at hqa hqb hqc
    have hz' : q * a1 = z := hz.symm
    clear hq hqq hr0 hr1 hz
    by_cases h : a0 < a1
    · have hq0 := hlt.2 h
      subst hq0
      have hne : (a0 == a1) = false := by simp; omega
      rw [if_pos h] at e3
      rw [if_neg (by omega)] at e4
      clear hlt
      go_enter Try.func5, Try.ntmps5
      go_wp2_with (first | (go_at_call 9; refine (head _).mono ?_; rintro e w1 ⟨rfl, hy⟩; obtain ⟨d, rfl⟩ := hy.grown; clear hy) | (go_at_call 10; refine (do_ _ _ _ _).mono ?_; rintro e w1 ⟨rfl, hy⟩; obtain ⟨d, rfl⟩ := hy.grown; clear hy))
      all_goals go_ret
      all_goals exact ⟨rfl, (by repeat (first | (with_reducible exact Ext.refl _) | (with_reducible refine Ext.undrew ?_) | (with_reducible refine Ext.grow ?_ _) | (with_reducible refine Ext.drew ?_) | (with_reducible refine Ext.drewN ?_ _) | (with_reducible refine Ext.alloc ?_ _) | (with_reducible assumption) | ((with_reducible refine Ext.setCell ?_ ?_ _); rotate_left; (first | exact Nat.le_refl _ | ((try dsimp only); (try simp only [World.size_alloc, grow_size, World.size_setCell]); omega)))))⟩
    · have hq0 : ¬ q = 0 := fun h' => h (hlt.1 h')
      have hq1 : (q == 0) = false := by simpa using hq0
      rw [if_neg h] at e3
      clear hlt
      by_cases hs : a0 = a1
      · rw [if_pos hs] at e4
        have hs1 : (a0 == a1) = true := by simpa using hs
        have HS := hid hs
        clear hs
        go_enter Try.func5, Try.ntmps5
        go_wp2_with (first | (go_at_call 9; refine (head _).mono ?_; rintro e w1 ⟨rfl, hy⟩; obtain ⟨d, rfl⟩ := hy.grown; clear hy) | (go_at_call 10; refine (do_ _ _ _ _).mono ?_; rintro e w1 ⟨rfl, hy⟩; obtain ⟨d, rfl⟩ := hy.grown; clear hy))
        all_goals go_ret
        all_goals exact ⟨rfl, (by repeat (first | (with_reducible exact Ext.refl _) | (with_reducible refine Ext.undrew ?_) | (with_reducible refine Ext.grow ?_ _) | (with_reducible refine Ext.drew ?_) | (with_reducible refine Ext.drewN ?_ _) | (with_reducible refine Ext.alloc ?_ _) | (with_reducible assumption) | ((with_reducible refine Ext.setCell ?_ ?_ _); rotate_left; (first | exact Nat.le_refl _ | ((try dsimp only); (try simp only [World.size_alloc, grow_size, World.size_setCell]); omega)))))⟩
      · rw [if_neg hs] at e4
        have hs1 : (a0 == a1) = false := by simpa using hs
        go_enter Try.func5, Try.ntmps5
        go_wp2_with (first | (go_at_call 9; refine (head _).mono ?_; rintro e w1 ⟨rfl, hy⟩; obtain ⟨d, rfl⟩ := hy.grown; clear hy) | (go_at_call 10; refine (do_ _ _ _ _).mono ?_; rintro e w1 ⟨rfl, hy⟩; obtain ⟨d, rfl⟩ := hy.grown; clear hy))
        all_goals go_ret
        all_goals exact ⟨rfl, (by repeat (first | (with_reducible exact Ext.refl _) | (with_reducible refine Ext.undrew ?_) | (with_reducible refine Ext.grow ?_ _) | (with_reducible refine Ext.drew ?_) | (with_reducible refine Ext.drewN ?_ _) | (with_reducible refine Ext.alloc ?_ _) | (with_reducible assumption) | ((with_reducible refine Ext.setCell ?_ ?_ _); rotate_left; (first | exact Nat.le_refl _ | ((try dsimp only); (try simp only [World.size_alloc, grow_size, World.size_setCell]); omega)))))⟩
end aluDivides

end Go.Proofs.Ytemeckdjkjnieaa
