/- The walk of the law AluMod. -/
import Derived.Test.YtemeckdjkjnieaaAluM
namespace Go.Proofs.Ytemeckdjkjnieaa
set_option linter.unusedSimpArgs false
set_option linter.unusedVariables false
open Go.RowKit

namespace aluMod
set_option maxRecDepth 100000 in
set_option maxHeartbeats 8000000 in
theorem walk (a0 : Int) (a1 : Int) (a2 : Int) (a3 : Int) (a4 : Int) (w : World) (w0 : (Lit.int .u8 a0).wf = true) (w1 : (Lit.int .i32 a1).wf = true) (w2 : (Lit.int .i32 a2).wf = true) (w3 : (Lit.int .i8 a3).wf = true) (w4 : (Lit.int .i8 a4).wf = true) :
    Calls Try.prog 6 #[.int .u8 a0, .int .i32 a1, .int .i32 a2, .int .i8 a3, .int .i8 a4] w fun e w' => e = .returned (.bool true) ∧ Ext w w' := by
  obtain ⟨a0l, a0h⟩ := wfu8 w0
  obtain ⟨a1l, a1h⟩ := wfi32 w1
  obtain ⟨a2l, a2h⟩ := wfi32 w2
  obtain ⟨a3l, a3h⟩ := wfi8 w3
  obtain ⟨a4l, a4h⟩ := wfi8 w4
  clear w0 w1 w2 w3 w4
  obtain ⟨k, hk⟩ : ∃ k, k = a0 % 32 := ⟨_, rfl⟩
  have hm1 : m32 (a1 + a3 * 4294967296) = m32 a1 := by unfold m32; omega
  have hm2 : m32 (a2 + a4 * 4294967296) = m32 a2 := by unfold m32; omega
  have e1 : doV (a0 % 32) (a1 + a3 * 4294967296) (a2 + a4 * 4294967296) = doV (a0 % 32) a1 a2 := by unfold doV; rw [hm1, hm2]
  have e2 : doE (a0 % 32) (a2 + a4 * 4294967296) = doE (a0 % 32) a2 := by unfold doE; rw [hm2]
  have hbd := doV_bd (a0 % 32) a1 a2
  have hki : 0 ≤ a0 % 32 ∧ a0 % 32 ≤ 31 := by omega
  have e3 : (doE (a0 % 32) a2 != 151) = isB (a0 % 32) := by
    unfold doE isB
    by_cases h : 3 ≤ a0 % 32 ∧ a0 % 32 ≤ 8
    · rw [if_pos h]
      split <;> simp [h]
    · rw [if_neg h, if_neg (by omega)]
      simp [h]
  clear hm1 hm2 hk
  go_enter Try.func6, Try.ntmps6
  go_wp2_with (first | (go_at_call 9; refine (head _).mono ?_; rintro e w1 ⟨rfl, hy⟩; obtain ⟨d, rfl⟩ := hy.grown; clear hy) | (go_at_call 10; refine (do_ _ _ _ _).mono ?_; rintro e w1 ⟨rfl, hy⟩; obtain ⟨d, rfl⟩ := hy.grown; clear hy) | (go_at_call 12; refine (is_ _ _).mono ?_; rintro e w1 ⟨rfl, hy⟩; obtain ⟨d, rfl⟩ := hy.grown; clear hy))
  all_goals go_ret
  all_goals exact ⟨rfl, (by repeat (first | (with_reducible exact Ext.refl _) | (with_reducible refine Ext.undrew ?_) | (with_reducible refine Ext.grow ?_ _) | (with_reducible refine Ext.drew ?_) | (with_reducible refine Ext.drewN ?_ _) | (with_reducible refine Ext.alloc ?_ _) | (with_reducible assumption) | ((with_reducible refine Ext.setCell ?_ ?_ _); rotate_left; (first | exact Nat.le_refl _ | ((try dsimp only); (try simp only [World.size_alloc, grow_size, World.size_setCell]); omega)))))⟩
end aluMod

end Go.Proofs.Ytemeckdjkjnieaa
