/- The walk of the law EpochWhen. -/
import Derived.Test.YtgckgljffooodaaHead09
namespace Go.Proofs.Ytgckgljffooodaa
set_option linter.unusedSimpArgs false
set_option linter.unusedVariables false
open Go.RowKit

namespace epochWhen
set_option maxRecDepth 100000 in
set_option maxHeartbeats 8000000 in
theorem walk (a0 : Int) (a1 : Int) (w : World) (w0 : (Lit.int .u32 a0).wf = true) (w1 : (Lit.int .u32 a1).wf = true) :
    Calls Try.prog 6 #[.int .u32 a0, .int .u32 a1] w fun e w' => e = .returned (.bool true) ∧ Ext w w' := by
  obtain ⟨a0l, a0h⟩ := wfu32 w0
  obtain ⟨a1l, a1h⟩ := wfu32 w1
  clear w0 w1
  have e0 : whenT a0 = a0 + 2 + a0 % 2 := by unfold whenT; rw [clampT_of (by omega) (by omega)]
  have e1 : whenT a1 = a1 + 2 + a1 % 2 := by unfold whenT; rw [clampT_of (by omega) (by omega)]
  have E0 := hid e0
  have E1 := hid e1
  have b0 := whenT_bd a0
  have b1 := whenT_bd a1
  have f1 : (whenT a0 % 2 == 0) = true := by rw [e0]; simp; omega
  have f2 : decide (a0 + 2 ≤ whenT a0) = true := by rw [e0]; simp; omega
  have f3 : decide (whenT a0 ≤ a0 + 3) = true := by rw [e0]; simp; omega
  have f4 : ¬ a1 < a0 → decide (whenT a0 ≤ whenT a1) = true := by intro h; rw [e0, e1]; simp; omega
  clear e0 e1
  by_cases hlt : a1 < a0
  · go_enter Try.func6, Try.ntmps6
    go_wp2_with (first | (go_at_call 8; refine (head _).mono ?_; rintro e w1 ⟨rfl, hy⟩; obtain ⟨d, rfl⟩ := hy.grown; clear hy) | (go_at_call 21; refine (when_ _ _ (by omega) (by omega)).mono ?_; rintro e w1 ⟨rfl, rfl⟩))
    all_goals go_ret
    all_goals exact ⟨rfl, (by repeat (first | (with_reducible exact Ext.refl _) | (with_reducible refine Ext.undrew ?_) | (with_reducible refine Ext.grow ?_ _) | (with_reducible refine Ext.drew ?_) | (with_reducible refine Ext.drewN ?_ _) | (with_reducible refine Ext.alloc ?_ _) | (with_reducible assumption) | ((with_reducible refine Ext.setCell ?_ ?_ _); rotate_left; (first | exact Nat.le_refl _ | ((try dsimp only); (try simp only [World.size_alloc, grow_size, World.size_setCell]); omega)))))⟩
  · have f5 := f4 hlt
    go_enter Try.func6, Try.ntmps6
    go_wp2_with (first | (go_at_call 8; refine (head _).mono ?_; rintro e w1 ⟨rfl, hy⟩; obtain ⟨d, rfl⟩ := hy.grown; clear hy) | (go_at_call 21; refine (when_ _ _ (by omega) (by omega)).mono ?_; rintro e w1 ⟨rfl, rfl⟩))
    all_goals go_ret
    all_goals exact ⟨rfl, (by repeat (first | (with_reducible exact Ext.refl _) | (with_reducible refine Ext.undrew ?_) | (with_reducible refine Ext.grow ?_ _) | (with_reducible refine Ext.drew ?_) | (with_reducible refine Ext.drewN ?_ _) | (with_reducible refine Ext.alloc ?_ _) | (with_reducible assumption) | ((with_reducible refine Ext.setCell ?_ ?_ _); rotate_left; (first | exact Nat.le_refl _ | ((try dsimp only); (try simp only [World.size_alloc, grow_size, World.size_setCell]); omega)))))⟩
end epochWhen

end Go.Proofs.Ytgckgljffooodaa
