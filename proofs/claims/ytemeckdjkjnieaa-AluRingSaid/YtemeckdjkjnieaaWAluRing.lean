/- The walk of the law AluRing. -/
import Derived.Test.YtemeckdjkjnieaaAluM
namespace Go.Proofs.Ytemeckdjkjnieaa
set_option linter.unusedSimpArgs false
set_option linter.unusedVariables false
open Go.RowKit

namespace aluRing
set_option maxRecDepth 100000 in
set_option maxHeartbeats 8000000 in
theorem walk (a0 : Int) (a1 : Int) (a2 : Int) (w : World) (w0 : (Lit.int .u32 a0).wf = true) (w1 : (Lit.int .u32 a1).wf = true) (w2 : (Lit.int .u32 a2).wf = true) :
    Calls Try.prog 4 #[.int .u32 a0, .int .u32 a1, .int .u32 a2] w fun e w' => e = .returned (.bool true) ∧ Ext w w' := by
  obtain ⟨a0l, a0h⟩ := wfu32 w0
  obtain ⟨a1l, a1h⟩ := wfu32 w1
  obtain ⟨a2l, a2h⟩ := wfu32 w2
  clear w0 w1 w2
  have d1 := doV_bd 3 a0 a1
  have d2 := doV_bd 3 a1 a2
  have d3 := doV_bd 5 a0 a1
  have d4 := doV_bd 5 a0 a2
  have f0 : (doV 3 a0 a1 == doV 3 a1 a0) = true := by
    simp only [doV_add, beq_iff_eq]; rw [Int.add_comm]
  have f1 : (doV 3 (doV 3 a0 a1) a2 == doV 3 a0 (doV 3 a1 a2)) = true := by
    simp only [doV_add, beq_iff_eq]; omega
  have f2 : (doV 5 a0 a1 == doV 5 a1 a0) = true := by
    simp only [doV_mul, beq_iff_eq]; rw [Int.mul_comm]
  have f3 : (doV 5 a0 (doV 3 a1 a2) == doV 3 (doV 5 a0 a1) (doV 5 a0 a2)) = true := by
    simp only [doV_mul, doV_add, beq_iff_eq]
    rw [← Int.add_emod, ← Int.mul_add, Int.mul_emod, Int.emod_emod_of_dvd _ (Int.dvd_refl _), ← Int.mul_emod]
  have f4 : (doV 4 (doV 3 a0 a1) a1 == a0) = true := by
    simp only [doV_sub, doV_add, beq_iff_eq]; omega
  have f5 : (doV 5 a0 1 == a0) = true := by
    simp only [doV_mul, beq_iff_eq]; omega
  go_enter Try.func4, Try.ntmps4
  go_wp2_with (first | (go_at_call 9; refine (head _).mono ?_; rintro e w1 ⟨rfl, hy⟩; obtain ⟨d, rfl⟩ := hy.grown; clear hy) | (go_at_call 18; refine (ldo _ _ _ _ (by omega) (by omega) (by omega) (by omega)).mono ?_; rintro e w1 ⟨rfl, hy⟩; obtain ⟨d, rfl⟩ := hy.grown; clear hy))
  all_goals go_ret
  all_goals exact ⟨rfl, (by repeat (first | (with_reducible exact Ext.refl _) | (with_reducible refine Ext.undrew ?_) | (with_reducible refine Ext.grow ?_ _) | (with_reducible refine Ext.drew ?_) | (with_reducible refine Ext.drewN ?_ _) | (with_reducible refine Ext.alloc ?_ _) | (with_reducible assumption) | ((with_reducible refine Ext.setCell ?_ ?_ _); rotate_left; (first | exact Nat.le_refl _ | ((try dsimp only); (try simp only [World.size_alloc, grow_size, World.size_setCell]); omega)))))⟩
end aluRing

end Go.Proofs.Ytemeckdjkjnieaa
