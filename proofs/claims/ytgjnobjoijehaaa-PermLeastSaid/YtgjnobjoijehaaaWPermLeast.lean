/- The walk of the law PermLeast. -/
import Derived.Test.YtgjnobjoijehaaaHeadA1
import Derived.Test.YtgjnobjoijehaaaOneQ
namespace Go.Proofs.Ytgjnobjoijehaaa
set_option linter.unusedSimpArgs false
set_option linter.unusedVariables false
open Go.RowKit

namespace permLeast
set_option maxRecDepth 100000 in
set_option maxHeartbeats 16000000 in
theorem walk (a0 : Int) (a1 : Int) (a2 : Int) (w : World) (w0 : (Lit.int .u8 a0).wf = true) (w1 : (Lit.int .u8 a1).wf = true) (w2 : (Lit.int .u8 a2).wf = true) :
    Calls Try.prog 6 #[.int .u8 a0, .int .u8 a1, .int .u8 a2] w fun e w' => e = .returned (.bool true) ∧ Ext w w' := by
  obtain ⟨l0, u0⟩ := wfu8 w0
  obtain ⟨a, ha, ea⟩ := and127' l0 u0
  obtain ⟨l1, u1⟩ := wfu8 w1
  obtain ⟨b, hb, eb⟩ := and127' l1 u1
  obtain ⟨l2, u2⟩ := wfu8 w2
  obtain ⟨c, hc, ec⟩ := and127' l2 u2
  clear w0 l0 u0 w1 l1 u1 w2 l2 u2
  have r1 := (has_up ha hb).1
  have r2 := (has_up ha hb).2
  have r3 := has_lor ha hb hc
  have o1 := of_lor' ha hb
  have o2 := of_lor' hb ha
  rw [Nat.or_comm] at o2
  have o3 := of_three_lor ha hb hc
  clear ha hb hc
  generalize (a ||| b) = x at r1 r2 r3 o1 o2 o3
  obtain ⟨y, hy⟩ : ∃ y, ofL [(x : Int), (c : Int)] 0 = y := ⟨_, rfl⟩
  rw [hy] at o3
  cases h1 : hasB (c : Int) (a : Int) <;> cases h2 : hasB (c : Int) (b : Int) <;> rw [h1, h2] at r3
  all_goals simp only [Bool.and_true, Bool.and_false, Bool.true_and, Bool.false_and] at r3
  all_goals (go_enter Try.func6, Try.ntmps6; go_wp2_with (first | (go_at_call 10; refine Calls.mono (head _) ?_; rintro e wh ⟨rfl, hxh⟩; obtain ⟨dh, rfl⟩ := hxh.grown; clear hxh) | (go_at_call 15; refine (has _ _ _).mono ?_; rintro e w' ⟨rfl, rfl⟩) | (go_at_call 21; (with_reducible refine (of_pair _ _ _ _ (by simp only [World.size_alloc, grow_size])).mono ?_); rintro e w' ⟨rfl, rfl⟩) | (go_at_call 21; (with_reducible refine (of_three _ _ _ _ _ (by simp only [World.size_alloc, grow_size])).mono ?_); rintro e w' ⟨rfl, rfl⟩)))
  all_goals go_ret
  all_goals exact ⟨by simp, (by repeat (first | (with_reducible exact Ext.refl _) | (with_reducible refine Ext.undrew ?_) | (with_reducible refine Ext.grow ?_ _) | (with_reducible refine Ext.drew ?_) | (with_reducible refine Ext.drewN ?_ _) | (with_reducible refine Ext.alloc ?_ _) | (with_reducible assumption) | ((with_reducible refine Ext.setCell ?_ ?_ _); rotate_left; (first | exact Nat.le_refl _ | ((try dsimp only); (try simp only [World.size_alloc, grow_size, World.size_setCell]); omega)))))⟩
end permLeast

end Go.Proofs.Ytgjnobjoijehaaa
