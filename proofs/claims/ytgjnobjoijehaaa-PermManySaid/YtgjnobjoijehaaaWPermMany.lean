/- The walk of the law PermMany. -/
import Derived.Test.YtgjnobjoijehaaaHeadA1
import Derived.Test.YtgjnobjoijehaaaOneQ
namespace Go.Proofs.Ytgjnobjoijehaaa
set_option linter.unusedSimpArgs false
set_option linter.unusedVariables false
open Go.RowKit

namespace permMany
set_option maxRecDepth 100000 in
set_option maxHeartbeats 16000000 in
theorem walk (a0 : Int) (a1 : Int) (w : World) (w0 : (Lit.int .u8 a0).wf = true) (w1 : (Lit.int .u8 a1).wf = true) :
    Calls Try.prog 8 #[.int .u8 a0, .int .u8 a1] w fun e w' => e = .returned (.bool true) ∧ Ext w w' := by
  obtain ⟨l0, u0⟩ := wfu8 w0
  obtain ⟨a, ha, ea⟩ := and127' l0 u0
  obtain ⟨l1, u1⟩ := wfu8 w1
  obtain ⟨b, hb, eb⟩ := and127' l1 u1
  clear w0 l0 u0 w1 l1 u1
  have o1 := of_lor' ha hb
  have m1 := (many_pair ⟨a, ha⟩ ⟨b, hb⟩).1
  have m2 := (many_pair ⟨a, ha⟩ ⟨b, hb⟩).2
  have m3 := many_less ⟨a, ha⟩
  obtain ⟨b1, b2⟩ := many_bd ⟨a, ha⟩
  obtain ⟨b3, b4⟩ := many_bd ⟨b, hb⟩
  obtain ⟨n1, n2⟩ := and_pair ⟨a, ha⟩ ⟨b, hb⟩
  simp only at m1 m2 m3 b1 b2 b3 b4 n1 n2
  obtain ⟨c, hc⟩ : ∃ c : Nat, bits .and .i64 (a : Int) (b : Int) = (c : Int) := ⟨(bits .and .i64 (a : Int) (b : Int)).toNat, by omega⟩
  rw [hc] at m1 n1 n2
  obtain ⟨b5, b6⟩ := many_bd ⟨c, by omega⟩
  simp only at b5 b6
  obtain ⟨A1, hA1⟩ : ∃ x, manyB (a : Int) = x := ⟨_, rfl⟩
  obtain ⟨B1, hB1⟩ : ∃ x, manyB (b : Int) = x := ⟨_, rfl⟩
  obtain ⟨C1, hC1⟩ : ∃ x, manyB (c : Int) = x := ⟨_, rfl⟩
  rw [hA1] at m1 m2 m3 b1 b2
  rw [hB1] at m1 b3 b4
  rw [hC1] at m1 b5 b6
  have ha0 : (0 : Int) ≤ (a : Int) := by omega
  have ha1 : (a : Int) ≤ 127 := by omega
  generalize (a ||| b) = x at o1 m1 m2
  rw [m1] at m2
  by_cases hq : A1 + B1 - C1 = A1
  all_goals (first | rw [decide_eq_true hq] at m2 | rw [decide_eq_false hq] at m2)
  all_goals (go_enter Try.func8, Try.ntmps8; go_wp2_with (first | (go_at_call 10; refine Calls.mono (head _) ?_; rintro e wh ⟨rfl, hxh⟩; obtain ⟨dh, rfl⟩ := hxh.grown; clear hxh) | (go_at_call 15; refine (has _ _ _).mono ?_; rintro e w' ⟨rfl, rfl⟩) | (go_at_call 21; (with_reducible refine (of_pair _ _ _ _ (by simp only [World.size_alloc, grow_size])).mono ?_); rintro e w' ⟨rfl, rfl⟩) | (go_at_call 19; refine (many _ _).mono ?_; rintro e w' ⟨rfl, rfl⟩)))
  all_goals go_ret
  all_goals exact ⟨by first | rfl | (simp; done) | (simp; omega), (by repeat (first | (with_reducible exact Ext.refl _) | (with_reducible refine Ext.undrew ?_) | (with_reducible refine Ext.grow ?_ _) | (with_reducible refine Ext.drew ?_) | (with_reducible refine Ext.drewN ?_ _) | (with_reducible refine Ext.alloc ?_ _) | (with_reducible assumption) | ((with_reducible refine Ext.setCell ?_ ?_ _); rotate_left; (first | exact Nat.le_refl _ | ((try dsimp only); (try simp only [World.size_alloc, grow_size, World.size_setCell]); omega)))))⟩
end permMany

end Go.Proofs.Ytgjnobjoijehaaa
