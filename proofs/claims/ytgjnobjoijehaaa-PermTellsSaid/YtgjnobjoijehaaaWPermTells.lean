/- The walk of the law PermTells. -/
import Derived.Test.YtgjnobjoijehaaaHeadA1
import Derived.Test.YtgjnobjoijehaaaOneQ
namespace Go.Proofs.Ytgjnobjoijehaaa
set_option linter.unusedSimpArgs false
set_option linter.unusedVariables false
open Go.RowKit

namespace permTells
set_option maxRecDepth 100000 in
set_option maxHeartbeats 4000000 in
theorem walk (a0 : Int) (a1 : Int) (a2 : ByteArray) (w : World) (w0 : (Lit.int .i64 a0).wf = true) (w1 : (Lit.int .i64 a1).wf = true) (w2 : a2.size ≤ maxLen) :
    Calls Try.prog 3 #[.int .i64 a0, .int .i64 a1, .string a2] w fun e w' => e = .returned (.bool true) ∧ Ext w w' := by
  obtain ⟨n, b, hv⟩ : ∃ (n : Int) (b : Bool), parseV a2 = .tuple #[.int .i64 n, .bool b] := by
    rcases parse_form a2 with h | ⟨n, _, _, h⟩
    · exact ⟨_, _, h⟩
    · exact ⟨_, _, h⟩
  obtain ⟨T, ht⟩ : ∃ T, textB a0 = T := ⟨_, rfl⟩
  obtain ⟨B, hb⟩ : ∃ B, rightB a0 = B := ⟨_, rfl⟩
  obtain ⟨H, hh⟩ : ∃ H, hasB a0 a1 = H := ⟨_, rfl⟩
  obtain ⟨M, hm⟩ : ∃ M, manyB a0 = M := ⟨_, rfl⟩
  have HV := hid hv
  have HT := hid ht
  have HR := hid hb
  have HH := hid hh
  have HM := hid hm
  clear hv ht hb hh hm
  by_cases h9 : (a2.size : Int) ≤ 900
  · go_enter Try.func3, Try.ntmps3
    go_wp2_with (first | (go_at_call 10; refine Calls.mono (head _) ?_; rintro e wh ⟨rfl, hxh⟩; obtain ⟨dh, rfl⟩ := hxh.grown; clear hxh) | (go_at_call 11; (with_reducible refine Calls.mono (parse_ a2 _) ?_); rintro e w1 ⟨rfl, hy⟩; obtain ⟨d1, rfl⟩ := hy.grown; clear hy; rw [HV.out]) | (go_at_call 12; (with_reducible refine Calls.mono (rparse a2 _) ?_); rintro e w1 ⟨rfl, rfl⟩; rw [HV.out]) | (go_at_call 17; (with_reducible refine Calls.mono (text a0 _) ?_); rw [HT.out]; rintro e w1 ⟨rfl, hy⟩; obtain ⟨d2, rfl⟩ := hy.grown; clear hy) | (go_at_call 18; (with_reducible refine Calls.mono (rtext a0 _) ?_); rw [HT.out]; rintro e w1 ⟨rfl, rfl⟩) | (go_at_call 13; (with_reducible refine Calls.mono (right a0 _) ?_); rw [HR.out]; rintro e w1 ⟨rfl, rfl⟩) | (go_at_call 14; (with_reducible refine Calls.mono (rright a0 _) ?_); rw [HR.out]; rintro e w1 ⟨rfl, rfl⟩) | (go_at_call 15; (with_reducible refine Calls.mono (has a0 a1 _) ?_); rw [HH.out]; rintro e w1 ⟨rfl, rfl⟩) | (go_at_call 16; (with_reducible refine Calls.mono (rhas a0 a1 _) ?_); rw [hasR_has, HH.out]; rintro e w1 ⟨rfl, rfl⟩) | (go_at_call 19; (with_reducible refine Calls.mono (many a0 _) ?_); rw [HM.out]; rintro e w1 ⟨rfl, rfl⟩) | (go_at_call 20; (with_reducible refine Calls.mono (rmany a0 _) ?_); rw [manyR_many, HM.out]; rintro e w1 ⟨rfl, rfl⟩))
    all_goals go_ret
    all_goals exact ⟨by simp, (by repeat (first | (with_reducible exact Ext.refl _) | (with_reducible refine Ext.undrew ?_) | (with_reducible refine Ext.grow ?_ _) | (with_reducible refine Ext.drew ?_) | (with_reducible refine Ext.drewN ?_ _) | (with_reducible refine Ext.alloc ?_ _) | (with_reducible assumption) | ((with_reducible refine Ext.setCell ?_ ?_ _); rotate_left; (first | exact Nat.le_refl _ | ((try dsimp only); (try simp only [World.size_alloc, grow_size, World.size_setCell]); omega)))))⟩
  · have h9' : ¬ a2.size ≤ 900 := by omega
    go_enter Try.func3, Try.ntmps3
    go_wp2_with (go_at_call 10; refine Calls.mono (head _) ?_; rintro e wh ⟨rfl, hxh⟩; obtain ⟨dh, rfl⟩ := hxh.grown; clear hxh)
    go_ret
    exact ⟨rfl, (by repeat (first | (with_reducible exact Ext.refl _) | (with_reducible refine Ext.undrew ?_) | (with_reducible refine Ext.grow ?_ _) | (with_reducible refine Ext.drew ?_) | (with_reducible refine Ext.drewN ?_ _) | (with_reducible refine Ext.alloc ?_ _) | (with_reducible assumption) | ((with_reducible refine Ext.setCell ?_ ?_ _); rotate_left; (first | exact Nat.le_refl _ | ((try dsimp only); (try simp only [World.size_alloc, grow_size, World.size_setCell]); omega)))))⟩
end permTells

end Go.Proofs.Ytgjnobjoijehaaa
