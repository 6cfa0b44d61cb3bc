/- The walk of the law PermBack. -/
import Derived.Test.YtgjnobjoijehaaaHeadA1
import Derived.Test.YtgjnobjoijehaaaOneQ
namespace Go.Proofs.Ytgjnobjoijehaaa
set_option linter.unusedSimpArgs false
set_option linter.unusedVariables false
open Go.RowKit

namespace permBack
set_option maxRecDepth 100000 in
set_option maxHeartbeats 8000000 in
theorem walk (a0 : Int) (a1 : ByteArray) (w : World) (w0 : (Lit.int .u8 a0).wf = true) (w1 : a1.size ≤ maxLen) :
    Calls Try.prog 7 #[.int .u8 a0, .string a1] w fun e w' => e = .returned (.bool true) ∧ Ext w w' := by
  obtain ⟨l0, u0⟩ := wfu8 w0
  obtain ⟨a, ha, ea⟩ := and127' l0 u0
  clear w0 l0 u0
  have hv := parse_yes (p := (a : Int)) (s := ⟨(textB (a : Int)).toArray⟩) (by omega) (by unfold eqT; simp)
  have hml := many_len ⟨a, ha⟩
  obtain ⟨b1, b2⟩ := many_bd ⟨a, ha⟩
  simp only at hml b1 b2
  obtain ⟨T, hT⟩ : ∃ T, textB (a : Int) = T := ⟨_, rfl⟩
  rw [hT] at hv hml
  have HT := hid hT
  have HV := hid hv
  clear hT hv ha
  obtain ⟨m, hm⟩ : ∃ m, manyB (a : Int) = m := ⟨_, rfl⟩
  rw [hm] at hml b1 b2
  have HM := hid hm
  clear hm
  obtain ⟨ln, hln⟩ : ∃ ln, T.length = ln := ⟨_, rfl⟩
  rw [hln] at hml
  have hsz : (⟨T.toArray⟩ : ByteArray).size = ln := by rw [← hln]; rfl
  have ha0 : (0 : Int) ≤ (a : Int) := by omega
  have key : ¬ (0 < (a : Int)) ∨ (0 < (a : Int)) ∧ (ln : Int) = m := by
    by_cases h : a = 0
    · exact .inl (by omega)
    · exact .inr ⟨by omega, hml h⟩
  clear hml
  rcases key with hz | ⟨hz, hlm⟩
  all_goals (by_cases h9 : (a1.size : Int) ≤ 900)
  · rcases parse_form a1 with hs | ⟨n, hn, hq, hs⟩
    · have HS := hid hs
      clear hs
      go_enter Try.func7, Try.ntmps7
      go_wp2_with (first | (go_at_call 10; refine Calls.mono (head _) ?_; rintro e wh ⟨rfl, hxh⟩; obtain ⟨dh, rfl⟩ := hxh.grown; clear hxh) | (go_at_call 17; (with_reducible refine Calls.mono (text (a : Int) _) ?_); rw [HT.out]; rintro e w1 ⟨rfl, hy⟩; obtain ⟨d2, rfl⟩ := hy.grown; clear hy))
      refine Calls.mono (parse_ ⟨T.toArray⟩ _) ?_
      rintro e w3 ⟨rfl, hy⟩
      obtain ⟨d3, rfl⟩ := hy.grown
      clear hy
      rw [HV.out]
      go_wp2_with (go_at_call 19; (with_reducible refine Calls.mono (many (a : Int) _) ?_); rw [HM.out]; rintro e w1 ⟨rfl, rfl⟩)
      refine Calls.mono (parse_ a1 _) ?_
      rintro e w4 ⟨rfl, hy⟩
      obtain ⟨d4, rfl⟩ := hy.grown
      clear hy
      rw [HS.out]
      go_wp2_with fail
      all_goals go_ret
      all_goals exact ⟨by first | rfl | (simp; done), (by repeat (first | (with_reducible exact Ext.refl _) | (with_reducible refine Ext.undrew ?_) | (with_reducible refine Ext.grow ?_ _) | (with_reducible refine Ext.drew ?_) | (with_reducible refine Ext.drewN ?_ _) | (with_reducible refine Ext.alloc ?_ _) | (with_reducible assumption) | ((with_reducible refine Ext.setCell ?_ ?_ _); rotate_left; (first | exact Nat.le_refl _ | ((try dsimp only); (try simp only [World.size_alloc, grow_size, World.size_setCell]); omega)))))⟩
    · have HS := hid hs
      have hl := eqT_list n a1
      rw [hq] at hl
      clear hs hq
      go_enter Try.func7, Try.ntmps7
      go_wp2_with (first | (go_at_call 10; refine Calls.mono (head _) ?_; rintro e wh ⟨rfl, hxh⟩; obtain ⟨dh, rfl⟩ := hxh.grown; clear hxh) | (go_at_call 17; (with_reducible refine Calls.mono (text (a : Int) _) ?_); rw [HT.out]; rintro e w1 ⟨rfl, hy⟩; obtain ⟨d2, rfl⟩ := hy.grown; clear hy))
      refine Calls.mono (parse_ ⟨T.toArray⟩ _) ?_
      rintro e w3 ⟨rfl, hy⟩
      obtain ⟨d3, rfl⟩ := hy.grown
      clear hy
      rw [HV.out]
      go_wp2_with (go_at_call 19; (with_reducible refine Calls.mono (many (a : Int) _) ?_); rw [HM.out]; rintro e w1 ⟨rfl, rfl⟩)
      refine Calls.mono (parse_ a1 _) ?_
      rintro e w4 ⟨rfl, hy⟩
      obtain ⟨d4, rfl⟩ := hy.grown
      clear hy
      rw [HS.out]
      go_wp2_with (go_at_call 17; (with_reducible refine Calls.mono (text n _) ?_); rintro e w1 ⟨rfl, hy⟩; obtain ⟨d5, rfl⟩ := hy.grown; clear hy)
      all_goals go_ret
      all_goals exact ⟨by first | rfl | (simp; done), (by repeat (first | (with_reducible exact Ext.refl _) | (with_reducible refine Ext.undrew ?_) | (with_reducible refine Ext.grow ?_ _) | (with_reducible refine Ext.drew ?_) | (with_reducible refine Ext.drewN ?_ _) | (with_reducible refine Ext.alloc ?_ _) | (with_reducible assumption) | ((with_reducible refine Ext.setCell ?_ ?_ _); rotate_left; (first | exact Nat.le_refl _ | ((try dsimp only); (try simp only [World.size_alloc, grow_size, World.size_setCell]); omega)))))⟩
  · have h9' : ¬ a1.size ≤ 900 := by omega
    go_enter Try.func7, Try.ntmps7
    go_wp2_with (first | (go_at_call 10; refine Calls.mono (head _) ?_; rintro e wh ⟨rfl, hxh⟩; obtain ⟨dh, rfl⟩ := hxh.grown; clear hxh) | (go_at_call 17; (with_reducible refine Calls.mono (text (a : Int) _) ?_); rw [HT.out]; rintro e w1 ⟨rfl, hy⟩; obtain ⟨d2, rfl⟩ := hy.grown; clear hy))
    refine Calls.mono (parse_ ⟨T.toArray⟩ _) ?_
    rintro e w3 ⟨rfl, hy⟩
    obtain ⟨d3, rfl⟩ := hy.grown
    clear hy
    rw [HV.out]
    go_wp2_with (go_at_call 19; (with_reducible refine Calls.mono (many (a : Int) _) ?_); rw [HM.out]; rintro e w1 ⟨rfl, rfl⟩)
    all_goals go_ret
    all_goals exact ⟨by first | rfl | (simp; done), (by repeat (first | (with_reducible exact Ext.refl _) | (with_reducible refine Ext.undrew ?_) | (with_reducible refine Ext.grow ?_ _) | (with_reducible refine Ext.drew ?_) | (with_reducible refine Ext.drewN ?_ _) | (with_reducible refine Ext.alloc ?_ _) | (with_reducible assumption) | ((with_reducible refine Ext.setCell ?_ ?_ _); rotate_left; (first | exact Nat.le_refl _ | ((try dsimp only); (try simp only [World.size_alloc, grow_size, World.size_setCell]); omega)))))⟩
  · rcases parse_form a1 with hs | ⟨n, hn, hq, hs⟩
    · have HS := hid hs
      clear hs
      go_enter Try.func7, Try.ntmps7
      go_wp2_with (first | (go_at_call 10; refine Calls.mono (head _) ?_; rintro e wh ⟨rfl, hxh⟩; obtain ⟨dh, rfl⟩ := hxh.grown; clear hxh) | (go_at_call 17; (with_reducible refine Calls.mono (text (a : Int) _) ?_); rw [HT.out]; rintro e w1 ⟨rfl, hy⟩; obtain ⟨d2, rfl⟩ := hy.grown; clear hy))
      refine Calls.mono (parse_ ⟨T.toArray⟩ _) ?_
      rintro e w3 ⟨rfl, hy⟩
      obtain ⟨d3, rfl⟩ := hy.grown
      clear hy
      rw [HV.out]
      go_wp2_with (go_at_call 19; (with_reducible refine Calls.mono (many (a : Int) _) ?_); rw [HM.out]; rintro e w1 ⟨rfl, rfl⟩)
      refine Calls.mono (parse_ a1 _) ?_
      rintro e w4 ⟨rfl, hy⟩
      obtain ⟨d4, rfl⟩ := hy.grown
      clear hy
      rw [HS.out]
      go_wp2_with fail
      all_goals go_ret
      all_goals exact ⟨by first | rfl | (simp; done), (by repeat (first | (with_reducible exact Ext.refl _) | (with_reducible refine Ext.undrew ?_) | (with_reducible refine Ext.grow ?_ _) | (with_reducible refine Ext.drew ?_) | (with_reducible refine Ext.drewN ?_ _) | (with_reducible refine Ext.alloc ?_ _) | (with_reducible assumption) | ((with_reducible refine Ext.setCell ?_ ?_ _); rotate_left; (first | exact Nat.le_refl _ | ((try dsimp only); (try simp only [World.size_alloc, grow_size, World.size_setCell]); omega)))))⟩
    · have HS := hid hs
      have hl := eqT_list n a1
      rw [hq] at hl
      clear hs hq
      go_enter Try.func7, Try.ntmps7
      go_wp2_with (first | (go_at_call 10; refine Calls.mono (head _) ?_; rintro e wh ⟨rfl, hxh⟩; obtain ⟨dh, rfl⟩ := hxh.grown; clear hxh) | (go_at_call 17; (with_reducible refine Calls.mono (text (a : Int) _) ?_); rw [HT.out]; rintro e w1 ⟨rfl, hy⟩; obtain ⟨d2, rfl⟩ := hy.grown; clear hy))
      refine Calls.mono (parse_ ⟨T.toArray⟩ _) ?_
      rintro e w3 ⟨rfl, hy⟩
      obtain ⟨d3, rfl⟩ := hy.grown
      clear hy
      rw [HV.out]
      go_wp2_with (go_at_call 19; (with_reducible refine Calls.mono (many (a : Int) _) ?_); rw [HM.out]; rintro e w1 ⟨rfl, rfl⟩)
      refine Calls.mono (parse_ a1 _) ?_
      rintro e w4 ⟨rfl, hy⟩
      obtain ⟨d4, rfl⟩ := hy.grown
      clear hy
      rw [HS.out]
      go_wp2_with (go_at_call 17; (with_reducible refine Calls.mono (text n _) ?_); rintro e w1 ⟨rfl, hy⟩; obtain ⟨d5, rfl⟩ := hy.grown; clear hy)
      all_goals go_ret
      all_goals exact ⟨by first | rfl | (simp; done), (by repeat (first | (with_reducible exact Ext.refl _) | (with_reducible refine Ext.undrew ?_) | (with_reducible refine Ext.grow ?_ _) | (with_reducible refine Ext.drew ?_) | (with_reducible refine Ext.drewN ?_ _) | (with_reducible refine Ext.alloc ?_ _) | (with_reducible assumption) | ((with_reducible refine Ext.setCell ?_ ?_ _); rotate_left; (first | exact Nat.le_refl _ | ((try dsimp only); (try simp only [World.size_alloc, grow_size, World.size_setCell]); omega)))))⟩
  · have h9' : ¬ a1.size ≤ 900 := by omega
    go_enter Try.func7, Try.ntmps7
    go_wp2_with (first | (go_at_call 10; refine Calls.mono (head _) ?_; rintro e wh ⟨rfl, hxh⟩; obtain ⟨dh, rfl⟩ := hxh.grown; clear hxh) | (go_at_call 17; (with_reducible refine Calls.mono (text (a : Int) _) ?_); rw [HT.out]; rintro e w1 ⟨rfl, hy⟩; obtain ⟨d2, rfl⟩ := hy.grown; clear hy))
    refine Calls.mono (parse_ ⟨T.toArray⟩ _) ?_
    rintro e w3 ⟨rfl, hy⟩
    obtain ⟨d3, rfl⟩ := hy.grown
    clear hy
    rw [HV.out]
    go_wp2_with (go_at_call 19; (with_reducible refine Calls.mono (many (a : Int) _) ?_); rw [HM.out]; rintro e w1 ⟨rfl, rfl⟩)
    all_goals go_ret
    all_goals exact ⟨by first | rfl | (simp; done), (by repeat (first | (with_reducible exact Ext.refl _) | (with_reducible refine Ext.undrew ?_) | (with_reducible refine Ext.grow ?_ _) | (with_reducible refine Ext.drew ?_) | (with_reducible refine Ext.drewN ?_ _) | (with_reducible refine Ext.alloc ?_ _) | (with_reducible assumption) | ((with_reducible refine Ext.setCell ?_ ?_ _); rotate_left; (first | exact Nat.le_refl _ | ((try dsimp only); (try simp only [World.size_alloc, grow_size, World.size_setCell]); omega)))))⟩
end permBack

end Go.Proofs.Ytgjnobjoijehaaa
