/- The walk of the law DeriveTwice. -/
import Derived.Test.YtnakimlicedogaaHead04
import Derived.Test.YtnakimlicedogaaRef4
import Derived.Test.YtnakimlicedogaaDerM
namespace Go.Proofs.Ytnakimlicedogaa
set_option linter.unusedSimpArgs false
set_option linter.unusedVariables false
open Go.RowKit

namespace deriveTwice
set_option maxRecDepth 100000 in
set_option maxHeartbeats 8000000 in
theorem walk (t0 : Bool) (b0 tp0 at0 pm0 ty0 : Int) (a1 : Int) (a2 : Int) (a3 : Int) (a4 : Int) (wb0 : (Lit.int .i64 b0).wf = true) (wtp0 : (Lit.int .i64 tp0).wf = true) (wat0 : (Lit.int .i64 at0).wf = true) (wpm0 : (Lit.int .i64 pm0).wf = true) (wty0 : (Lit.int .i64 ty0).wf = true) (w1 : (Lit.int .u16 a1).wf = true) (w2 : (Lit.int .u16 a2).wf = true) (w3 : (Lit.int .u8 a3).wf = true) (w4 : (Lit.int .u8 a4).wf = true) (w : World) :
    Calls Try.prog 7 #[.agg #[.bool t0, .int .i64 b0, .int .i64 tp0, .int .i64 at0, .int .i64 pm0, .int .i64 ty0], .int .u16 a1, .int .u16 a2, .int .u8 a3, .int .u8 a4] w fun e w' => e = .returned (.bool true) ∧ Ext w w' := by
  obtain ⟨w1l, w1h⟩ := wfu16 w1
  obtain ⟨w2l, w2h⟩ := wfu16 w2
  obtain ⟨w3l, w3h⟩ := wfu8 w3
  obtain ⟨w4l, w4h⟩ := wfu8 w4
  clear w1 w2 w3 w4 wb0 wtp0 wat0 wpm0 wty0
  by_cases hE : boundsE ⟨t0, b0, tp0, at0, pm0, ty0⟩ a1 = 0
  · obtain ⟨hA, hT, ho, hR, hU⟩ := bounds_ok hE
    obtain ⟨hu, hi⟩ := boundsE0.1 hE
    obtain ⟨hr, _, hy⟩ := useE0.1 hu
    have hG := boundsE_again (m := a2) hE ⟨w2l, w2h⟩
    have hb := rightC_bd hr
    have hn := inC_nums hr hi
    rw [hA] at hR
    dsimp only at ho hy hA hR hG hb hn
    subst ho hy
    obtain ⟨p0, p1⟩ := (mask_u8 w3l w3h).2
    obtain ⟨q0, q1⟩ := (mask_u8 w4l w4h).2
    have e1 : permsE ⟨true, at0, at0 + a1, at0, pm0, 0⟩ (bits .and .u8 a3 127) = 0 := permsE0.2 ⟨useE0.2 ⟨hR, rfl, rfl⟩, rightB_iff.2 ⟨p0, p1⟩⟩
    obtain ⟨e2, _, _, e3, _⟩ := perms_ok e1
    dsimp only at e2
    rw [e2] at e3
    have e4 : permsE ⟨true, at0, at0 + a1, at0, bits .and .i64 pm0 (bits .and .u8 a3 127), 0⟩ (bits .and .u8 a4 127) = 0 := permsE0.2 ⟨useE0.2 ⟨e3, rfl, rfl⟩, rightB_iff.2 ⟨q0, q1⟩⟩
    obtain ⟨e5, _, _, _, _⟩ := perms_ok e4
    dsimp only at e5
    rw [twice_bits ⟨hb.2.2.2.2.2.2.1, hb.2.2.2.2.2.2.2.1⟩ ⟨w3l, w3h⟩ ⟨w4l, w4h⟩] at e5
    have n0 : 0 ≤ at0 := by omega
    have n1 : at0 ≤ 4294967295 := by omega
    have k1 : at0 + a1 ≤ 4294967295 := by omega
    clear hT hU hu hi hr hb hn hR e3
    by_cases hle : a2 ≤ a1
    · have hF := hG.2 hle
      have hX := (bounds_ok hF).1
      dsimp only at hX
      clear hG
      go_enter Try.func7, Try.ntmps7
      go_wp2_with (first | (go_at_call 10; refine (head _).mono ?_; rintro e w1 ⟨rfl, hy⟩; obtain ⟨d, rfl⟩ := hy.grown; clear hy) | (go_at_call 11; refine (bounds_ _ _ _ _ _ _ _ _).mono ?_; rintro e w1 ⟨rfl, hy⟩; obtain ⟨d, rfl⟩ := hy.grown; clear hy) | (go_at_call 13; refine (perms_ _ _ _ _ _ _ _ _).mono ?_; rintro e w1 ⟨rfl, hy⟩; obtain ⟨d, rfl⟩ := hy.grown; clear hy))
      all_goals go_ret
      all_goals exact ⟨rfl, (by repeat (first | (with_reducible exact Ext.refl _) | (with_reducible refine Ext.undrew ?_) | (with_reducible refine Ext.grow ?_ _) | (with_reducible refine Ext.drew ?_) | (with_reducible refine Ext.drewN ?_ _) | (with_reducible refine Ext.alloc ?_ _) | (with_reducible assumption) | ((with_reducible refine Ext.setCell ?_ ?_ _); rotate_left; (first | exact Nat.le_refl _ | (dsimp only; simp only [World.size_alloc, grow_size, World.size_setCell]; omega)))))⟩
    · have hF : ¬ boundsE ⟨true, at0, at0 + a1, at0, pm0, 0⟩ a2 = 0 := fun h => hle (hG.1 h)
      have hF1 : (boundsE ⟨true, at0, at0 + a1, at0, pm0, 0⟩ a2 == 0) = false := by simpa using hF
      have hX : boundsC ⟨true, at0, at0 + a1, at0, pm0, 0⟩ a2 = ⟨false, 0, 0, 0, 0, 0⟩ := madeC_bad hF
      clear hG
      go_enter Try.func7, Try.ntmps7
      go_wp2_with (first | (go_at_call 10; refine (head _).mono ?_; rintro e w1 ⟨rfl, hy⟩; obtain ⟨d, rfl⟩ := hy.grown; clear hy) | (go_at_call 11; refine (bounds_ _ _ _ _ _ _ _ _).mono ?_; rintro e w1 ⟨rfl, hy⟩; obtain ⟨d, rfl⟩ := hy.grown; clear hy) | (go_at_call 13; refine (perms_ _ _ _ _ _ _ _ _).mono ?_; rintro e w1 ⟨rfl, hy⟩; obtain ⟨d, rfl⟩ := hy.grown; clear hy))
      all_goals go_ret
      all_goals exact ⟨rfl, (by repeat (first | (with_reducible exact Ext.refl _) | (with_reducible refine Ext.undrew ?_) | (with_reducible refine Ext.grow ?_ _) | (with_reducible refine Ext.drew ?_) | (with_reducible refine Ext.drewN ?_ _) | (with_reducible refine Ext.alloc ?_ _) | (with_reducible assumption) | ((with_reducible refine Ext.setCell ?_ ?_ _); rotate_left; (first | exact Nat.le_refl _ | (dsimp only; simp only [World.size_alloc, grow_size, World.size_setCell]; omega)))))⟩
  · go_enter Try.func7, Try.ntmps7
    go_wp2_with (first | (go_at_call 10; refine (head _).mono ?_; rintro e w1 ⟨rfl, hy⟩; obtain ⟨d, rfl⟩ := hy.grown; clear hy) | (go_at_call 11; refine (bounds_ _ _ _ _ _ _ _ _).mono ?_; rintro e w1 ⟨rfl, hy⟩; obtain ⟨d, rfl⟩ := hy.grown; clear hy))
    all_goals go_ret
    all_goals exact ⟨rfl, (by repeat (first | (with_reducible exact Ext.refl _) | (with_reducible refine Ext.undrew ?_) | (with_reducible refine Ext.grow ?_ _) | (with_reducible refine Ext.drew ?_) | (with_reducible refine Ext.drewN ?_ _) | (with_reducible refine Ext.alloc ?_ _) | (with_reducible assumption) | ((with_reducible refine Ext.setCell ?_ ?_ _); rotate_left; (first | exact Nat.le_refl _ | (dsimp only; simp only [World.size_alloc, grow_size, World.size_setCell]; omega)))))⟩
end deriveTwice
end Go.Proofs.Ytnakimlicedogaa
