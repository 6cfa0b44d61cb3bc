/- The walk of the law DeriveLess. -/
import Derived.Test.YtnakimlicedogaaHead04
import Derived.Test.YtnakimlicedogaaRef4
import Derived.Test.YtnakimlicedogaaDerM
namespace Go.Proofs.Ytnakimlicedogaa
set_option linter.unusedSimpArgs false
set_option linter.unusedVariables false
open Go.RowKit

namespace deriveLess
set_option maxRecDepth 100000 in
set_option maxHeartbeats 8000000 in
theorem walk (t0 : Bool) (b0 tp0 at0 pm0 ty0 : Int) (t1 : Bool) (b1 tp1 at1 pm1 ty1 : Int) (a2 : Int) (a3 : Int) (wb0 : (Lit.int .i64 b0).wf = true) (wtp0 : (Lit.int .i64 tp0).wf = true) (wat0 : (Lit.int .i64 at0).wf = true) (wpm0 : (Lit.int .i64 pm0).wf = true) (wty0 : (Lit.int .i64 ty0).wf = true) (wb1 : (Lit.int .i64 b1).wf = true) (wtp1 : (Lit.int .i64 tp1).wf = true) (wat1 : (Lit.int .i64 at1).wf = true) (wpm1 : (Lit.int .i64 pm1).wf = true) (wty1 : (Lit.int .i64 ty1).wf = true) (w2 : (Lit.int .i64 a2).wf = true) (w3 : (Lit.int .u8 a3).wf = true) (w : World) :
    Calls Try.prog 5 #[.agg #[.bool t0, .int .i64 b0, .int .i64 tp0, .int .i64 at0, .int .i64 pm0, .int .i64 ty0], .agg #[.bool t1, .int .i64 b1, .int .i64 tp1, .int .i64 at1, .int .i64 pm1, .int .i64 ty1], .int .i64 a2, .int .u8 a3] w fun e w' => e = .returned (.bool true) ∧ Ext w w' := by
  obtain ⟨b0l, b0h⟩ := wf64 wb0
  obtain ⟨tp0l, tp0h⟩ := wf64 wtp0
  obtain ⟨at0l, at0h⟩ := wf64 wat0
  obtain ⟨pm0l, pm0h⟩ := wf64 wpm0
  obtain ⟨ty0l, ty0h⟩ := wf64 wty0
  obtain ⟨b1l, b1h⟩ := wf64 wb1
  obtain ⟨tp1l, tp1h⟩ := wf64 wtp1
  obtain ⟨at1l, at1h⟩ := wf64 wat1
  obtain ⟨pm1l, pm1h⟩ := wf64 wpm1
  obtain ⟨ty1l, ty1h⟩ := wf64 wty1
  obtain ⟨w2l, w2h⟩ := wf64 w2
  obtain ⟨w3l, w3h⟩ := wfu8 w3
  clear w3 wb0 wtp0 wat0 wpm0 wty0 wb1 wtp1 wat1 wpm1 wty1 w2
  have hq : a3 % 7 = 0 ∨ a3 % 7 = 1 ∨ a3 % 7 = 2 ∨ a3 % 7 = 3 ∨ a3 % 7 = 4 ∨ a3 % 7 = 5 ∨ a3 % 7 = 6 := by omega
  cases h0 : rightC ⟨t0, b0, tp0, at0, pm0, ty0⟩
  · clear hq
    go_enter Try.func5, Try.ntmps5
    go_wp2_with (first | (go_at_call 10; refine (head _).mono ?_; rintro e w1 ⟨rfl, hy⟩; obtain ⟨d, rfl⟩ := hy.grown; clear hy) | (go_at_call 27; refine (rcapRight _ _ _ _ _ _ _).mono ?_; rintro e w1 ⟨rfl, hy⟩; obtain ⟨d, rfl⟩ := hy.grown; clear hy))
    all_goals go_ret
    all_goals exact ⟨rfl, (by repeat (first | (with_reducible exact Ext.refl _) | (with_reducible refine Ext.undrew ?_) | (with_reducible refine Ext.grow ?_ _) | (with_reducible refine Ext.drew ?_) | (with_reducible refine Ext.drewN ?_ _) | (with_reducible refine Ext.alloc ?_ _) | (with_reducible assumption) | ((with_reducible refine Ext.setCell ?_ ?_ _); rotate_left; (first | exact Nat.le_refl _ | (dsimp only; simp only [World.size_alloc, grow_size, World.size_setCell]; omega)))))⟩
  cases h1 : rightC ⟨t1, b1, tp1, at1, pm1, ty1⟩
  · clear hq
    go_enter Try.func5, Try.ntmps5
    go_wp2_with (first | (go_at_call 10; refine (head _).mono ?_; rintro e w1 ⟨rfl, hy⟩; obtain ⟨d, rfl⟩ := hy.grown; clear hy) | (go_at_call 27; refine (rcapRight _ _ _ _ _ _ _).mono ?_; rintro e w1 ⟨rfl, hy⟩; obtain ⟨d, rfl⟩ := hy.grown; clear hy))
    all_goals go_ret
    all_goals exact ⟨rfl, (by repeat (first | (with_reducible exact Ext.refl _) | (with_reducible refine Ext.undrew ?_) | (with_reducible refine Ext.grow ?_ _) | (with_reducible refine Ext.drew ?_) | (with_reducible refine Ext.drewN ?_ _) | (with_reducible refine Ext.alloc ?_ _) | (with_reducible assumption) | ((with_reducible refine Ext.setCell ?_ ?_ _); rotate_left; (first | exact Nat.le_refl _ | (dsimp only; simp only [World.size_alloc, grow_size, World.size_setCell]; omega)))))⟩
  rcases hq with hk | hk | hk | hk | hk | hk | hk
  · by_cases hE : boundsE ⟨t0, b0, tp0, at0, pm0, ty0⟩ a2 = 0
    · obtain ⟨he, ht, ho, hr, hu⟩ := bounds_ok hE
      clear he
      obtain ⟨⟨xt, xb, xtp, xa, xp, xty⟩, hX⟩ : ∃ X, boundsC ⟨t0, b0, tp0, at0, pm0, ty0⟩ a2 = X := ⟨_, rfl⟩
      rw [hX] at ht hr hu
      dsimp only at ht ho
      subst ht ho
      go_enter Try.func5, Try.ntmps5
      go_wp2_with (first | (go_at_call 10; refine (head _).mono ?_; rintro e w1 ⟨rfl, hy⟩; obtain ⟨d, rfl⟩ := hy.grown; clear hy) | (go_at_call 27; refine (rcapRight _ _ _ _ _ _ _).mono ?_; rintro e w1 ⟨rfl, hy⟩; obtain ⟨d, rfl⟩ := hy.grown; clear hy) | (go_at_call 28; refine (rcapUnderC _ _ _ _ _ _ _ _ _ _ _ _ _).mono ?_; rintro e w1 ⟨rfl, hy⟩; obtain ⟨d, rfl⟩ := hy.grown; clear hy) | (go_at_call 11; refine (bounds_ _ _ _ _ _ _ _ _).mono ?_; rintro e w1 ⟨rfl, hy⟩; obtain ⟨d, rfl⟩ := hy.grown; clear hy))
      all_goals go_ret
      all_goals exact ⟨rfl, (by repeat (first | (with_reducible exact Ext.refl _) | (with_reducible refine Ext.undrew ?_) | (with_reducible refine Ext.grow ?_ _) | (with_reducible refine Ext.drew ?_) | (with_reducible refine Ext.drewN ?_ _) | (with_reducible refine Ext.alloc ?_ _) | (with_reducible assumption) | ((with_reducible refine Ext.setCell ?_ ?_ _); rotate_left; (first | exact Nat.le_refl _ | (dsimp only; simp only [World.size_alloc, grow_size, World.size_setCell]; omega)))))⟩
    · have hX : boundsC ⟨t0, b0, tp0, at0, pm0, ty0⟩ a2 = ⟨false, 0, 0, 0, 0, 0⟩ := madeC_bad hE
      go_enter Try.func5, Try.ntmps5
      go_wp2_with (first | (go_at_call 10; refine (head _).mono ?_; rintro e w1 ⟨rfl, hy⟩; obtain ⟨d, rfl⟩ := hy.grown; clear hy) | (go_at_call 27; refine (rcapRight _ _ _ _ _ _ _).mono ?_; rintro e w1 ⟨rfl, hy⟩; obtain ⟨d, rfl⟩ := hy.grown; clear hy) | (go_at_call 28; refine (rcapUnderC _ _ _ _ _ _ _ _ _ _ _ _ _).mono ?_; rintro e w1 ⟨rfl, hy⟩; obtain ⟨d, rfl⟩ := hy.grown; clear hy) | (go_at_call 11; refine (bounds_ _ _ _ _ _ _ _ _).mono ?_; rintro e w1 ⟨rfl, hy⟩; obtain ⟨d, rfl⟩ := hy.grown; clear hy))
      all_goals go_ret
      all_goals exact ⟨rfl, (by repeat (first | (with_reducible exact Ext.refl _) | (with_reducible refine Ext.undrew ?_) | (with_reducible refine Ext.grow ?_ _) | (with_reducible refine Ext.drew ?_) | (with_reducible refine Ext.drewN ?_ _) | (with_reducible refine Ext.alloc ?_ _) | (with_reducible assumption) | ((with_reducible refine Ext.setCell ?_ ?_ _); rotate_left; (first | exact Nat.le_refl _ | (dsimp only; simp only [World.size_alloc, grow_size, World.size_setCell]; omega)))))⟩
  · by_cases hE : permsE ⟨t0, b0, tp0, at0, pm0, ty0⟩ a2 = 0
    · obtain ⟨he, ht, ho, hr, hu⟩ := perms_ok hE
      clear he
      obtain ⟨⟨xt, xb, xtp, xa, xp, xty⟩, hX⟩ : ∃ X, permsC ⟨t0, b0, tp0, at0, pm0, ty0⟩ a2 = X := ⟨_, rfl⟩
      rw [hX] at ht hr hu
      dsimp only at ht ho
      subst ht ho
      go_enter Try.func5, Try.ntmps5
      go_wp2_with (first | (go_at_call 10; refine (head _).mono ?_; rintro e w1 ⟨rfl, hy⟩; obtain ⟨d, rfl⟩ := hy.grown; clear hy) | (go_at_call 27; refine (rcapRight _ _ _ _ _ _ _).mono ?_; rintro e w1 ⟨rfl, hy⟩; obtain ⟨d, rfl⟩ := hy.grown; clear hy) | (go_at_call 28; refine (rcapUnderC _ _ _ _ _ _ _ _ _ _ _ _ _).mono ?_; rintro e w1 ⟨rfl, hy⟩; obtain ⟨d, rfl⟩ := hy.grown; clear hy) | (go_at_call 13; refine (perms_ _ _ _ _ _ _ _ _).mono ?_; rintro e w1 ⟨rfl, hy⟩; obtain ⟨d, rfl⟩ := hy.grown; clear hy))
      all_goals go_ret
      all_goals exact ⟨rfl, (by repeat (first | (with_reducible exact Ext.refl _) | (with_reducible refine Ext.undrew ?_) | (with_reducible refine Ext.grow ?_ _) | (with_reducible refine Ext.drew ?_) | (with_reducible refine Ext.drewN ?_ _) | (with_reducible refine Ext.alloc ?_ _) | (with_reducible assumption) | ((with_reducible refine Ext.setCell ?_ ?_ _); rotate_left; (first | exact Nat.le_refl _ | (dsimp only; simp only [World.size_alloc, grow_size, World.size_setCell]; omega)))))⟩
    · have hX : permsC ⟨t0, b0, tp0, at0, pm0, ty0⟩ a2 = ⟨false, 0, 0, 0, 0, 0⟩ := madeC_bad hE
      go_enter Try.func5, Try.ntmps5
      go_wp2_with (first | (go_at_call 10; refine (head _).mono ?_; rintro e w1 ⟨rfl, hy⟩; obtain ⟨d, rfl⟩ := hy.grown; clear hy) | (go_at_call 27; refine (rcapRight _ _ _ _ _ _ _).mono ?_; rintro e w1 ⟨rfl, hy⟩; obtain ⟨d, rfl⟩ := hy.grown; clear hy) | (go_at_call 28; refine (rcapUnderC _ _ _ _ _ _ _ _ _ _ _ _ _).mono ?_; rintro e w1 ⟨rfl, hy⟩; obtain ⟨d, rfl⟩ := hy.grown; clear hy) | (go_at_call 13; refine (perms_ _ _ _ _ _ _ _ _).mono ?_; rintro e w1 ⟨rfl, hy⟩; obtain ⟨d, rfl⟩ := hy.grown; clear hy))
      all_goals go_ret
      all_goals exact ⟨rfl, (by repeat (first | (with_reducible exact Ext.refl _) | (with_reducible refine Ext.undrew ?_) | (with_reducible refine Ext.grow ?_ _) | (with_reducible refine Ext.drew ?_) | (with_reducible refine Ext.drewN ?_ _) | (with_reducible refine Ext.alloc ?_ _) | (with_reducible assumption) | ((with_reducible refine Ext.setCell ?_ ?_ _); rotate_left; (first | exact Nat.le_refl _ | (dsimp only; simp only [World.size_alloc, grow_size, World.size_setCell]; omega)))))⟩
  · by_cases hE : moveE ⟨t0, b0, tp0, at0, pm0, ty0⟩ = 0
    · cases ht0 : t0
      · subst ht0
        have hX := move_eq (n := a2) hE
        dsimp only at hX
        go_enter Try.func5, Try.ntmps5
        go_wp2_with (first | (go_at_call 10; refine (head _).mono ?_; rintro e w1 ⟨rfl, hy⟩; obtain ⟨d, rfl⟩ := hy.grown; clear hy) | (go_at_call 27; refine (rcapRight _ _ _ _ _ _ _).mono ?_; rintro e w1 ⟨rfl, hy⟩; obtain ⟨d, rfl⟩ := hy.grown; clear hy) | (go_at_call 28; refine (rcapUnderC _ _ _ _ _ _ _ _ _ _ _ _ _).mono ?_; rintro e w1 ⟨rfl, hy⟩; obtain ⟨d, rfl⟩ := hy.grown; clear hy) | (go_at_call 15; refine (move_ _ _ _ _ _ _ _ _).mono ?_; rintro e w1 ⟨rfl, hy⟩; obtain ⟨d, rfl⟩ := hy.grown; clear hy))
        all_goals go_ret
        all_goals exact ⟨rfl, (by repeat (first | (with_reducible exact Ext.refl _) | (with_reducible refine Ext.undrew ?_) | (with_reducible refine Ext.grow ?_ _) | (with_reducible refine Ext.drew ?_) | (with_reducible refine Ext.drewN ?_ _) | (with_reducible refine Ext.alloc ?_ _) | (with_reducible assumption) | ((with_reducible refine Ext.setCell ?_ ?_ _); rotate_left; (first | exact Nat.le_refl _ | (dsimp only; simp only [World.size_alloc, grow_size, World.size_setCell]; omega)))))⟩
      · subst ht0
        obtain ⟨ht, ho, hr, hu⟩ := move_ok (n := a2) hE rfl (by omega) (by omega)
        obtain ⟨⟨xt, xb, xtp, xa, xp, xty⟩, hX⟩ : ∃ X, moveC ⟨true, b0, tp0, at0, pm0, ty0⟩ a2 = X := ⟨_, rfl⟩
        rw [hX] at ht hr hu
        dsimp only at ht
        subst ht
        clear ho
        go_enter Try.func5, Try.ntmps5
        go_wp2_with (first | (go_at_call 10; refine (head _).mono ?_; rintro e w1 ⟨rfl, hy⟩; obtain ⟨d, rfl⟩ := hy.grown; clear hy) | (go_at_call 27; refine (rcapRight _ _ _ _ _ _ _).mono ?_; rintro e w1 ⟨rfl, hy⟩; obtain ⟨d, rfl⟩ := hy.grown; clear hy) | (go_at_call 28; refine (rcapUnderC _ _ _ _ _ _ _ _ _ _ _ _ _).mono ?_; rintro e w1 ⟨rfl, hy⟩; obtain ⟨d, rfl⟩ := hy.grown; clear hy) | (go_at_call 15; refine (move_ _ _ _ _ _ _ _ _).mono ?_; rintro e w1 ⟨rfl, hy⟩; obtain ⟨d, rfl⟩ := hy.grown; clear hy))
        all_goals go_ret
        all_goals exact ⟨rfl, (by repeat (first | (with_reducible exact Ext.refl _) | (with_reducible refine Ext.undrew ?_) | (with_reducible refine Ext.grow ?_ _) | (with_reducible refine Ext.drew ?_) | (with_reducible refine Ext.drewN ?_ _) | (with_reducible refine Ext.alloc ?_ _) | (with_reducible assumption) | ((with_reducible refine Ext.setCell ?_ ?_ _); rotate_left; (first | exact Nat.le_refl _ | (dsimp only; simp only [World.size_alloc, grow_size, World.size_setCell]; omega)))))⟩
    · have hX : moveC ⟨t0, b0, tp0, at0, pm0, ty0⟩ a2 = ⟨false, 0, 0, 0, 0, 0⟩ := madeC_bad hE
      go_enter Try.func5, Try.ntmps5
      go_wp2_with (first | (go_at_call 10; refine (head _).mono ?_; rintro e w1 ⟨rfl, hy⟩; obtain ⟨d, rfl⟩ := hy.grown; clear hy) | (go_at_call 27; refine (rcapRight _ _ _ _ _ _ _).mono ?_; rintro e w1 ⟨rfl, hy⟩; obtain ⟨d, rfl⟩ := hy.grown; clear hy) | (go_at_call 28; refine (rcapUnderC _ _ _ _ _ _ _ _ _ _ _ _ _).mono ?_; rintro e w1 ⟨rfl, hy⟩; obtain ⟨d, rfl⟩ := hy.grown; clear hy) | (go_at_call 15; refine (move_ _ _ _ _ _ _ _ _).mono ?_; rintro e w1 ⟨rfl, hy⟩; obtain ⟨d, rfl⟩ := hy.grown; clear hy))
      all_goals go_ret
      all_goals exact ⟨rfl, (by repeat (first | (with_reducible exact Ext.refl _) | (with_reducible refine Ext.undrew ?_) | (with_reducible refine Ext.grow ?_ _) | (with_reducible refine Ext.drew ?_) | (with_reducible refine Ext.drewN ?_ _) | (with_reducible refine Ext.alloc ?_ _) | (with_reducible assumption) | ((with_reducible refine Ext.setCell ?_ ?_ _); rotate_left; (first | exact Nat.le_refl _ | (dsimp only; simp only [World.size_alloc, grow_size, World.size_setCell]; omega)))))⟩
  · by_cases hE : sealE ⟨t0, b0, tp0, at0, pm0, ty0⟩ ⟨t1, b1, tp1, at1, pm1, ty1⟩ = 0
    · obtain ⟨he, ht, ho, hr, hu⟩ := seal_ok hE
      clear he
      obtain ⟨⟨xt, xb, xtp, xa, xp, xty⟩, hX⟩ : ∃ X, sealC ⟨t0, b0, tp0, at0, pm0, ty0⟩ ⟨t1, b1, tp1, at1, pm1, ty1⟩ = X := ⟨_, rfl⟩
      rw [hX] at ht hr hu
      dsimp only at ht ho
      subst ht ho
      go_enter Try.func5, Try.ntmps5
      go_wp2_with (first | (go_at_call 10; refine (head _).mono ?_; rintro e w1 ⟨rfl, hy⟩; obtain ⟨d, rfl⟩ := hy.grown; clear hy) | (go_at_call 27; refine (rcapRight _ _ _ _ _ _ _).mono ?_; rintro e w1 ⟨rfl, hy⟩; obtain ⟨d, rfl⟩ := hy.grown; clear hy) | (go_at_call 28; refine (rcapUnderC _ _ _ _ _ _ _ _ _ _ _ _ _).mono ?_; rintro e w1 ⟨rfl, hy⟩; obtain ⟨d, rfl⟩ := hy.grown; clear hy) | (go_at_call 19; refine (seal_ _ _ _ _ _ _ _ _ _ _ _ _ _).mono ?_; rintro e w1 ⟨rfl, hy⟩; obtain ⟨d, rfl⟩ := hy.grown; clear hy))
      all_goals go_ret
      all_goals exact ⟨rfl, (by repeat (first | (with_reducible exact Ext.refl _) | (with_reducible refine Ext.undrew ?_) | (with_reducible refine Ext.grow ?_ _) | (with_reducible refine Ext.drew ?_) | (with_reducible refine Ext.drewN ?_ _) | (with_reducible refine Ext.alloc ?_ _) | (with_reducible assumption) | ((with_reducible refine Ext.setCell ?_ ?_ _); rotate_left; (first | exact Nat.le_refl _ | (dsimp only; simp only [World.size_alloc, grow_size, World.size_setCell]; omega)))))⟩
    · have hX : sealC ⟨t0, b0, tp0, at0, pm0, ty0⟩ ⟨t1, b1, tp1, at1, pm1, ty1⟩ = ⟨false, 0, 0, 0, 0, 0⟩ := madeC_bad hE
      go_enter Try.func5, Try.ntmps5
      go_wp2_with (first | (go_at_call 10; refine (head _).mono ?_; rintro e w1 ⟨rfl, hy⟩; obtain ⟨d, rfl⟩ := hy.grown; clear hy) | (go_at_call 27; refine (rcapRight _ _ _ _ _ _ _).mono ?_; rintro e w1 ⟨rfl, hy⟩; obtain ⟨d, rfl⟩ := hy.grown; clear hy) | (go_at_call 28; refine (rcapUnderC _ _ _ _ _ _ _ _ _ _ _ _ _).mono ?_; rintro e w1 ⟨rfl, hy⟩; obtain ⟨d, rfl⟩ := hy.grown; clear hy) | (go_at_call 19; refine (seal_ _ _ _ _ _ _ _ _ _ _ _ _ _).mono ?_; rintro e w1 ⟨rfl, hy⟩; obtain ⟨d, rfl⟩ := hy.grown; clear hy))
      all_goals go_ret
      all_goals exact ⟨rfl, (by repeat (first | (with_reducible exact Ext.refl _) | (with_reducible refine Ext.undrew ?_) | (with_reducible refine Ext.grow ?_ _) | (with_reducible refine Ext.drew ?_) | (with_reducible refine Ext.drewN ?_ _) | (with_reducible refine Ext.alloc ?_ _) | (with_reducible assumption) | ((with_reducible refine Ext.setCell ?_ ?_ _); rotate_left; (first | exact Nat.le_refl _ | (dsimp only; simp only [World.size_alloc, grow_size, World.size_setCell]; omega)))))⟩
  · by_cases hE : unsealE ⟨t0, b0, tp0, at0, pm0, ty0⟩ ⟨t1, b1, tp1, at1, pm1, ty1⟩ = 0
    · obtain ⟨he, ht, ho, hr, hu⟩ := unseal_ok hE
      clear he
      obtain ⟨⟨xt, xb, xtp, xa, xp, xty⟩, hX⟩ : ∃ X, unsealC ⟨t0, b0, tp0, at0, pm0, ty0⟩ ⟨t1, b1, tp1, at1, pm1, ty1⟩ = X := ⟨_, rfl⟩
      rw [hX] at ht hr hu
      dsimp only at ht ho
      subst ht ho
      go_enter Try.func5, Try.ntmps5
      go_wp2_with (first | (go_at_call 10; refine (head _).mono ?_; rintro e w1 ⟨rfl, hy⟩; obtain ⟨d, rfl⟩ := hy.grown; clear hy) | (go_at_call 27; refine (rcapRight _ _ _ _ _ _ _).mono ?_; rintro e w1 ⟨rfl, hy⟩; obtain ⟨d, rfl⟩ := hy.grown; clear hy) | (go_at_call 28; refine (rcapUnderC _ _ _ _ _ _ _ _ _ _ _ _ _).mono ?_; rintro e w1 ⟨rfl, hy⟩; obtain ⟨d, rfl⟩ := hy.grown; clear hy) | (go_at_call 21; refine (unseal_ _ _ _ _ _ _ _ _ _ _ _ _ _).mono ?_; rintro e w1 ⟨rfl, hy⟩; obtain ⟨d, rfl⟩ := hy.grown; clear hy))
      all_goals go_ret
      all_goals exact ⟨rfl, (by repeat (first | (with_reducible exact Ext.refl _) | (with_reducible refine Ext.undrew ?_) | (with_reducible refine Ext.grow ?_ _) | (with_reducible refine Ext.drew ?_) | (with_reducible refine Ext.drewN ?_ _) | (with_reducible refine Ext.alloc ?_ _) | (with_reducible assumption) | ((with_reducible refine Ext.setCell ?_ ?_ _); rotate_left; (first | exact Nat.le_refl _ | (dsimp only; simp only [World.size_alloc, grow_size, World.size_setCell]; omega)))))⟩
    · have hX : unsealC ⟨t0, b0, tp0, at0, pm0, ty0⟩ ⟨t1, b1, tp1, at1, pm1, ty1⟩ = ⟨false, 0, 0, 0, 0, 0⟩ := madeC_bad hE
      go_enter Try.func5, Try.ntmps5
      go_wp2_with (first | (go_at_call 10; refine (head _).mono ?_; rintro e w1 ⟨rfl, hy⟩; obtain ⟨d, rfl⟩ := hy.grown; clear hy) | (go_at_call 27; refine (rcapRight _ _ _ _ _ _ _).mono ?_; rintro e w1 ⟨rfl, hy⟩; obtain ⟨d, rfl⟩ := hy.grown; clear hy) | (go_at_call 28; refine (rcapUnderC _ _ _ _ _ _ _ _ _ _ _ _ _).mono ?_; rintro e w1 ⟨rfl, hy⟩; obtain ⟨d, rfl⟩ := hy.grown; clear hy) | (go_at_call 21; refine (unseal_ _ _ _ _ _ _ _ _ _ _ _ _ _).mono ?_; rintro e w1 ⟨rfl, hy⟩; obtain ⟨d, rfl⟩ := hy.grown; clear hy))
      all_goals go_ret
      all_goals exact ⟨rfl, (by repeat (first | (with_reducible exact Ext.refl _) | (with_reducible refine Ext.undrew ?_) | (with_reducible refine Ext.grow ?_ _) | (with_reducible refine Ext.drew ?_) | (with_reducible refine Ext.drewN ?_ _) | (with_reducible refine Ext.alloc ?_ _) | (with_reducible assumption) | ((with_reducible refine Ext.setCell ?_ ?_ _); rotate_left; (first | exact Nat.le_refl _ | (dsimp only; simp only [World.size_alloc, grow_size, World.size_setCell]; omega)))))⟩
  · by_cases hE : enterE ⟨t0, b0, tp0, at0, pm0, ty0⟩ = 0
    · obtain ⟨he, ht, ho, hr, hu⟩ := enter_ok hE
      clear he
      obtain ⟨⟨xt, xb, xtp, xa, xp, xty⟩, hX⟩ : ∃ X, enterC ⟨t0, b0, tp0, at0, pm0, ty0⟩ = X := ⟨_, rfl⟩
      rw [hX] at ht hr hu
      dsimp only at ht ho
      subst ht ho
      go_enter Try.func5, Try.ntmps5
      go_wp2_with (first | (go_at_call 10; refine (head _).mono ?_; rintro e w1 ⟨rfl, hy⟩; obtain ⟨d, rfl⟩ := hy.grown; clear hy) | (go_at_call 27; refine (rcapRight _ _ _ _ _ _ _).mono ?_; rintro e w1 ⟨rfl, hy⟩; obtain ⟨d, rfl⟩ := hy.grown; clear hy) | (go_at_call 28; refine (rcapUnderC _ _ _ _ _ _ _ _ _ _ _ _ _).mono ?_; rintro e w1 ⟨rfl, hy⟩; obtain ⟨d, rfl⟩ := hy.grown; clear hy) | (go_at_call 23; refine (enter_ _ _ _ _ _ _ _).mono ?_; rintro e w1 ⟨rfl, hy⟩; obtain ⟨d, rfl⟩ := hy.grown; clear hy))
      all_goals go_ret
      all_goals exact ⟨rfl, (by repeat (first | (with_reducible exact Ext.refl _) | (with_reducible refine Ext.undrew ?_) | (with_reducible refine Ext.grow ?_ _) | (with_reducible refine Ext.drew ?_) | (with_reducible refine Ext.drewN ?_ _) | (with_reducible refine Ext.alloc ?_ _) | (with_reducible assumption) | ((with_reducible refine Ext.setCell ?_ ?_ _); rotate_left; (first | exact Nat.le_refl _ | (dsimp only; simp only [World.size_alloc, grow_size, World.size_setCell]; omega)))))⟩
    · have hX : enterC ⟨t0, b0, tp0, at0, pm0, ty0⟩ = ⟨false, 0, 0, 0, 0, 0⟩ := madeC_bad hE
      go_enter Try.func5, Try.ntmps5
      go_wp2_with (first | (go_at_call 10; refine (head _).mono ?_; rintro e w1 ⟨rfl, hy⟩; obtain ⟨d, rfl⟩ := hy.grown; clear hy) | (go_at_call 27; refine (rcapRight _ _ _ _ _ _ _).mono ?_; rintro e w1 ⟨rfl, hy⟩; obtain ⟨d, rfl⟩ := hy.grown; clear hy) | (go_at_call 28; refine (rcapUnderC _ _ _ _ _ _ _ _ _ _ _ _ _).mono ?_; rintro e w1 ⟨rfl, hy⟩; obtain ⟨d, rfl⟩ := hy.grown; clear hy) | (go_at_call 23; refine (enter_ _ _ _ _ _ _ _).mono ?_; rintro e w1 ⟨rfl, hy⟩; obtain ⟨d, rfl⟩ := hy.grown; clear hy))
      all_goals go_ret
      all_goals exact ⟨rfl, (by repeat (first | (with_reducible exact Ext.refl _) | (with_reducible refine Ext.undrew ?_) | (with_reducible refine Ext.grow ?_ _) | (with_reducible refine Ext.drew ?_) | (with_reducible refine Ext.drewN ?_ _) | (with_reducible refine Ext.alloc ?_ _) | (with_reducible assumption) | ((with_reducible refine Ext.setCell ?_ ?_ _); rotate_left; (first | exact Nat.le_refl _ | (dsimp only; simp only [World.size_alloc, grow_size, World.size_setCell]; omega)))))⟩
  · by_cases hE : buildE ⟨t0, b0, tp0, at0, pm0, ty0⟩ ⟨t1, b1, tp1, at1, pm1, ty1⟩ = 0
    · obtain ⟨he, ht, ho, hr, hu⟩ := build_ok hE
      clear he
      obtain ⟨⟨xt, xb, xtp, xa, xp, xty⟩, hX⟩ : ∃ X, buildC ⟨t0, b0, tp0, at0, pm0, ty0⟩ ⟨t1, b1, tp1, at1, pm1, ty1⟩ = X := ⟨_, rfl⟩
      rw [hX] at ht hr hu
      dsimp only at ht ho
      subst ht ho
      go_enter Try.func5, Try.ntmps5
      go_wp2_with (first | (go_at_call 10; refine (head _).mono ?_; rintro e w1 ⟨rfl, hy⟩; obtain ⟨d, rfl⟩ := hy.grown; clear hy) | (go_at_call 27; refine (rcapRight _ _ _ _ _ _ _).mono ?_; rintro e w1 ⟨rfl, hy⟩; obtain ⟨d, rfl⟩ := hy.grown; clear hy) | (go_at_call 28; refine (rcapUnderC _ _ _ _ _ _ _ _ _ _ _ _ _).mono ?_; rintro e w1 ⟨rfl, hy⟩; obtain ⟨d, rfl⟩ := hy.grown; clear hy) | (go_at_call 25; refine (build_ _ _ _ _ _ _ _ _ _ _ _ _ _).mono ?_; rintro e w1 ⟨rfl, hy⟩; obtain ⟨d, rfl⟩ := hy.grown; clear hy))
      all_goals go_ret
      all_goals exact ⟨rfl, (by repeat (first | (with_reducible exact Ext.refl _) | (with_reducible refine Ext.undrew ?_) | (with_reducible refine Ext.grow ?_ _) | (with_reducible refine Ext.drew ?_) | (with_reducible refine Ext.drewN ?_ _) | (with_reducible refine Ext.alloc ?_ _) | (with_reducible assumption) | ((with_reducible refine Ext.setCell ?_ ?_ _); rotate_left; (first | exact Nat.le_refl _ | (dsimp only; simp only [World.size_alloc, grow_size, World.size_setCell]; omega)))))⟩
    · have hX : buildC ⟨t0, b0, tp0, at0, pm0, ty0⟩ ⟨t1, b1, tp1, at1, pm1, ty1⟩ = ⟨false, 0, 0, 0, 0, 0⟩ := madeC_bad hE
      go_enter Try.func5, Try.ntmps5
      go_wp2_with (first | (go_at_call 10; refine (head _).mono ?_; rintro e w1 ⟨rfl, hy⟩; obtain ⟨d, rfl⟩ := hy.grown; clear hy) | (go_at_call 27; refine (rcapRight _ _ _ _ _ _ _).mono ?_; rintro e w1 ⟨rfl, hy⟩; obtain ⟨d, rfl⟩ := hy.grown; clear hy) | (go_at_call 28; refine (rcapUnderC _ _ _ _ _ _ _ _ _ _ _ _ _).mono ?_; rintro e w1 ⟨rfl, hy⟩; obtain ⟨d, rfl⟩ := hy.grown; clear hy) | (go_at_call 25; refine (build_ _ _ _ _ _ _ _ _ _ _ _ _ _).mono ?_; rintro e w1 ⟨rfl, hy⟩; obtain ⟨d, rfl⟩ := hy.grown; clear hy))
      all_goals go_ret
      all_goals exact ⟨rfl, (by repeat (first | (with_reducible exact Ext.refl _) | (with_reducible refine Ext.undrew ?_) | (with_reducible refine Ext.grow ?_ _) | (with_reducible refine Ext.drew ?_) | (with_reducible refine Ext.drewN ?_ _) | (with_reducible refine Ext.alloc ?_ _) | (with_reducible assumption) | ((with_reducible refine Ext.setCell ?_ ?_ _); rotate_left; (first | exact Nat.le_refl _ | (dsimp only; simp only [World.size_alloc, grow_size, World.size_setCell]; omega)))))⟩
end deriveLess
end Go.Proofs.Ytnakimlicedogaa
