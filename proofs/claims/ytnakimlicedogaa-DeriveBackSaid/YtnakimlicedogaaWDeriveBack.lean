/- The walk of the law DeriveBack. -/
import Derived.Test.YtnakimlicedogaaHead04
import Derived.Test.YtnakimlicedogaaRef4
import Derived.Test.YtnakimlicedogaaDerM
namespace Go.Proofs.Ytnakimlicedogaa
set_option linter.unusedSimpArgs false
set_option linter.unusedVariables false
open Go.RowKit

namespace deriveBack
set_option maxRecDepth 100000 in
set_option maxHeartbeats 8000000 in
theorem walk (t0 : Bool) (b0 tp0 at0 pm0 ty0 : Int) (t1 : Bool) (b1 tp1 at1 pm1 ty1 : Int) (t2 : Bool) (b2 tp2 at2 pm2 ty2 : Int) (wb0 : (Lit.int .i64 b0).wf = true) (wtp0 : (Lit.int .i64 tp0).wf = true) (wat0 : (Lit.int .i64 at0).wf = true) (wpm0 : (Lit.int .i64 pm0).wf = true) (wty0 : (Lit.int .i64 ty0).wf = true) (wb1 : (Lit.int .i64 b1).wf = true) (wtp1 : (Lit.int .i64 tp1).wf = true) (wat1 : (Lit.int .i64 at1).wf = true) (wpm1 : (Lit.int .i64 pm1).wf = true) (wty1 : (Lit.int .i64 ty1).wf = true) (wb2 : (Lit.int .i64 b2).wf = true) (wtp2 : (Lit.int .i64 tp2).wf = true) (wat2 : (Lit.int .i64 at2).wf = true) (wpm2 : (Lit.int .i64 pm2).wf = true) (wty2 : (Lit.int .i64 ty2).wf = true) (w : World) :
    Calls Try.prog 6 #[.agg #[.bool t0, .int .i64 b0, .int .i64 tp0, .int .i64 at0, .int .i64 pm0, .int .i64 ty0], .agg #[.bool t1, .int .i64 b1, .int .i64 tp1, .int .i64 at1, .int .i64 pm1, .int .i64 ty1], .agg #[.bool t2, .int .i64 b2, .int .i64 tp2, .int .i64 at2, .int .i64 pm2, .int .i64 ty2]] w fun e w' => e = .returned (.bool true) ∧ Ext w w' := by
  clear wb0 wtp0 wat0 wpm0 wty0 wb1 wtp1 wat1 wpm1 wty1 wb2 wtp2 wat2 wpm2 wty2
  by_cases hE : sealE ⟨t0, b0, tp0, at0, pm0, ty0⟩ ⟨t1, b1, tp1, at1, pm1, ty1⟩ = 0
  · obtain ⟨hS, hT, ho, hR, hU⟩ := seal_ok hE
    obtain ⟨hu, ha⟩ := sealE0.1 hE
    obtain ⟨hr, _, hy⟩ := useE0.1 hu
    obtain ⟨_, _, _, a1, a2⟩ := authE0.1 ha
    rw [hS] at hR
    dsimp only at ho hy hS hR a1 a2
    subst ho hy
    clear hT hU hu ha hr
    have hk : (1 < at1 ∧ at1 ≤ 255) := ⟨a1, a2⟩
    have hB := back_iff (d := ⟨t2, b2, tp2, at2, pm2, ty2⟩) hR rfl hk
    dsimp only at hB
    have hk0 : at1 ≠ 0 := by omega
    have hu2 := useE_sealed hR rfl hk0
    have g1 : sealE ⟨true, b0, tp0, at0, pm0, at1⟩ ⟨t1, b1, tp1, at1, pm1, ty1⟩ = 42 := by rw [sealE_use (by rw [hu2]; decide), hu2]
    have g2 : enterE ⟨true, b0, tp0, at0, pm0, at1⟩ = 42 := by rw [enterE_use (by rw [hu2]; decide), hu2]
    clear hu2 hk hk0 a1 a2
    by_cases q0 : rightC ⟨t2, b2, tp2, at2, pm2, ty2⟩ = true
    · by_cases q1 : t2 = true
      · subst q1
        by_cases q2 : ty2 = 0
        · subst q2
          by_cases q3 : 64 ≤ pm2
          · by_cases q4 : inC ⟨true, b2, tp2, at2, pm2, 0⟩ at2 1 = true
            · by_cases q5 : at2 = at1
              · subst q5
                have hF : unsealE ⟨true, b0, tp0, at0, pm0, at2⟩ ⟨true, b2, tp2, at2, pm2, 0⟩ = 0 := hB.2 ⟨q0, rfl, rfl, q3, q4, rfl⟩
                have hX := (unseal_ok hF).1
                dsimp only at hX
                clear hB hR
                go_enter Try.func6, Try.ntmps6
                go_wp2_with (first | (go_at_call 10; refine (head _).mono ?_; rintro e w1 ⟨rfl, hy⟩; obtain ⟨d, rfl⟩ := hy.grown; clear hy) | (go_at_call 27; refine (rcapRight _ _ _ _ _ _ _).mono ?_; rintro e w1 ⟨rfl, hy⟩; obtain ⟨d, rfl⟩ := hy.grown; clear hy) | (go_at_call 29; refine (rcapInC _ _ _ _ _ _ _ _ _).mono ?_; rintro e w1 ⟨rfl, hy⟩; obtain ⟨d, rfl⟩ := hy.grown; clear hy) | (go_at_call 19; refine (seal_ _ _ _ _ _ _ _ _ _ _ _ _ _).mono ?_; rintro e w1 ⟨rfl, hy⟩; obtain ⟨d, rfl⟩ := hy.grown; clear hy) | (go_at_call 21; refine (unseal_ _ _ _ _ _ _ _ _ _ _ _ _ _).mono ?_; rintro e w1 ⟨rfl, hy⟩; obtain ⟨d, rfl⟩ := hy.grown; clear hy) | (go_at_call 23; refine (enter_ _ _ _ _ _ _ _).mono ?_; rintro e w1 ⟨rfl, hy⟩; obtain ⟨d, rfl⟩ := hy.grown; clear hy))
                all_goals go_ret
                all_goals exact ⟨rfl, (by repeat (first | (with_reducible exact Ext.refl _) | (with_reducible refine Ext.undrew ?_) | (with_reducible refine Ext.grow ?_ _) | (with_reducible refine Ext.drew ?_) | (with_reducible refine Ext.drewN ?_ _) | (with_reducible refine Ext.alloc ?_ _) | (with_reducible assumption) | ((with_reducible refine Ext.setCell ?_ ?_ _); rotate_left; (first | exact Nat.le_refl _ | (dsimp only; simp only [World.size_alloc, grow_size, World.size_setCell]; omega)))))⟩
              · have hF : ¬ unsealE ⟨true, b0, tp0, at0, pm0, at1⟩ ⟨true, b2, tp2, at2, pm2, 0⟩ = 0 := fun h => q5 (hB.1 h).2.2.2.2.2
                have hF1 : (unsealE ⟨true, b0, tp0, at0, pm0, at1⟩ ⟨true, b2, tp2, at2, pm2, 0⟩ == 0) = false := by simpa using hF
                have q51 : (at2 == at1) = false := by simpa using q5
                clear hB hR
                go_enter Try.func6, Try.ntmps6
                go_wp2_with (first | (go_at_call 10; refine (head _).mono ?_; rintro e w1 ⟨rfl, hy⟩; obtain ⟨d, rfl⟩ := hy.grown; clear hy) | (go_at_call 27; refine (rcapRight _ _ _ _ _ _ _).mono ?_; rintro e w1 ⟨rfl, hy⟩; obtain ⟨d, rfl⟩ := hy.grown; clear hy) | (go_at_call 29; refine (rcapInC _ _ _ _ _ _ _ _ _).mono ?_; rintro e w1 ⟨rfl, hy⟩; obtain ⟨d, rfl⟩ := hy.grown; clear hy) | (go_at_call 19; refine (seal_ _ _ _ _ _ _ _ _ _ _ _ _ _).mono ?_; rintro e w1 ⟨rfl, hy⟩; obtain ⟨d, rfl⟩ := hy.grown; clear hy) | (go_at_call 21; refine (unseal_ _ _ _ _ _ _ _ _ _ _ _ _ _).mono ?_; rintro e w1 ⟨rfl, hy⟩; obtain ⟨d, rfl⟩ := hy.grown; clear hy) | (go_at_call 23; refine (enter_ _ _ _ _ _ _ _).mono ?_; rintro e w1 ⟨rfl, hy⟩; obtain ⟨d, rfl⟩ := hy.grown; clear hy))
                all_goals go_ret
                all_goals exact ⟨rfl, (by repeat (first | (with_reducible exact Ext.refl _) | (with_reducible refine Ext.undrew ?_) | (with_reducible refine Ext.grow ?_ _) | (with_reducible refine Ext.drew ?_) | (with_reducible refine Ext.drewN ?_ _) | (with_reducible refine Ext.alloc ?_ _) | (with_reducible assumption) | ((with_reducible refine Ext.setCell ?_ ?_ _); rotate_left; (first | exact Nat.le_refl _ | (dsimp only; simp only [World.size_alloc, grow_size, World.size_setCell]; omega)))))⟩
            · have hF : ¬ unsealE ⟨true, b0, tp0, at0, pm0, at1⟩ ⟨true, b2, tp2, at2, pm2, 0⟩ = 0 := fun h => q4 (hB.1 h).2.2.2.2.1
              have hF1 : (unsealE ⟨true, b0, tp0, at0, pm0, at1⟩ ⟨true, b2, tp2, at2, pm2, 0⟩ == 0) = false := by simpa using hF
              clear hB hR
              go_enter Try.func6, Try.ntmps6
              go_wp2_with (first | (go_at_call 10; refine (head _).mono ?_; rintro e w1 ⟨rfl, hy⟩; obtain ⟨d, rfl⟩ := hy.grown; clear hy) | (go_at_call 27; refine (rcapRight _ _ _ _ _ _ _).mono ?_; rintro e w1 ⟨rfl, hy⟩; obtain ⟨d, rfl⟩ := hy.grown; clear hy) | (go_at_call 29; refine (rcapInC _ _ _ _ _ _ _ _ _).mono ?_; rintro e w1 ⟨rfl, hy⟩; obtain ⟨d, rfl⟩ := hy.grown; clear hy) | (go_at_call 19; refine (seal_ _ _ _ _ _ _ _ _ _ _ _ _ _).mono ?_; rintro e w1 ⟨rfl, hy⟩; obtain ⟨d, rfl⟩ := hy.grown; clear hy) | (go_at_call 21; refine (unseal_ _ _ _ _ _ _ _ _ _ _ _ _ _).mono ?_; rintro e w1 ⟨rfl, hy⟩; obtain ⟨d, rfl⟩ := hy.grown; clear hy) | (go_at_call 23; refine (enter_ _ _ _ _ _ _ _).mono ?_; rintro e w1 ⟨rfl, hy⟩; obtain ⟨d, rfl⟩ := hy.grown; clear hy))
              all_goals go_ret
              all_goals exact ⟨rfl, (by repeat (first | (with_reducible exact Ext.refl _) | (with_reducible refine Ext.undrew ?_) | (with_reducible refine Ext.grow ?_ _) | (with_reducible refine Ext.drew ?_) | (with_reducible refine Ext.drewN ?_ _) | (with_reducible refine Ext.alloc ?_ _) | (with_reducible assumption) | ((with_reducible refine Ext.setCell ?_ ?_ _); rotate_left; (first | exact Nat.le_refl _ | (dsimp only; simp only [World.size_alloc, grow_size, World.size_setCell]; omega)))))⟩
          · have hF : ¬ unsealE ⟨true, b0, tp0, at0, pm0, at1⟩ ⟨true, b2, tp2, at2, pm2, 0⟩ = 0 := fun h => q3 (hB.1 h).2.2.2.1
            have hF1 : (unsealE ⟨true, b0, tp0, at0, pm0, at1⟩ ⟨true, b2, tp2, at2, pm2, 0⟩ == 0) = false := by simpa using hF
            clear hB hR
            go_enter Try.func6, Try.ntmps6
            go_wp2_with (first | (go_at_call 10; refine (head _).mono ?_; rintro e w1 ⟨rfl, hy⟩; obtain ⟨d, rfl⟩ := hy.grown; clear hy) | (go_at_call 27; refine (rcapRight _ _ _ _ _ _ _).mono ?_; rintro e w1 ⟨rfl, hy⟩; obtain ⟨d, rfl⟩ := hy.grown; clear hy) | (go_at_call 29; refine (rcapInC _ _ _ _ _ _ _ _ _).mono ?_; rintro e w1 ⟨rfl, hy⟩; obtain ⟨d, rfl⟩ := hy.grown; clear hy) | (go_at_call 19; refine (seal_ _ _ _ _ _ _ _ _ _ _ _ _ _).mono ?_; rintro e w1 ⟨rfl, hy⟩; obtain ⟨d, rfl⟩ := hy.grown; clear hy) | (go_at_call 21; refine (unseal_ _ _ _ _ _ _ _ _ _ _ _ _ _).mono ?_; rintro e w1 ⟨rfl, hy⟩; obtain ⟨d, rfl⟩ := hy.grown; clear hy) | (go_at_call 23; refine (enter_ _ _ _ _ _ _ _).mono ?_; rintro e w1 ⟨rfl, hy⟩; obtain ⟨d, rfl⟩ := hy.grown; clear hy))
            all_goals go_ret
            all_goals exact ⟨rfl, (by repeat (first | (with_reducible exact Ext.refl _) | (with_reducible refine Ext.undrew ?_) | (with_reducible refine Ext.grow ?_ _) | (with_reducible refine Ext.drew ?_) | (with_reducible refine Ext.drewN ?_ _) | (with_reducible refine Ext.alloc ?_ _) | (with_reducible assumption) | ((with_reducible refine Ext.setCell ?_ ?_ _); rotate_left; (first | exact Nat.le_refl _ | (dsimp only; simp only [World.size_alloc, grow_size, World.size_setCell]; omega)))))⟩
        · have hF : ¬ unsealE ⟨true, b0, tp0, at0, pm0, at1⟩ ⟨true, b2, tp2, at2, pm2, ty2⟩ = 0 := fun h => q2 (hB.1 h).2.2.1
          have hF1 : (unsealE ⟨true, b0, tp0, at0, pm0, at1⟩ ⟨true, b2, tp2, at2, pm2, ty2⟩ == 0) = false := by simpa using hF
          have q21 : (ty2 == 0) = false := by simpa using q2
          clear hB hR
          go_enter Try.func6, Try.ntmps6
          go_wp2_with (first | (go_at_call 10; refine (head _).mono ?_; rintro e w1 ⟨rfl, hy⟩; obtain ⟨d, rfl⟩ := hy.grown; clear hy) | (go_at_call 27; refine (rcapRight _ _ _ _ _ _ _).mono ?_; rintro e w1 ⟨rfl, hy⟩; obtain ⟨d, rfl⟩ := hy.grown; clear hy) | (go_at_call 29; refine (rcapInC _ _ _ _ _ _ _ _ _).mono ?_; rintro e w1 ⟨rfl, hy⟩; obtain ⟨d, rfl⟩ := hy.grown; clear hy) | (go_at_call 19; refine (seal_ _ _ _ _ _ _ _ _ _ _ _ _ _).mono ?_; rintro e w1 ⟨rfl, hy⟩; obtain ⟨d, rfl⟩ := hy.grown; clear hy) | (go_at_call 21; refine (unseal_ _ _ _ _ _ _ _ _ _ _ _ _ _).mono ?_; rintro e w1 ⟨rfl, hy⟩; obtain ⟨d, rfl⟩ := hy.grown; clear hy) | (go_at_call 23; refine (enter_ _ _ _ _ _ _ _).mono ?_; rintro e w1 ⟨rfl, hy⟩; obtain ⟨d, rfl⟩ := hy.grown; clear hy))
          all_goals go_ret
          all_goals exact ⟨rfl, (by repeat (first | (with_reducible exact Ext.refl _) | (with_reducible refine Ext.undrew ?_) | (with_reducible refine Ext.grow ?_ _) | (with_reducible refine Ext.drew ?_) | (with_reducible refine Ext.drewN ?_ _) | (with_reducible refine Ext.alloc ?_ _) | (with_reducible assumption) | ((with_reducible refine Ext.setCell ?_ ?_ _); rotate_left; (first | exact Nat.le_refl _ | (dsimp only; simp only [World.size_alloc, grow_size, World.size_setCell]; omega)))))⟩
      · have hF : ¬ unsealE ⟨true, b0, tp0, at0, pm0, at1⟩ ⟨t2, b2, tp2, at2, pm2, ty2⟩ = 0 := fun h => q1 (hB.1 h).2.1
        have hF1 : (unsealE ⟨true, b0, tp0, at0, pm0, at1⟩ ⟨t2, b2, tp2, at2, pm2, ty2⟩ == 0) = false := by simpa using hF
        have q1' : t2 = false := by simpa using q1
        subst q1'
        clear hB hR q1
        go_enter Try.func6, Try.ntmps6
        go_wp2_with (first | (go_at_call 10; refine (head _).mono ?_; rintro e w1 ⟨rfl, hy⟩; obtain ⟨d, rfl⟩ := hy.grown; clear hy) | (go_at_call 27; refine (rcapRight _ _ _ _ _ _ _).mono ?_; rintro e w1 ⟨rfl, hy⟩; obtain ⟨d, rfl⟩ := hy.grown; clear hy) | (go_at_call 29; refine (rcapInC _ _ _ _ _ _ _ _ _).mono ?_; rintro e w1 ⟨rfl, hy⟩; obtain ⟨d, rfl⟩ := hy.grown; clear hy) | (go_at_call 19; refine (seal_ _ _ _ _ _ _ _ _ _ _ _ _ _).mono ?_; rintro e w1 ⟨rfl, hy⟩; obtain ⟨d, rfl⟩ := hy.grown; clear hy) | (go_at_call 21; refine (unseal_ _ _ _ _ _ _ _ _ _ _ _ _ _).mono ?_; rintro e w1 ⟨rfl, hy⟩; obtain ⟨d, rfl⟩ := hy.grown; clear hy) | (go_at_call 23; refine (enter_ _ _ _ _ _ _ _).mono ?_; rintro e w1 ⟨rfl, hy⟩; obtain ⟨d, rfl⟩ := hy.grown; clear hy))
        all_goals go_ret
        all_goals exact ⟨rfl, (by repeat (first | (with_reducible exact Ext.refl _) | (with_reducible refine Ext.undrew ?_) | (with_reducible refine Ext.grow ?_ _) | (with_reducible refine Ext.drew ?_) | (with_reducible refine Ext.drewN ?_ _) | (with_reducible refine Ext.alloc ?_ _) | (with_reducible assumption) | ((with_reducible refine Ext.setCell ?_ ?_ _); rotate_left; (first | exact Nat.le_refl _ | (dsimp only; simp only [World.size_alloc, grow_size, World.size_setCell]; omega)))))⟩
    · have hF : ¬ unsealE ⟨true, b0, tp0, at0, pm0, at1⟩ ⟨t2, b2, tp2, at2, pm2, ty2⟩ = 0 := fun h => q0 (hB.1 h).1
      have hF1 : (unsealE ⟨true, b0, tp0, at0, pm0, at1⟩ ⟨t2, b2, tp2, at2, pm2, ty2⟩ == 0) = false := by simpa using hF
      have q0' : rightC ⟨t2, b2, tp2, at2, pm2, ty2⟩ = false := by simpa using q0
      clear hB hR q0
      go_enter Try.func6, Try.ntmps6
      go_wp2_with (first | (go_at_call 10; refine (head _).mono ?_; rintro e w1 ⟨rfl, hy⟩; obtain ⟨d, rfl⟩ := hy.grown; clear hy) | (go_at_call 27; refine (rcapRight _ _ _ _ _ _ _).mono ?_; rintro e w1 ⟨rfl, hy⟩; obtain ⟨d, rfl⟩ := hy.grown; clear hy) | (go_at_call 29; refine (rcapInC _ _ _ _ _ _ _ _ _).mono ?_; rintro e w1 ⟨rfl, hy⟩; obtain ⟨d, rfl⟩ := hy.grown; clear hy) | (go_at_call 19; refine (seal_ _ _ _ _ _ _ _ _ _ _ _ _ _).mono ?_; rintro e w1 ⟨rfl, hy⟩; obtain ⟨d, rfl⟩ := hy.grown; clear hy) | (go_at_call 21; refine (unseal_ _ _ _ _ _ _ _ _ _ _ _ _ _).mono ?_; rintro e w1 ⟨rfl, hy⟩; obtain ⟨d, rfl⟩ := hy.grown; clear hy) | (go_at_call 23; refine (enter_ _ _ _ _ _ _ _).mono ?_; rintro e w1 ⟨rfl, hy⟩; obtain ⟨d, rfl⟩ := hy.grown; clear hy))
      all_goals go_ret
      all_goals exact ⟨rfl, (by repeat (first | (with_reducible exact Ext.refl _) | (with_reducible refine Ext.undrew ?_) | (with_reducible refine Ext.grow ?_ _) | (with_reducible refine Ext.drew ?_) | (with_reducible refine Ext.drewN ?_ _) | (with_reducible refine Ext.alloc ?_ _) | (with_reducible assumption) | ((with_reducible refine Ext.setCell ?_ ?_ _); rotate_left; (first | exact Nat.le_refl _ | (dsimp only; simp only [World.size_alloc, grow_size, World.size_setCell]; omega)))))⟩
  · go_enter Try.func6, Try.ntmps6
    go_wp2_with (first | (go_at_call 10; refine (head _).mono ?_; rintro e w1 ⟨rfl, hy⟩; obtain ⟨d, rfl⟩ := hy.grown; clear hy) | (go_at_call 19; refine (seal_ _ _ _ _ _ _ _ _ _ _ _ _ _).mono ?_; rintro e w1 ⟨rfl, hy⟩; obtain ⟨d, rfl⟩ := hy.grown; clear hy))
    all_goals go_ret
    all_goals exact ⟨rfl, (by repeat (first | (with_reducible exact Ext.refl _) | (with_reducible refine Ext.undrew ?_) | (with_reducible refine Ext.grow ?_ _) | (with_reducible refine Ext.drew ?_) | (with_reducible refine Ext.drewN ?_ _) | (with_reducible refine Ext.alloc ?_ _) | (with_reducible assumption) | ((with_reducible refine Ext.setCell ?_ ?_ _); rotate_left; (first | exact Nat.le_refl _ | (dsimp only; simp only [World.size_alloc, grow_size, World.size_setCell]; omega)))))⟩
end deriveBack
end Go.Proofs.Ytnakimlicedogaa
