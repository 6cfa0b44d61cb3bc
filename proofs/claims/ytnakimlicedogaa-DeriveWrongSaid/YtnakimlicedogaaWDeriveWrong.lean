/- The walk of the law DeriveWrong. -/
import Derived.Test.YtnakimlicedogaaHead04
import Derived.Test.YtnakimlicedogaaRef4
import Derived.Test.YtnakimlicedogaaDerM
namespace Go.Proofs.Ytnakimlicedogaa
set_option linter.unusedSimpArgs false
set_option linter.unusedVariables false
open Go.RowKit

theorem wpList_quiet {P : Program} {ops : Array Oper} {C : World → Prop} {Q' : Exit → Act → World → Prop} : ∀ (l : List Oper) (a : Act) (w : World), C w → wpQuiet P ops C (fun a' => ∀ w', C w' → Q' .normal a' w') l a → wpList P ops Q' l a w
  | [], _, w, hC, h => h w hC
  | o :: r, a, w, hC, h => by
    unfold wpList
    unfold wpQuiet at h
    split
    · rename_i hw
      rw [if_pos hw] at h
      exact .inl (Oper.wp_of_quiet hC (fun a w' hc hk => wpList_quiet r a w' hc hk) h)
    · rename_i hw
      rw [if_neg hw] at h
      exact wpList_quiet r _ w hC h
/-- A region in the order of the text, whose operations only read: the quiet walk. -/
theorem wp_region_still {P : Program} {id : Nat} {Q : Exit → Act → World → Prop} {a : Act} {w : World} {l l' : List Oper} (hl : l = l')
    (h : wpQuiet P l'.toArray (fun w' => w' = w) (fun a' => ∀ w', w' = w → Q .normal a' w') l' a) : (Code.region id l.toArray false).wp P Q a w := by
  subst hl
  exact wp_region_lit (wpList_quiet (C := fun w' => w' = w) l a w rfl h)
namespace deriveWrong
set_option maxRecDepth 100000 in
set_option maxHeartbeats 40000000 in
theorem wA (b0 tp0 at0 pm0 ty0 : Int) (t1 : Bool) (b1 tp1 at1 pm1 ty1 : Int) (a2 : Int) (h0 : rightC ⟨false, b0, tp0, at0, pm0, ty0⟩ = true) (w : World) :
    Calls Try.prog 8 #[.agg #[.bool false, .int .i64 b0, .int .i64 tp0, .int .i64 at0, .int .i64 pm0, .int .i64 ty0], .agg #[.bool t1, .int .i64 b1, .int .i64 tp1, .int .i64 at1, .int .i64 pm1, .int .i64 ty1], .int .i64 a2] w fun e w' => e = .returned (.bool true) ∧ Ext w w' := by
  have hu : useE ⟨false, b0, tp0, at0, pm0, ty0⟩ = 41 := useE_untagged h0 rfl
  have hu0 : useE ⟨false, b0, tp0, at0, pm0, ty0⟩ ≠ 0 := by rw [hu]; decide
  have e1 : boundsE ⟨false, b0, tp0, at0, pm0, ty0⟩ a2 = 41 := by rw [boundsE_use hu0, hu]
  have e2 : permsE ⟨false, b0, tp0, at0, pm0, ty0⟩ a2 = 41 := by rw [permsE_use hu0, hu]
  have e3 : sealE ⟨false, b0, tp0, at0, pm0, ty0⟩ ⟨t1, b1, tp1, at1, pm1, ty1⟩ = 41 := by rw [sealE_use hu0, hu]
  have e4 : enterE ⟨false, b0, tp0, at0, pm0, ty0⟩ = 41 := by rw [enterE_use hu0, hu]
  clear hu0
  obtain ⟨⟨x1t, x1b, x1tp, x1a, x1p, x1y⟩, hx1⟩ : ∃ X, boundsC ⟨false, b0, tp0, at0, pm0, ty0⟩ a2 = X := ⟨_, rfl⟩
  obtain ⟨⟨x2t, x2b, x2tp, x2a, x2p, x2y⟩, hx2⟩ : ∃ X, permsC ⟨false, b0, tp0, at0, pm0, ty0⟩ a2 = X := ⟨_, rfl⟩
  obtain ⟨⟨x3t, x3b, x3tp, x3a, x3p, x3y⟩, hx3⟩ : ∃ X, sealC ⟨false, b0, tp0, at0, pm0, ty0⟩ ⟨t1, b1, tp1, at1, pm1, ty1⟩ = X := ⟨_, rfl⟩
  obtain ⟨⟨x4t, x4b, x4tp, x4a, x4p, x4y⟩, hx4⟩ : ∃ X, enterC ⟨false, b0, tp0, at0, pm0, ty0⟩ = X := ⟨_, rfl⟩
  have e5 : moveE ⟨false, b0, tp0, at0, pm0, ty0⟩ = 0 := moveE0.2 ⟨h0, fun h => by cases h⟩
  have e6 := move_eq (n := a2) e5
  dsimp only at e6
  have e7 : unsealE ⟨false, b0, tp0, at0, pm0, ty0⟩ ⟨t1, b1, tp1, at1, pm1, ty1⟩ = 41 := by simp [unsealE, firstE, mustE, h0]
  obtain ⟨⟨x5t, x5b, x5tp, x5a, x5p, x5y⟩, hx5⟩ : ∃ X, unsealC ⟨false, b0, tp0, at0, pm0, ty0⟩ ⟨t1, b1, tp1, at1, pm1, ty1⟩ = X := ⟨_, rfl⟩
  go_enter Try.func8, Try.ntmps8
  go_upto_region 13 with (first | (go_at_call 10; refine (head _).mono ?_; rintro e w1 ⟨rfl, hy⟩; obtain ⟨d, rfl⟩ := hy.grown; clear hy) | (go_at_call 27; refine (rcapRight _ _ _ _ _ _ _).mono ?_; rintro e w1 ⟨rfl, hy⟩; obtain ⟨d, rfl⟩ := hy.grown; clear hy) | (go_at_call 11; refine (bounds_ _ _ _ _ _ _ _ _).mono ?_; rintro e w1 ⟨rfl, hy⟩; obtain ⟨d, rfl⟩ := hy.grown; clear hy) | (go_at_call 13; refine (perms_ _ _ _ _ _ _ _ _).mono ?_; rintro e w1 ⟨rfl, hy⟩; obtain ⟨d, rfl⟩ := hy.grown; clear hy) | (go_at_call 19; refine (seal_ _ _ _ _ _ _ _ _ _ _ _ _ _).mono ?_; rintro e w1 ⟨rfl, hy⟩; obtain ⟨d, rfl⟩ := hy.grown; clear hy) | (go_at_call 23; refine (enter_ _ _ _ _ _ _ _).mono ?_; rintro e w1 ⟨rfl, hy⟩; obtain ⟨d, rfl⟩ := hy.grown; clear hy) | (go_at_call 15; refine (move_ _ _ _ _ _ _ _ _).mono ?_; rintro e w1 ⟨rfl, hy⟩; obtain ⟨d, rfl⟩ := hy.grown; clear hy) | (go_at_call 21; refine (unseal_ _ _ _ _ _ _ _ _ _ _ _ _ _).mono ?_; rintro e w1 ⟨rfl, hy⟩; obtain ⟨d, rfl⟩ := hy.grown; clear hy))
  refine wp_region_still (by first | (simp only [List.append]; rfl) | rfl) ?_
  repeat (go_big_quiet_step (fail))
  refine wpQuiet_nil ?_
  rintro _ rfl
  go_wp2
  all_goals go_ret
  all_goals exact ⟨rfl, (by repeat (first | (with_reducible exact Ext.refl _) | (with_reducible refine Ext.undrew ?_) | (with_reducible refine Ext.grow ?_ _) | (with_reducible refine Ext.drew ?_) | (with_reducible refine Ext.drewN ?_ _) | (with_reducible refine Ext.alloc ?_ _) | (with_reducible assumption) | ((with_reducible refine Ext.setCell ?_ ?_ _); rotate_left; (first | exact Nat.le_refl _ | (dsimp only; simp only [World.size_alloc, grow_size, World.size_setCell]; omega)))))⟩
set_option maxRecDepth 100000 in
set_option maxHeartbeats 40000000 in
theorem wC (b0 tp0 at0 pm0 ty0 : Int) (t1 : Bool) (b1 tp1 at1 pm1 ty1 : Int) (a2 : Int) (h0 : rightC ⟨true, b0, tp0, at0, pm0, ty0⟩ = true) (hy : ¬ ty0 = 0) (hE : unsealE ⟨true, b0, tp0, at0, pm0, ty0⟩ ⟨t1, b1, tp1, at1, pm1, ty1⟩ = 0) (w : World) :
    Calls Try.prog 8 #[.agg #[.bool true, .int .i64 b0, .int .i64 tp0, .int .i64 at0, .int .i64 pm0, .int .i64 ty0], .agg #[.bool t1, .int .i64 b1, .int .i64 tp1, .int .i64 at1, .int .i64 pm1, .int .i64 ty1], .int .i64 a2] w fun e w' => e = .returned (.bool true) ∧ Ext w w' := by
  have hy1 : (ty0 == 0) = false := by simpa using hy
  have hu : useE ⟨true, b0, tp0, at0, pm0, ty0⟩ = 42 := useE_sealed h0 rfl hy
  have hu0 : useE ⟨true, b0, tp0, at0, pm0, ty0⟩ ≠ 0 := by rw [hu]; decide
  have e1 : boundsE ⟨true, b0, tp0, at0, pm0, ty0⟩ a2 = 42 := by rw [boundsE_use hu0, hu]
  have e2 : permsE ⟨true, b0, tp0, at0, pm0, ty0⟩ a2 = 42 := by rw [permsE_use hu0, hu]
  have e3 : sealE ⟨true, b0, tp0, at0, pm0, ty0⟩ ⟨t1, b1, tp1, at1, pm1, ty1⟩ = 42 := by rw [sealE_use hu0, hu]
  have e4 : enterE ⟨true, b0, tp0, at0, pm0, ty0⟩ = 42 := by rw [enterE_use hu0, hu]
  clear hu0
  obtain ⟨⟨x1t, x1b, x1tp, x1a, x1p, x1y⟩, hx1⟩ : ∃ X, boundsC ⟨true, b0, tp0, at0, pm0, ty0⟩ a2 = X := ⟨_, rfl⟩
  obtain ⟨⟨x2t, x2b, x2tp, x2a, x2p, x2y⟩, hx2⟩ : ∃ X, permsC ⟨true, b0, tp0, at0, pm0, ty0⟩ a2 = X := ⟨_, rfl⟩
  obtain ⟨⟨x3t, x3b, x3tp, x3a, x3p, x3y⟩, hx3⟩ : ∃ X, sealC ⟨true, b0, tp0, at0, pm0, ty0⟩ ⟨t1, b1, tp1, at1, pm1, ty1⟩ = X := ⟨_, rfl⟩
  obtain ⟨⟨x4t, x4b, x4tp, x4a, x4p, x4y⟩, hx4⟩ : ∃ X, enterC ⟨true, b0, tp0, at0, pm0, ty0⟩ = X := ⟨_, rfl⟩
  have e5 : moveE ⟨true, b0, tp0, at0, pm0, ty0⟩ = 42 := by simp [moveE, firstE, mustE, h0, hy]
  obtain ⟨⟨x5t, x5b, x5tp, x5a, x5p, x5y⟩, hx5⟩ : ∃ X, moveC ⟨true, b0, tp0, at0, pm0, ty0⟩ a2 = X := ⟨_, rfl⟩
  have hX := (unseal_ok hE).1
  dsimp only at hX
  go_enter Try.func8, Try.ntmps8
  go_upto_region 13 with (first | (go_at_call 10; refine (head _).mono ?_; rintro e w1 ⟨rfl, hy⟩; obtain ⟨d, rfl⟩ := hy.grown; clear hy) | (go_at_call 27; refine (rcapRight _ _ _ _ _ _ _).mono ?_; rintro e w1 ⟨rfl, hy⟩; obtain ⟨d, rfl⟩ := hy.grown; clear hy) | (go_at_call 11; refine (bounds_ _ _ _ _ _ _ _ _).mono ?_; rintro e w1 ⟨rfl, hy⟩; obtain ⟨d, rfl⟩ := hy.grown; clear hy) | (go_at_call 13; refine (perms_ _ _ _ _ _ _ _ _).mono ?_; rintro e w1 ⟨rfl, hy⟩; obtain ⟨d, rfl⟩ := hy.grown; clear hy) | (go_at_call 19; refine (seal_ _ _ _ _ _ _ _ _ _ _ _ _ _).mono ?_; rintro e w1 ⟨rfl, hy⟩; obtain ⟨d, rfl⟩ := hy.grown; clear hy) | (go_at_call 23; refine (enter_ _ _ _ _ _ _ _).mono ?_; rintro e w1 ⟨rfl, hy⟩; obtain ⟨d, rfl⟩ := hy.grown; clear hy) | (go_at_call 15; refine (move_ _ _ _ _ _ _ _ _).mono ?_; rintro e w1 ⟨rfl, hy⟩; obtain ⟨d, rfl⟩ := hy.grown; clear hy) | (go_at_call 21; refine (unseal_ _ _ _ _ _ _ _ _ _ _ _ _ _).mono ?_; rintro e w1 ⟨rfl, hy⟩; obtain ⟨d, rfl⟩ := hy.grown; clear hy))
  refine wp_region_still (by first | (simp only [List.append]; rfl) | rfl) ?_
  repeat (go_big_quiet_step (fail))
  refine wpQuiet_nil ?_
  rintro _ rfl
  go_wp2
  all_goals go_ret
  all_goals exact ⟨rfl, (by repeat (first | (with_reducible exact Ext.refl _) | (with_reducible refine Ext.undrew ?_) | (with_reducible refine Ext.grow ?_ _) | (with_reducible refine Ext.drew ?_) | (with_reducible refine Ext.drewN ?_ _) | (with_reducible refine Ext.alloc ?_ _) | (with_reducible assumption) | ((with_reducible refine Ext.setCell ?_ ?_ _); rotate_left; (first | exact Nat.le_refl _ | (dsimp only; simp only [World.size_alloc, grow_size, World.size_setCell]; omega)))))⟩
set_option maxRecDepth 100000 in
set_option maxHeartbeats 40000000 in
theorem wD (b0 tp0 at0 pm0 ty0 : Int) (t1 : Bool) (b1 tp1 at1 pm1 ty1 : Int) (a2 : Int) (h0 : rightC ⟨true, b0, tp0, at0, pm0, ty0⟩ = true) (hy : ¬ ty0 = 0) (hE : ¬ unsealE ⟨true, b0, tp0, at0, pm0, ty0⟩ ⟨t1, b1, tp1, at1, pm1, ty1⟩ = 0) (w : World) :
    Calls Try.prog 8 #[.agg #[.bool true, .int .i64 b0, .int .i64 tp0, .int .i64 at0, .int .i64 pm0, .int .i64 ty0], .agg #[.bool t1, .int .i64 b1, .int .i64 tp1, .int .i64 at1, .int .i64 pm1, .int .i64 ty1], .int .i64 a2] w fun e w' => e = .returned (.bool true) ∧ Ext w w' := by
  have hy1 : (ty0 == 0) = false := by simpa using hy
  have hu : useE ⟨true, b0, tp0, at0, pm0, ty0⟩ = 42 := useE_sealed h0 rfl hy
  have hu0 : useE ⟨true, b0, tp0, at0, pm0, ty0⟩ ≠ 0 := by rw [hu]; decide
  have e1 : boundsE ⟨true, b0, tp0, at0, pm0, ty0⟩ a2 = 42 := by rw [boundsE_use hu0, hu]
  have e2 : permsE ⟨true, b0, tp0, at0, pm0, ty0⟩ a2 = 42 := by rw [permsE_use hu0, hu]
  have e3 : sealE ⟨true, b0, tp0, at0, pm0, ty0⟩ ⟨t1, b1, tp1, at1, pm1, ty1⟩ = 42 := by rw [sealE_use hu0, hu]
  have e4 : enterE ⟨true, b0, tp0, at0, pm0, ty0⟩ = 42 := by rw [enterE_use hu0, hu]
  clear hu0
  obtain ⟨⟨x1t, x1b, x1tp, x1a, x1p, x1y⟩, hx1⟩ : ∃ X, boundsC ⟨true, b0, tp0, at0, pm0, ty0⟩ a2 = X := ⟨_, rfl⟩
  obtain ⟨⟨x2t, x2b, x2tp, x2a, x2p, x2y⟩, hx2⟩ : ∃ X, permsC ⟨true, b0, tp0, at0, pm0, ty0⟩ a2 = X := ⟨_, rfl⟩
  obtain ⟨⟨x3t, x3b, x3tp, x3a, x3p, x3y⟩, hx3⟩ : ∃ X, sealC ⟨true, b0, tp0, at0, pm0, ty0⟩ ⟨t1, b1, tp1, at1, pm1, ty1⟩ = X := ⟨_, rfl⟩
  obtain ⟨⟨x4t, x4b, x4tp, x4a, x4p, x4y⟩, hx4⟩ : ∃ X, enterC ⟨true, b0, tp0, at0, pm0, ty0⟩ = X := ⟨_, rfl⟩
  have e5 : moveE ⟨true, b0, tp0, at0, pm0, ty0⟩ = 42 := by simp [moveE, firstE, mustE, h0, hy]
  obtain ⟨⟨x5t, x5b, x5tp, x5a, x5p, x5y⟩, hx5⟩ : ∃ X, moveC ⟨true, b0, tp0, at0, pm0, ty0⟩ a2 = X := ⟨_, rfl⟩
  have hE1 : (unsealE ⟨true, b0, tp0, at0, pm0, ty0⟩ ⟨t1, b1, tp1, at1, pm1, ty1⟩ != 0) = true := by simpa using hE
  obtain ⟨⟨x6t, x6b, x6tp, x6a, x6p, x6y⟩, hx6⟩ : ∃ X, unsealC ⟨true, b0, tp0, at0, pm0, ty0⟩ ⟨t1, b1, tp1, at1, pm1, ty1⟩ = X := ⟨_, rfl⟩
  go_enter Try.func8, Try.ntmps8
  go_upto_region 13 with (first | (go_at_call 10; refine (head _).mono ?_; rintro e w1 ⟨rfl, hy⟩; obtain ⟨d, rfl⟩ := hy.grown; clear hy) | (go_at_call 27; refine (rcapRight _ _ _ _ _ _ _).mono ?_; rintro e w1 ⟨rfl, hy⟩; obtain ⟨d, rfl⟩ := hy.grown; clear hy) | (go_at_call 11; refine (bounds_ _ _ _ _ _ _ _ _).mono ?_; rintro e w1 ⟨rfl, hy⟩; obtain ⟨d, rfl⟩ := hy.grown; clear hy) | (go_at_call 13; refine (perms_ _ _ _ _ _ _ _ _).mono ?_; rintro e w1 ⟨rfl, hy⟩; obtain ⟨d, rfl⟩ := hy.grown; clear hy) | (go_at_call 19; refine (seal_ _ _ _ _ _ _ _ _ _ _ _ _ _).mono ?_; rintro e w1 ⟨rfl, hy⟩; obtain ⟨d, rfl⟩ := hy.grown; clear hy) | (go_at_call 23; refine (enter_ _ _ _ _ _ _ _).mono ?_; rintro e w1 ⟨rfl, hy⟩; obtain ⟨d, rfl⟩ := hy.grown; clear hy) | (go_at_call 15; refine (move_ _ _ _ _ _ _ _ _).mono ?_; rintro e w1 ⟨rfl, hy⟩; obtain ⟨d, rfl⟩ := hy.grown; clear hy) | (go_at_call 21; refine (unseal_ _ _ _ _ _ _ _ _ _ _ _ _ _).mono ?_; rintro e w1 ⟨rfl, hy⟩; obtain ⟨d, rfl⟩ := hy.grown; clear hy))
  refine wp_region_still (by first | (simp only [List.append]; rfl) | rfl) ?_
  repeat (go_big_quiet_step (fail))
  refine wpQuiet_nil ?_
  rintro _ rfl
  go_wp2
  all_goals go_ret
  all_goals exact ⟨rfl, (by repeat (first | (with_reducible exact Ext.refl _) | (with_reducible refine Ext.undrew ?_) | (with_reducible refine Ext.grow ?_ _) | (with_reducible refine Ext.drew ?_) | (with_reducible refine Ext.drewN ?_ _) | (with_reducible refine Ext.alloc ?_ _) | (with_reducible assumption) | ((with_reducible refine Ext.setCell ?_ ?_ _); rotate_left; (first | exact Nat.le_refl _ | (dsimp only; simp only [World.size_alloc, grow_size, World.size_setCell]; omega)))))⟩
set_option maxRecDepth 100000 in
set_option maxHeartbeats 40000000 in
theorem walk (t0 : Bool) (b0 tp0 at0 pm0 ty0 : Int) (t1 : Bool) (b1 tp1 at1 pm1 ty1 : Int) (a2 : Int) (wb0 : (Lit.int .i64 b0).wf = true) (wtp0 : (Lit.int .i64 tp0).wf = true) (wat0 : (Lit.int .i64 at0).wf = true) (wpm0 : (Lit.int .i64 pm0).wf = true) (wty0 : (Lit.int .i64 ty0).wf = true) (wb1 : (Lit.int .i64 b1).wf = true) (wtp1 : (Lit.int .i64 tp1).wf = true) (wat1 : (Lit.int .i64 at1).wf = true) (wpm1 : (Lit.int .i64 pm1).wf = true) (wty1 : (Lit.int .i64 ty1).wf = true) (w2 : (Lit.int .i64 a2).wf = true) (w : World) :
    Calls Try.prog 8 #[.agg #[.bool t0, .int .i64 b0, .int .i64 tp0, .int .i64 at0, .int .i64 pm0, .int .i64 ty0], .agg #[.bool t1, .int .i64 b1, .int .i64 tp1, .int .i64 at1, .int .i64 pm1, .int .i64 ty1], .int .i64 a2] w fun e w' => e = .returned (.bool true) ∧ Ext w w' := by
  clear w2 wb0 wtp0 wat0 wpm0 wty0 wb1 wtp1 wat1 wpm1 wty1
  cases h0 : rightC ⟨t0, b0, tp0, at0, pm0, ty0⟩
  · go_enter Try.func8, Try.ntmps8
    go_wp2_with (first | (go_at_call 10; refine (head _).mono ?_; rintro e w1 ⟨rfl, hy⟩; obtain ⟨d, rfl⟩ := hy.grown; clear hy) | (go_at_call 27; refine (rcapRight _ _ _ _ _ _ _).mono ?_; rintro e w1 ⟨rfl, hy⟩; obtain ⟨d, rfl⟩ := hy.grown; clear hy))
    all_goals go_ret
    all_goals exact ⟨rfl, (by repeat (first | (with_reducible exact Ext.refl _) | (with_reducible refine Ext.undrew ?_) | (with_reducible refine Ext.grow ?_ _) | (with_reducible refine Ext.drew ?_) | (with_reducible refine Ext.drewN ?_ _) | (with_reducible refine Ext.alloc ?_ _) | (with_reducible assumption) | ((with_reducible refine Ext.setCell ?_ ?_ _); rotate_left; (first | exact Nat.le_refl _ | (dsimp only; simp only [World.size_alloc, grow_size, World.size_setCell]; omega)))))⟩
  · cases ht : t0
    · subst ht
      exact wA _ _ _ _ _ _ _ _ _ _ _ _ h0 w
    · subst ht
      by_cases hy : ty0 = 0
      · subst hy
        go_enter Try.func8, Try.ntmps8
        go_wp2_with (first | (go_at_call 10; refine (head _).mono ?_; rintro e w1 ⟨rfl, hy⟩; obtain ⟨d, rfl⟩ := hy.grown; clear hy) | (go_at_call 27; refine (rcapRight _ _ _ _ _ _ _).mono ?_; rintro e w1 ⟨rfl, hy⟩; obtain ⟨d, rfl⟩ := hy.grown; clear hy))
        go_ret
        exact ⟨rfl, (by repeat (first | (with_reducible exact Ext.refl _) | (with_reducible refine Ext.undrew ?_) | (with_reducible refine Ext.grow ?_ _) | (with_reducible refine Ext.drew ?_) | (with_reducible refine Ext.drewN ?_ _) | (with_reducible refine Ext.alloc ?_ _) | (with_reducible assumption) | ((with_reducible refine Ext.setCell ?_ ?_ _); rotate_left; (first | exact Nat.le_refl _ | (dsimp only; simp only [World.size_alloc, grow_size, World.size_setCell]; omega)))))⟩
      · by_cases hE : unsealE ⟨true, b0, tp0, at0, pm0, ty0⟩ ⟨t1, b1, tp1, at1, pm1, ty1⟩ = 0
        · exact wC _ _ _ _ _ _ _ _ _ _ _ _ h0 hy hE w
        · exact wD _ _ _ _ _ _ _ _ _ _ _ _ h0 hy hE w
end deriveWrong
end Go.Proofs.Ytnakimlicedogaa
