/- The document's own answers of layer 4: told by the code's own words. -/
import Derived.Test.YtnakimlicedogaaSame2
import Derived.Test.YtnakimlicedogaaDer
namespace Go.Proofs.Ytnakimlicedogaa
set_option linter.unusedSimpArgs false
set_option linter.unusedVariables false
open Go.RowKit

set_option maxHeartbeats 400000 in
theorem rused (t : Bool) (b tp a p ty : Int) (w : World) :
    Calls Try.prog 35 #[.agg #[.bool t, .int .i64 b, .int .i64 tp, .int .i64 a, .int .i64 p, .int .i64 ty]] w fun e w' => e = .returned (.int .i64 (useE ⟨t, b, tp, a, p, ty⟩)) ∧ Ext w w' := by
  go_enter Try.func35, Try.ntmps35
  go_wp2_with (go_at_call 27; refine (rcapRight _ _ _ _ _ _ _).mono ?_; rintro e w1 ⟨rfl, hy⟩; obtain ⟨d, rfl⟩ := hy.grown; clear hy)
  all_goals go_ret
  all_goals refine ⟨?_, (by repeat (first | (with_reducible exact Ext.refl _) | (with_reducible refine Ext.undrew ?_) | (with_reducible refine Ext.grow ?_ _) | (with_reducible refine Ext.drew ?_) | (with_reducible refine Ext.drewN ?_ _) | (with_reducible refine Ext.alloc ?_ _) | (with_reducible assumption) | ((with_reducible refine Ext.setCell ?_ ?_ _); rotate_left; (first | exact Nat.le_refl _ | (dsimp only; simp only [World.size_alloc, grow_size, World.size_setCell]; omega)))))⟩
  all_goals (go_tidy; simp_all [useE])

theorem authE_at (c : Cap) (p : Int) : authE c p = if useE c ≠ 0 then useE c else if hasB c.perms p = false then 44 else if inC c c.at_ 1 = false then 43 else if c.at_ < 2 ∨ c.at_ > 255 then 45 else 0 := by
  unfold authE
  by_cases h1 : useE c = 0 <;> cases h2 : hasB c.perms p <;> cases h3 : inC c c.at_ 1 <;> by_cases h4 : 1 < c.at_ <;> by_cases h5 : c.at_ ≤ 255 <;> simp [firstE, mustE, h1, h2, h3, h4, h5] <;> omega

set_option maxHeartbeats 1000000 in
theorem rauthority (t : Bool) (b tp a p ty : Int) (pp : Int) (w : World) :
    Calls Try.prog 43 #[.agg #[.bool t, .int .i64 b, .int .i64 tp, .int .i64 a, .int .i64 p, .int .i64 ty], .int .i64 pp] w fun e w' => e = .returned (.int .i64 (authE ⟨t, b, tp, a, p, ty⟩ pp)) ∧ Ext w w' := by
  go_enter Try.func43, Try.ntmps43
  go_wp2_with (first | (go_at_call 35; refine (rused _ _ _ _ _ _ _).mono ?_; rintro e w1 ⟨rfl, hy⟩; obtain ⟨d, rfl⟩ := hy.grown; clear hy) | (go_at_call 45; refine (rhasB _ _ _).mono ?_; rintro e w1 ⟨rfl, rfl⟩) | (go_at_call 29; refine (rcapInC _ _ _ _ _ _ _ _ _).mono ?_; rintro e w1 ⟨rfl, hy⟩; obtain ⟨d, rfl⟩ := hy.grown; clear hy))
  all_goals go_ret
  all_goals refine ⟨?_, (by repeat (first | (with_reducible exact Ext.refl _) | (with_reducible refine Ext.undrew ?_) | (with_reducible refine Ext.grow ?_ _) | (with_reducible refine Ext.drew ?_) | (with_reducible refine Ext.drewN ?_ _) | (with_reducible refine Ext.alloc ?_ _) | (with_reducible assumption) | ((with_reducible refine Ext.setCell ?_ ?_ _); rotate_left; (first | exact Nat.le_refl _ | (dsimp only; simp only [World.size_alloc, grow_size, World.size_setCell]; omega)))))⟩
  all_goals (go_tidy; rw [authE_at]; simp_all <;> omega)

set_option maxRecDepth 100000 in
set_option maxHeartbeats 2000000 in
theorem rbounds (t : Bool) (b tp a p ty : Int) (n : Int) (w : World) :
    Calls Try.prog 12 #[.agg #[.bool t, .int .i64 b, .int .i64 tp, .int .i64 a, .int .i64 p, .int .i64 ty], .int .i64 n] w fun e w' => e = .returned (.tuple #[.agg #[.bool (boundsC ⟨t, b, tp, a, p, ty⟩ n).tag, .int .i64 (boundsC ⟨t, b, tp, a, p, ty⟩ n).base, .int .i64 (boundsC ⟨t, b, tp, a, p, ty⟩ n).top, .int .i64 (boundsC ⟨t, b, tp, a, p, ty⟩ n).at_, .int .i64 (boundsC ⟨t, b, tp, a, p, ty⟩ n).perms, .int .i64 (boundsC ⟨t, b, tp, a, p, ty⟩ n).type], .int .i64 (boundsE ⟨t, b, tp, a, p, ty⟩ n)]) ∧ Ext w w' := by
  go_enter Try.func12, Try.ntmps12
  go_wp2_with (first | (go_at_call 35; refine (rused _ _ _ _ _ _ _).mono ?_; rintro e w1 ⟨rfl, hy⟩; obtain ⟨d, rfl⟩ := hy.grown; clear hy) | (go_at_call 29; refine (rcapInC _ _ _ _ _ _ _ _ _).mono ?_; rintro e w1 ⟨rfl, hy⟩; obtain ⟨d, rfl⟩ := hy.grown; clear hy))
  all_goals refine bodyPost_ret (v := .tuple #[.agg #[.bool (boundsC ⟨t, b, tp, a, p, ty⟩ n).tag, .int .i64 (boundsC ⟨t, b, tp, a, p, ty⟩ n).base, .int .i64 (boundsC ⟨t, b, tp, a, p, ty⟩ n).top, .int .i64 (boundsC ⟨t, b, tp, a, p, ty⟩ n).at_, .int .i64 (boundsC ⟨t, b, tp, a, p, ty⟩ n).perms, .int .i64 (boundsC ⟨t, b, tp, a, p, ty⟩ n).type], .int .i64 (boundsE ⟨t, b, tp, a, p, ty⟩ n)]) ?_ rfl ⟨rfl, (by repeat (first | (with_reducible exact Ext.refl _) | (with_reducible refine Ext.undrew ?_) | (with_reducible refine Ext.grow ?_ _) | (with_reducible refine Ext.drew ?_) | (with_reducible refine Ext.drewN ?_ _) | (with_reducible refine Ext.alloc ?_ _) | (with_reducible assumption) | ((with_reducible refine Ext.setCell ?_ ?_ _); rotate_left; (first | exact Nat.le_refl _ | (dsimp only; simp only [World.size_alloc, grow_size, World.size_setCell]; omega)))))⟩
  all_goals go_tidy
  all_goals simp_all [results, Try.results12, go_sem, boundsC, boundsE, firstE, mustE, madeC, zeroC]

set_option maxRecDepth 100000 in
set_option maxHeartbeats 2000000 in
theorem rperms (t : Bool) (b tp a p ty : Int) (n : Int) (w : World) :
    Calls Try.prog 14 #[.agg #[.bool t, .int .i64 b, .int .i64 tp, .int .i64 a, .int .i64 p, .int .i64 ty], .int .i64 n] w fun e w' => e = .returned (.tuple #[.agg #[.bool (permsC ⟨t, b, tp, a, p, ty⟩ n).tag, .int .i64 (permsC ⟨t, b, tp, a, p, ty⟩ n).base, .int .i64 (permsC ⟨t, b, tp, a, p, ty⟩ n).top, .int .i64 (permsC ⟨t, b, tp, a, p, ty⟩ n).at_, .int .i64 (permsC ⟨t, b, tp, a, p, ty⟩ n).perms, .int .i64 (permsC ⟨t, b, tp, a, p, ty⟩ n).type], .int .i64 (permsE ⟨t, b, tp, a, p, ty⟩ n)]) ∧ Ext w w' := by
  go_enter Try.func14, Try.ntmps14
  go_wp2_with (first | (go_at_call 35; refine (rused _ _ _ _ _ _ _).mono ?_; rintro e w1 ⟨rfl, hy⟩; obtain ⟨d, rfl⟩ := hy.grown; clear hy) | (go_at_call 37; refine (rright _ _).mono ?_; rintro e w1 ⟨rfl, rfl⟩))
  all_goals refine bodyPost_ret (v := .tuple #[.agg #[.bool (permsC ⟨t, b, tp, a, p, ty⟩ n).tag, .int .i64 (permsC ⟨t, b, tp, a, p, ty⟩ n).base, .int .i64 (permsC ⟨t, b, tp, a, p, ty⟩ n).top, .int .i64 (permsC ⟨t, b, tp, a, p, ty⟩ n).at_, .int .i64 (permsC ⟨t, b, tp, a, p, ty⟩ n).perms, .int .i64 (permsC ⟨t, b, tp, a, p, ty⟩ n).type], .int .i64 (permsE ⟨t, b, tp, a, p, ty⟩ n)]) ?_ rfl ⟨rfl, (by repeat (first | (with_reducible exact Ext.refl _) | (with_reducible refine Ext.undrew ?_) | (with_reducible refine Ext.grow ?_ _) | (with_reducible refine Ext.drew ?_) | (with_reducible refine Ext.drewN ?_ _) | (with_reducible refine Ext.alloc ?_ _) | (with_reducible assumption) | ((with_reducible refine Ext.setCell ?_ ?_ _); rotate_left; (first | exact Nat.le_refl _ | (dsimp only; simp only [World.size_alloc, grow_size, World.size_setCell]; omega)))))⟩
  all_goals go_tidy
  all_goals simp_all [results, Try.results14, go_sem, permsC, permsE, firstE, mustE, madeC, zeroC]

set_option maxRecDepth 100000 in
set_option maxHeartbeats 2000000 in
theorem rmove (t : Bool) (b tp a p ty : Int) (n : Int) (w : World) (h0 : -9223372036854775808 ≤ n) (h1 : n ≤ 9223372036854775807) :
    Calls Try.prog 16 #[.agg #[.bool t, .int .i64 b, .int .i64 tp, .int .i64 a, .int .i64 p, .int .i64 ty], .int .i64 n] w fun e w' => e = .returned (.tuple #[.agg #[.bool (moveC ⟨t, b, tp, a, p, ty⟩ n).tag, .int .i64 (moveC ⟨t, b, tp, a, p, ty⟩ n).base, .int .i64 (moveC ⟨t, b, tp, a, p, ty⟩ n).top, .int .i64 (moveC ⟨t, b, tp, a, p, ty⟩ n).at_, .int .i64 (moveC ⟨t, b, tp, a, p, ty⟩ n).perms, .int .i64 (moveC ⟨t, b, tp, a, p, ty⟩ n).type], .int .i64 (moveE ⟨t, b, tp, a, p, ty⟩)]) ∧ Ext w w' := by
  go_enter Try.func16, Try.ntmps16
  go_wp2_with (first | (go_at_call 27; refine (rcapRight _ _ _ _ _ _ _).mono ?_; rintro e w1 ⟨rfl, hy⟩; obtain ⟨d, rfl⟩ := hy.grown; clear hy) | (go_at_call 41; refine (rmodL _ (by assumption) (by assumption) _).mono ?_; rintro e w1 ⟨rfl, rfl⟩))
  all_goals refine bodyPost_ret (v := .tuple #[.agg #[.bool (moveC ⟨t, b, tp, a, p, ty⟩ n).tag, .int .i64 (moveC ⟨t, b, tp, a, p, ty⟩ n).base, .int .i64 (moveC ⟨t, b, tp, a, p, ty⟩ n).top, .int .i64 (moveC ⟨t, b, tp, a, p, ty⟩ n).at_, .int .i64 (moveC ⟨t, b, tp, a, p, ty⟩ n).perms, .int .i64 (moveC ⟨t, b, tp, a, p, ty⟩ n).type], .int .i64 (moveE ⟨t, b, tp, a, p, ty⟩)]) ?_ rfl ⟨rfl, (by repeat (first | (with_reducible exact Ext.refl _) | (with_reducible refine Ext.undrew ?_) | (with_reducible refine Ext.grow ?_ _) | (with_reducible refine Ext.drew ?_) | (with_reducible refine Ext.drewN ?_ _) | (with_reducible refine Ext.alloc ?_ _) | (with_reducible assumption) | ((with_reducible refine Ext.setCell ?_ ?_ _); rotate_left; (first | exact Nat.le_refl _ | (dsimp only; simp only [World.size_alloc, grow_size, World.size_setCell]; omega)))))⟩
  all_goals go_tidy
  all_goals simp_all [results, Try.results16, go_sem, moveC, moveE, firstE, mustE, madeC, zeroC]

set_option maxHeartbeats 400000 in
theorem rclear (t : Bool) (b tp a p ty : Int) (w : World) :
    Calls Try.prog 18 #[.agg #[.bool t, .int .i64 b, .int .i64 tp, .int .i64 a, .int .i64 p, .int .i64 ty]] w fun e w' => e = .returned (.agg #[.bool (clearC ⟨t, b, tp, a, p, ty⟩).tag, .int .i64 (clearC ⟨t, b, tp, a, p, ty⟩).base, .int .i64 (clearC ⟨t, b, tp, a, p, ty⟩).top, .int .i64 (clearC ⟨t, b, tp, a, p, ty⟩).at_, .int .i64 (clearC ⟨t, b, tp, a, p, ty⟩).perms, .int .i64 (clearC ⟨t, b, tp, a, p, ty⟩).type]) ∧ Ext w w' := by
  go_enter Try.func18, Try.ntmps18
  go_wp2
  all_goals refine bodyPost_ret (v := .agg #[.bool (clearC ⟨t, b, tp, a, p, ty⟩).tag, .int .i64 (clearC ⟨t, b, tp, a, p, ty⟩).base, .int .i64 (clearC ⟨t, b, tp, a, p, ty⟩).top, .int .i64 (clearC ⟨t, b, tp, a, p, ty⟩).at_, .int .i64 (clearC ⟨t, b, tp, a, p, ty⟩).perms, .int .i64 (clearC ⟨t, b, tp, a, p, ty⟩).type]) ?_ rfl ⟨rfl, (by repeat (first | (with_reducible exact Ext.refl _) | (with_reducible refine Ext.undrew ?_) | (with_reducible refine Ext.grow ?_ _) | (with_reducible refine Ext.drew ?_) | (with_reducible refine Ext.drewN ?_ _) | (with_reducible refine Ext.alloc ?_ _) | (with_reducible assumption) | ((with_reducible refine Ext.setCell ?_ ?_ _); rotate_left; (first | exact Nat.le_refl _ | (dsimp only; simp only [World.size_alloc, grow_size, World.size_setCell]; omega)))))⟩
  all_goals (simp [results, Try.results18, go_sem, clearC]; done)

set_option maxRecDepth 100000 in
set_option maxHeartbeats 2000000 in
theorem rseal (t : Bool) (b tp a p ty : Int) (t' : Bool) (b' tp' a' p' ty' : Int) (w : World) :
    Calls Try.prog 20 #[.agg #[.bool t, .int .i64 b, .int .i64 tp, .int .i64 a, .int .i64 p, .int .i64 ty], .agg #[.bool t', .int .i64 b', .int .i64 tp', .int .i64 a', .int .i64 p', .int .i64 ty']] w fun e w' => e = .returned (.tuple #[.agg #[.bool (sealC ⟨t, b, tp, a, p, ty⟩ ⟨t', b', tp', a', p', ty'⟩).tag, .int .i64 (sealC ⟨t, b, tp, a, p, ty⟩ ⟨t', b', tp', a', p', ty'⟩).base, .int .i64 (sealC ⟨t, b, tp, a, p, ty⟩ ⟨t', b', tp', a', p', ty'⟩).top, .int .i64 (sealC ⟨t, b, tp, a, p, ty⟩ ⟨t', b', tp', a', p', ty'⟩).at_, .int .i64 (sealC ⟨t, b, tp, a, p, ty⟩ ⟨t', b', tp', a', p', ty'⟩).perms, .int .i64 (sealC ⟨t, b, tp, a, p, ty⟩ ⟨t', b', tp', a', p', ty'⟩).type], .int .i64 (sealE ⟨t, b, tp, a, p, ty⟩ ⟨t', b', tp', a', p', ty'⟩)]) ∧ Ext w w' := by
  go_enter Try.func20, Try.ntmps20
  go_wp2_with (first | (go_at_call 35; refine (rused _ _ _ _ _ _ _).mono ?_; rintro e w1 ⟨rfl, hy⟩; obtain ⟨d, rfl⟩ := hy.grown; clear hy) | (go_at_call 43; refine (rauthority _ _ _ _ _ _ _ _).mono ?_; rintro e w1 ⟨rfl, hy⟩; obtain ⟨d, rfl⟩ := hy.grown; clear hy))
  all_goals refine bodyPost_ret (v := .tuple #[.agg #[.bool (sealC ⟨t, b, tp, a, p, ty⟩ ⟨t', b', tp', a', p', ty'⟩).tag, .int .i64 (sealC ⟨t, b, tp, a, p, ty⟩ ⟨t', b', tp', a', p', ty'⟩).base, .int .i64 (sealC ⟨t, b, tp, a, p, ty⟩ ⟨t', b', tp', a', p', ty'⟩).top, .int .i64 (sealC ⟨t, b, tp, a, p, ty⟩ ⟨t', b', tp', a', p', ty'⟩).at_, .int .i64 (sealC ⟨t, b, tp, a, p, ty⟩ ⟨t', b', tp', a', p', ty'⟩).perms, .int .i64 (sealC ⟨t, b, tp, a, p, ty⟩ ⟨t', b', tp', a', p', ty'⟩).type], .int .i64 (sealE ⟨t, b, tp, a, p, ty⟩ ⟨t', b', tp', a', p', ty'⟩)]) ?_ rfl ⟨rfl, (by repeat (first | (with_reducible exact Ext.refl _) | (with_reducible refine Ext.undrew ?_) | (with_reducible refine Ext.grow ?_ _) | (with_reducible refine Ext.drew ?_) | (with_reducible refine Ext.drewN ?_ _) | (with_reducible refine Ext.alloc ?_ _) | (with_reducible assumption) | ((with_reducible refine Ext.setCell ?_ ?_ _); rotate_left; (first | exact Nat.le_refl _ | (dsimp only; simp only [World.size_alloc, grow_size, World.size_setCell]; omega)))))⟩
  all_goals go_tidy
  all_goals simp_all [results, Try.results20, go_sem, sealC, sealE, firstE, mustE, madeC, zeroC]

set_option maxRecDepth 100000 in
set_option maxHeartbeats 2000000 in
theorem runseal (t : Bool) (b tp a p ty : Int) (t' : Bool) (b' tp' a' p' ty' : Int) (w : World) :
    Calls Try.prog 22 #[.agg #[.bool t, .int .i64 b, .int .i64 tp, .int .i64 a, .int .i64 p, .int .i64 ty], .agg #[.bool t', .int .i64 b', .int .i64 tp', .int .i64 a', .int .i64 p', .int .i64 ty']] w fun e w' => e = .returned (.tuple #[.agg #[.bool (unsealC ⟨t, b, tp, a, p, ty⟩ ⟨t', b', tp', a', p', ty'⟩).tag, .int .i64 (unsealC ⟨t, b, tp, a, p, ty⟩ ⟨t', b', tp', a', p', ty'⟩).base, .int .i64 (unsealC ⟨t, b, tp, a, p, ty⟩ ⟨t', b', tp', a', p', ty'⟩).top, .int .i64 (unsealC ⟨t, b, tp, a, p, ty⟩ ⟨t', b', tp', a', p', ty'⟩).at_, .int .i64 (unsealC ⟨t, b, tp, a, p, ty⟩ ⟨t', b', tp', a', p', ty'⟩).perms, .int .i64 (unsealC ⟨t, b, tp, a, p, ty⟩ ⟨t', b', tp', a', p', ty'⟩).type], .int .i64 (unsealE ⟨t, b, tp, a, p, ty⟩ ⟨t', b', tp', a', p', ty'⟩)]) ∧ Ext w w' := by
  go_enter Try.func22, Try.ntmps22
  go_wp2_with (first | (go_at_call 27; refine (rcapRight _ _ _ _ _ _ _).mono ?_; rintro e w1 ⟨rfl, hy⟩; obtain ⟨d, rfl⟩ := hy.grown; clear hy) | (go_at_call 43; refine (rauthority _ _ _ _ _ _ _ _).mono ?_; rintro e w1 ⟨rfl, hy⟩; obtain ⟨d, rfl⟩ := hy.grown; clear hy))
  all_goals refine bodyPost_ret (v := .tuple #[.agg #[.bool (unsealC ⟨t, b, tp, a, p, ty⟩ ⟨t', b', tp', a', p', ty'⟩).tag, .int .i64 (unsealC ⟨t, b, tp, a, p, ty⟩ ⟨t', b', tp', a', p', ty'⟩).base, .int .i64 (unsealC ⟨t, b, tp, a, p, ty⟩ ⟨t', b', tp', a', p', ty'⟩).top, .int .i64 (unsealC ⟨t, b, tp, a, p, ty⟩ ⟨t', b', tp', a', p', ty'⟩).at_, .int .i64 (unsealC ⟨t, b, tp, a, p, ty⟩ ⟨t', b', tp', a', p', ty'⟩).perms, .int .i64 (unsealC ⟨t, b, tp, a, p, ty⟩ ⟨t', b', tp', a', p', ty'⟩).type], .int .i64 (unsealE ⟨t, b, tp, a, p, ty⟩ ⟨t', b', tp', a', p', ty'⟩)]) ?_ rfl ⟨rfl, (by repeat (first | (with_reducible exact Ext.refl _) | (with_reducible refine Ext.undrew ?_) | (with_reducible refine Ext.grow ?_ _) | (with_reducible refine Ext.drew ?_) | (with_reducible refine Ext.drewN ?_ _) | (with_reducible refine Ext.alloc ?_ _) | (with_reducible assumption) | ((with_reducible refine Ext.setCell ?_ ?_ _); rotate_left; (first | exact Nat.le_refl _ | (dsimp only; simp only [World.size_alloc, grow_size, World.size_setCell]; omega)))))⟩
  all_goals go_tidy
  all_goals simp_all [results, Try.results22, go_sem, unsealC, unsealE, firstE, mustE, madeC, zeroC]

set_option maxRecDepth 100000 in
set_option maxHeartbeats 2000000 in
theorem renter (t : Bool) (b tp a p ty : Int) (w : World) :
    Calls Try.prog 24 #[.agg #[.bool t, .int .i64 b, .int .i64 tp, .int .i64 a, .int .i64 p, .int .i64 ty]] w fun e w' => e = .returned (.tuple #[.agg #[.bool (enterC ⟨t, b, tp, a, p, ty⟩).tag, .int .i64 (enterC ⟨t, b, tp, a, p, ty⟩).base, .int .i64 (enterC ⟨t, b, tp, a, p, ty⟩).top, .int .i64 (enterC ⟨t, b, tp, a, p, ty⟩).at_, .int .i64 (enterC ⟨t, b, tp, a, p, ty⟩).perms, .int .i64 (enterC ⟨t, b, tp, a, p, ty⟩).type], .int .i64 (enterE ⟨t, b, tp, a, p, ty⟩)]) ∧ Ext w w' := by
  go_enter Try.func24, Try.ntmps24
  go_wp2_with (first | (go_at_call 35; refine (rused _ _ _ _ _ _ _).mono ?_; rintro e w1 ⟨rfl, hy⟩; obtain ⟨d, rfl⟩ := hy.grown; clear hy) | (go_at_call 45; refine (rhasB _ _ _).mono ?_; rintro e w1 ⟨rfl, rfl⟩))
  all_goals refine bodyPost_ret (v := .tuple #[.agg #[.bool (enterC ⟨t, b, tp, a, p, ty⟩).tag, .int .i64 (enterC ⟨t, b, tp, a, p, ty⟩).base, .int .i64 (enterC ⟨t, b, tp, a, p, ty⟩).top, .int .i64 (enterC ⟨t, b, tp, a, p, ty⟩).at_, .int .i64 (enterC ⟨t, b, tp, a, p, ty⟩).perms, .int .i64 (enterC ⟨t, b, tp, a, p, ty⟩).type], .int .i64 (enterE ⟨t, b, tp, a, p, ty⟩)]) ?_ rfl ⟨rfl, (by repeat (first | (with_reducible exact Ext.refl _) | (with_reducible refine Ext.undrew ?_) | (with_reducible refine Ext.grow ?_ _) | (with_reducible refine Ext.drew ?_) | (with_reducible refine Ext.drewN ?_ _) | (with_reducible refine Ext.alloc ?_ _) | (with_reducible assumption) | ((with_reducible refine Ext.setCell ?_ ?_ _); rotate_left; (first | exact Nat.le_refl _ | (dsimp only; simp only [World.size_alloc, grow_size, World.size_setCell]; omega)))))⟩
  all_goals go_tidy
  all_goals simp_all [results, Try.results24, go_sem, enterC, enterE, firstE, mustE, madeC, zeroC]

set_option maxRecDepth 100000 in
set_option maxHeartbeats 2000000 in
theorem rbuild (t : Bool) (b tp a p ty : Int) (t' : Bool) (b' tp' a' p' ty' : Int) (w : World) :
    Calls Try.prog 26 #[.agg #[.bool t, .int .i64 b, .int .i64 tp, .int .i64 a, .int .i64 p, .int .i64 ty], .agg #[.bool t', .int .i64 b', .int .i64 tp', .int .i64 a', .int .i64 p', .int .i64 ty']] w fun e w' => e = .returned (.tuple #[.agg #[.bool (buildC ⟨t, b, tp, a, p, ty⟩ ⟨t', b', tp', a', p', ty'⟩).tag, .int .i64 (buildC ⟨t, b, tp, a, p, ty⟩ ⟨t', b', tp', a', p', ty'⟩).base, .int .i64 (buildC ⟨t, b, tp, a, p, ty⟩ ⟨t', b', tp', a', p', ty'⟩).top, .int .i64 (buildC ⟨t, b, tp, a, p, ty⟩ ⟨t', b', tp', a', p', ty'⟩).at_, .int .i64 (buildC ⟨t, b, tp, a, p, ty⟩ ⟨t', b', tp', a', p', ty'⟩).perms, .int .i64 (buildC ⟨t, b, tp, a, p, ty⟩ ⟨t', b', tp', a', p', ty'⟩).type], .int .i64 (buildE ⟨t, b, tp, a, p, ty⟩ ⟨t', b', tp', a', p', ty'⟩)]) ∧ Ext w w' := by
  go_enter Try.func26, Try.ntmps26
  go_wp2_with (first | (go_at_call 27; refine (rcapRight _ _ _ _ _ _ _).mono ?_; rintro e w1 ⟨rfl, hy⟩; obtain ⟨d, rfl⟩ := hy.grown; clear hy) | (go_at_call 35; refine (rused _ _ _ _ _ _ _).mono ?_; rintro e w1 ⟨rfl, hy⟩; obtain ⟨d, rfl⟩ := hy.grown; clear hy) | (go_at_call 45; refine (rhasB _ _ _).mono ?_; rintro e w1 ⟨rfl, rfl⟩) | (go_at_call 28; refine (rcapUnderC _ _ _ _ _ _ _ _ _ _ _ _ _).mono ?_; rintro e w1 ⟨rfl, hy⟩; obtain ⟨d, rfl⟩ := hy.grown; clear hy))
  all_goals refine bodyPost_ret (v := .tuple #[.agg #[.bool (buildC ⟨t, b, tp, a, p, ty⟩ ⟨t', b', tp', a', p', ty'⟩).tag, .int .i64 (buildC ⟨t, b, tp, a, p, ty⟩ ⟨t', b', tp', a', p', ty'⟩).base, .int .i64 (buildC ⟨t, b, tp, a, p, ty⟩ ⟨t', b', tp', a', p', ty'⟩).top, .int .i64 (buildC ⟨t, b, tp, a, p, ty⟩ ⟨t', b', tp', a', p', ty'⟩).at_, .int .i64 (buildC ⟨t, b, tp, a, p, ty⟩ ⟨t', b', tp', a', p', ty'⟩).perms, .int .i64 (buildC ⟨t, b, tp, a, p, ty⟩ ⟨t', b', tp', a', p', ty'⟩).type], .int .i64 (buildE ⟨t, b, tp, a, p, ty⟩ ⟨t', b', tp', a', p', ty'⟩)]) ?_ rfl ⟨rfl, (by repeat (first | (with_reducible exact Ext.refl _) | (with_reducible refine Ext.undrew ?_) | (with_reducible refine Ext.grow ?_ _) | (with_reducible refine Ext.drew ?_) | (with_reducible refine Ext.drewN ?_ _) | (with_reducible refine Ext.alloc ?_ _) | (with_reducible assumption) | ((with_reducible refine Ext.setCell ?_ ?_ _); rotate_left; (first | exact Nat.le_refl _ | (dsimp only; simp only [World.size_alloc, grow_size, World.size_setCell]; omega)))))⟩
  all_goals go_tidy
  all_goals simp_all [results, Try.results26, go_sem, buildC, buildE, firstE, mustE, madeC, zeroC]

end Go.Proofs.Ytnakimlicedogaa
