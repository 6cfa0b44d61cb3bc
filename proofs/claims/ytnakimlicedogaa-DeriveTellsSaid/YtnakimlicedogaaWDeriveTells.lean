/- The walk of the law DeriveTells. -/
import Derived.Test.YtnakimlicedogaaHead04
import Derived.Test.YtnakimlicedogaaRef4
namespace Go.Proofs.Ytnakimlicedogaa
set_option linter.unusedSimpArgs false
set_option linter.unusedVariables false
open Go.RowKit

namespace deriveTells
set_option maxRecDepth 100000 in
set_option maxHeartbeats 8000000 in
theorem walk (t0 : Bool) (b0 tp0 at0 pm0 ty0 : Int) (t1 : Bool) (b1 tp1 at1 pm1 ty1 : Int) (a2 : Int) (wb0 : (Lit.int .i64 b0).wf = true) (wtp0 : (Lit.int .i64 tp0).wf = true) (wat0 : (Lit.int .i64 at0).wf = true) (wpm0 : (Lit.int .i64 pm0).wf = true) (wty0 : (Lit.int .i64 ty0).wf = true) (wb1 : (Lit.int .i64 b1).wf = true) (wtp1 : (Lit.int .i64 tp1).wf = true) (wat1 : (Lit.int .i64 at1).wf = true) (wpm1 : (Lit.int .i64 pm1).wf = true) (wty1 : (Lit.int .i64 ty1).wf = true) (w2 : (Lit.int .i64 a2).wf = true) (w : World) :
    Calls Try.prog 3 #[.agg #[.bool t0, .int .i64 b0, .int .i64 tp0, .int .i64 at0, .int .i64 pm0, .int .i64 ty0], .agg #[.bool t1, .int .i64 b1, .int .i64 tp1, .int .i64 at1, .int .i64 pm1, .int .i64 ty1], .int .i64 a2] w fun e w' => e = .returned (.bool true) ∧ Ext w w' := by
  obtain ⟨b0l, b0h⟩ := wf64 wb0
  obtain ⟨tp0l, tp0h⟩ := wf64 wtp0
  obtain ⟨at0l, at0h⟩ := wf64 wat0
  obtain ⟨pm0l, pm0h⟩ := wf64 wpm0
  obtain ⟨ty0l, ty0h⟩ := wf64 wty0
  obtain ⟨b1l, b1h⟩ := wf64 wb1
  obtain ⟨tp1l, tp1h⟩ := wf64 wtp1
  obtain ⟨at1l, at1h⟩ := wf64 wat1
  obtain ⟨pm1l, pm1h⟩ := wf64 wpm1
  obtain ⟨ty1l, ty1h⟩ := wf64 wty1
  obtain ⟨w2l, w2h⟩ := wf64 w2
  go_enter Try.func3, Try.ntmps3
  go_wp2_with (first | (go_at_call 10; refine (head _).mono ?_; rintro e w1 ⟨rfl, hy⟩; obtain ⟨d, rfl⟩ := hy.grown; clear hy) | (go_at_call 11; refine (bounds_ _ _ _ _ _ _ _ _).mono ?_; rintro e w1 ⟨rfl, hy⟩; obtain ⟨d, rfl⟩ := hy.grown; clear hy) | (go_at_call 13; refine (perms_ _ _ _ _ _ _ _ _).mono ?_; rintro e w1 ⟨rfl, hy⟩; obtain ⟨d, rfl⟩ := hy.grown; clear hy) | (go_at_call 15; refine (move_ _ _ _ _ _ _ _ _).mono ?_; rintro e w1 ⟨rfl, hy⟩; obtain ⟨d, rfl⟩ := hy.grown; clear hy) | (go_at_call 12; refine (rbounds _ _ _ _ _ _ _ _).mono ?_; rintro e w1 ⟨rfl, hy⟩; obtain ⟨d, rfl⟩ := hy.grown; clear hy) | (go_at_call 14; refine (rperms _ _ _ _ _ _ _ _).mono ?_; rintro e w1 ⟨rfl, hy⟩; obtain ⟨d, rfl⟩ := hy.grown; clear hy) | (go_at_call 16; refine (rmove _ _ _ _ _ _ _ _ (by assumption) (by assumption)).mono ?_; rintro e w1 ⟨rfl, hy⟩; obtain ⟨d, rfl⟩ := hy.grown; clear hy))
  refine wp_region_grow (by kernel_rfl) (by kernel_rfl) (by first | (simp only [List.append]; rfl) | rfl) ?_; (repeat (first | ((first | refine quiet_pick_and (by rfl) (by rfl) (by rfl) (by rfl) ?_ | refine quiet_pick_or (by rfl) (by rfl) (by rfl) (by rfl) ?_); simp only [Act.put, List.setIfInBounds_toArray, List.set_cons_zero, List.set_cons_succ]) | go_big_quiet_step ((first | (go_at_call 17; exact growOf (clear_ _ _ _ _ _ _ _)) | (go_at_call 18; exact growOf (rclear _ _ _ _ _ _ _)))) | (refine quiet_guard (v := ?_) (by rfl) (by rfl) (fun hX w hC => ?_) ?_; rotate_left; (obtain ⟨d, rfl⟩ := hC; (try simp only [Bool.and_eq_true, Bool.or_eq_false_iff] at hX); go_split_ands; go_simp; (first | with_reducible rfl | (first | (go_at_call 17; exact growOf (clear_ _ _ _ _ _ _ _)) | (go_at_call 18; exact growOf (rclear _ _ _ _ _ _ _))))); simp only [Act.put, List.setIfInBounds_toArray, List.set_cons_zero, List.set_cons_succ]))); refine wpQuiet_nil ?_; intro wq hq; obtain ⟨d, rfl⟩ := hq
  go_wp2
  go_ret
  exact ⟨rfl, (by repeat (first | (with_reducible exact Ext.refl _) | (with_reducible refine Ext.undrew ?_) | (with_reducible refine Ext.grow ?_ _) | (with_reducible refine Ext.drew ?_) | (with_reducible refine Ext.drewN ?_ _) | (with_reducible refine Ext.alloc ?_ _) | (with_reducible assumption) | ((with_reducible refine Ext.setCell ?_ ?_ _); rotate_left; (first | exact Nat.le_refl _ | (dsimp only; simp only [World.size_alloc, grow_size, World.size_setCell]; omega)))))⟩
end deriveTells
end Go.Proofs.Ytnakimlicedogaa
