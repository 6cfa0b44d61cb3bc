/- The walk of the law DeriveMoves. -/
import Derived.Test.YtnakimlicedogaaHead04
import Derived.Test.YtnakimlicedogaaRef4
import Derived.Test.YtnakimlicedogaaDerM
namespace Go.Proofs.Ytnakimlicedogaa
set_option linter.unusedSimpArgs false
set_option linter.unusedVariables false
open Go.RowKit

namespace deriveMoves
set_option maxRecDepth 100000 in
set_option maxHeartbeats 8000000 in
theorem walk (t0 : Bool) (b0 tp0 at0 pm0 ty0 : Int) (a1 : Int) (a2 : Int) (wb0 : (Lit.int .i64 b0).wf = true) (wtp0 : (Lit.int .i64 tp0).wf = true) (wat0 : (Lit.int .i64 at0).wf = true) (wpm0 : (Lit.int .i64 pm0).wf = true) (wty0 : (Lit.int .i64 ty0).wf = true) (w1 : (Lit.int .i64 a1).wf = true) (w2 : (Lit.int .i64 a2).wf = true) (w : World) :
    Calls Try.prog 9 #[.agg #[.bool t0, .int .i64 b0, .int .i64 tp0, .int .i64 at0, .int .i64 pm0, .int .i64 ty0], .int .i64 a1, .int .i64 a2] w fun e w' => e = .returned (.bool true) ∧ Ext w w' := by
  obtain ⟨b0l, b0h⟩ := wf64 wb0
  obtain ⟨tp0l, tp0h⟩ := wf64 wtp0
  obtain ⟨at0l, at0h⟩ := wf64 wat0
  obtain ⟨pm0l, pm0h⟩ := wf64 wpm0
  obtain ⟨ty0l, ty0h⟩ := wf64 wty0
  obtain ⟨w1l, w1h⟩ := wf64 w1
  obtain ⟨w2l, w2h⟩ := wf64 w2
  clear w1 w2 wb0 wtp0 wat0 wpm0 wty0
  by_cases hE : moveE ⟨t0, b0, tp0, at0, pm0, ty0⟩ = 0
  · obtain ⟨hr, hy⟩ := moveE0.1 hE
    have hb := rightC_bd hr
    have l1 := low32_bd a1 w1l w1h
    have l2 := low32_bd a2 w2l w2h
    have hm : ∀ x, 0 ≤ x → x ≤ 4294967295 → moveE ⟨t0, b0, tp0, x, pm0, ty0⟩ = 0 := fun x x0 x1 =>
      moveE0.2 ⟨rightC_mk ⟨hb.1, hb.2.1, hb.2.2.1, hb.2.2.2.1, x0, x1, hb.2.2.2.2.2.2.1, hb.2.2.2.2.2.2.2.1, hb.2.2.2.2.2.2.2.2.1, hb.2.2.2.2.2.2.2.2.2.1, hb.2.2.2.2.2.2.2.2.2.2⟩, hy⟩
    have e1 := hm _ l1.1 l1.2
    have e2 := hm _ l2.1 l2.2
    have f0 := move_eq (n := a1) hE
    have f1 := move_eq (n := a2) e1
    have f2 := move_eq (n := a2) hE
    have f3 := move_eq (n := at0) e2
    have f4 := low32_small at0 hb.2.2.2.2.1 hb.2.2.2.2.2.1
    dsimp only at f0 f1 f2 f3
    rw [f4] at f3
    have f5 := low32_eq a1 w1l w1h
    have f6 : (low32 a1 == a1 % 4294967296) = true := by simp [f5]
    clear hr hy hb l1 l2 hm f4 f5
    go_enter Try.func9, Try.ntmps9
    go_wp2_with (first | (go_at_call 10; refine (head _).mono ?_; rintro e w1 ⟨rfl, hy⟩; obtain ⟨d, rfl⟩ := hy.grown; clear hy) | (go_at_call 15; refine (move_ _ _ _ _ _ _ _ _).mono ?_; rintro e w1 ⟨rfl, hy⟩; obtain ⟨d, rfl⟩ := hy.grown; clear hy))
    all_goals go_ret
    all_goals exact ⟨rfl, (by repeat (first | (with_reducible exact Ext.refl _) | (with_reducible refine Ext.undrew ?_) | (with_reducible refine Ext.grow ?_ _) | (with_reducible refine Ext.drew ?_) | (with_reducible refine Ext.drewN ?_ _) | (with_reducible refine Ext.alloc ?_ _) | (with_reducible assumption) | ((with_reducible refine Ext.setCell ?_ ?_ _); rotate_left; (first | exact Nat.le_refl _ | (dsimp only; simp only [World.size_alloc, grow_size, World.size_setCell]; omega)))))⟩
  · have hX : moveC ⟨t0, b0, tp0, at0, pm0, ty0⟩ a1 = ⟨false, 0, 0, 0, 0, 0⟩ := madeC_bad hE
    go_enter Try.func9, Try.ntmps9
    go_wp2_with (first | (go_at_call 10; refine (head _).mono ?_; rintro e w1 ⟨rfl, hy⟩; obtain ⟨d, rfl⟩ := hy.grown; clear hy) | (go_at_call 15; refine (move_ _ _ _ _ _ _ _ _).mono ?_; rintro e w1 ⟨rfl, hy⟩; obtain ⟨d, rfl⟩ := hy.grown; clear hy))
    all_goals go_ret
    all_goals exact ⟨rfl, (by repeat (first | (with_reducible exact Ext.refl _) | (with_reducible refine Ext.undrew ?_) | (with_reducible refine Ext.grow ?_ _) | (with_reducible refine Ext.drew ?_) | (with_reducible refine Ext.drewN ?_ _) | (with_reducible refine Ext.alloc ?_ _) | (with_reducible assumption) | ((with_reducible refine Ext.setCell ?_ ?_ _); rotate_left; (first | exact Nat.le_refl _ | (dsimp only; simp only [World.size_alloc, grow_size, World.size_setCell]; omega)))))⟩
end deriveMoves
end Go.Proofs.Ytnakimlicedogaa
