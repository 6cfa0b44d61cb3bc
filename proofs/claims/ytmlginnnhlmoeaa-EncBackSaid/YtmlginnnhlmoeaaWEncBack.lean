/- The walk of the law EncBack. -/
import Derived.Test.YtmlginnnhlmoeaaHead03
import Derived.Test.YtmlginnnhlmoeaaEncM
import Derived.Test.YtmlginnnhlmoeaaEncN
namespace Go.Proofs.Ytmlginnnhlmoeaa
set_option linter.unusedSimpArgs false
set_option linter.unusedVariables false
open Go.RowKit

namespace encBack
set_option maxRecDepth 100000 in
set_option maxHeartbeats 16000000 in
theorem walk (t0 : Bool) (b0 tp0 at0 pm0 ty0 : Int) (w : World) (wb0 : (Lit.int .i64 b0).wf = true) (wtp0 : (Lit.int .i64 tp0).wf = true) (wat0 : (Lit.int .i64 at0).wf = true) (wpm0 : (Lit.int .i64 pm0).wf = true) (wty0 : (Lit.int .i64 ty0).wf = true) :
    Calls Try.prog 4 #[.agg #[.bool t0, .int .i64 b0, .int .i64 tp0, .int .i64 at0, .int .i64 pm0, .int .i64 ty0]] w fun e w' => e = .returned (.bool true) ∧ Ext w w' := by
  cases h0 : rightC ⟨t0, b0, tp0, at0, pm0, ty0⟩ with
  | false =>
    go_enter Try.func4, Try.ntmps4
    go_wp2_with (first | (go_at_call 8; refine Calls.mono (head _) ?_; rintro e wh ⟨rfl, hxh⟩; obtain ⟨dh, rfl⟩ := hxh.grown; clear hxh) | (go_at_call 15; refine (rcapRight _ _ _ _ _ _ _).mono ?_; rintro e w1 ⟨rfl, hy⟩; obtain ⟨d, rfl⟩ := hy.grown; clear hy) | (go_at_call 11; refine Calls.mono (put_no _ _ _ _ _ _ _ (by assumption)) ?_; rintro e w' ⟨rfl, hy⟩; obtain ⟨d, rfl⟩ := hy.grown; clear hy))
    go_ret
    exact ⟨rfl, (by repeat (first | (with_reducible exact Ext.refl _) | (with_reducible refine Ext.undrew ?_) | (with_reducible refine Ext.grow ?_ _) | (with_reducible refine Ext.drew ?_) | (with_reducible refine Ext.drewN ?_ _) | (with_reducible refine Ext.alloc ?_ _) | (with_reducible assumption) | ((with_reducible refine Ext.setCell ?_ ?_ _); rotate_left; (first | exact Nat.le_refl _ | ((try dsimp only); (try simp only [World.size_alloc, grow_size, World.size_setCell]); omega)))))⟩
  | true =>
    obtain ⟨B, hB⟩ : ∃ B, (t0 && rightC ⟨true, b0, tp0, at0, pm0, ty0⟩) = B := ⟨_, rfl⟩
    have hB0 : B = t0 := by
      rw [← hB]
      cases t0 with
      | true => rw [h0]; rfl
      | false => rfl
    rw [hB0] at hB
    clear hB0
    have HB := hid hB
    clear hB
    have H0 := hid h0
    go_enter Try.func4, Try.ntmps4
    go_wp2_with (first | (go_at_call 8; refine Calls.mono (head _) ?_; rintro e wh ⟨rfl, hxh⟩; obtain ⟨dh, rfl⟩ := hxh.grown; clear hxh) | (go_at_call 15; refine (rcapRight _ _ _ _ _ _ _).mono ?_; rintro e w1 ⟨rfl, hy⟩; obtain ⟨d, rfl⟩ := hy.grown; clear hy) | (go_at_call 11; refine Calls.mono (put_yes _ _ _ _ _ _ _ (by assumption)) ?_; rintro e w' ⟨q1, ca1, rfl, hl1, hm1, hq1, hrd1, hy⟩; have hqs1 := hrd1.lt (by rw [bytesC_length]; omega); obtain ⟨d1, rfl⟩ := hy.grown; clear hy; have HR1 := hid hrd1; clear hrd1) | (go_at_call 9; first | (with_reducible refine Calls.mono (get_bytes q1 ca1 t0 b0 tp0 at0 pm0 ty0 false false _ H0.out rfl (HR1.out.ext (by repeat (first | (with_reducible exact Ext.refl _) | (with_reducible refine Ext.undrew ?_) | (with_reducible refine Ext.grow ?_ _) | (with_reducible refine Ext.drew ?_) | (with_reducible refine Ext.drewN ?_ _) | (with_reducible refine Ext.alloc ?_ _) | (with_reducible assumption) | ((with_reducible refine Ext.setCell ?_ ?_ _); rotate_left; (first | exact Nat.le_refl _ | ((try dsimp only); (try simp only [World.size_alloc, grow_size, World.size_setCell]); omega)))))) hl1 hm1) ?_; rintro e w' ⟨rfl, hy⟩; obtain ⟨d, rfl⟩ := hy.grown; clear hy) | (with_reducible refine Calls.mono (get_bytes q1 ca1 t0 b0 tp0 at0 pm0 ty0 t0 t0 _ H0.out HB.out (HR1.out.ext (by repeat (first | (with_reducible exact Ext.refl _) | (with_reducible refine Ext.undrew ?_) | (with_reducible refine Ext.grow ?_ _) | (with_reducible refine Ext.drew ?_) | (with_reducible refine Ext.drewN ?_ _) | (with_reducible refine Ext.alloc ?_ _) | (with_reducible assumption) | ((with_reducible refine Ext.setCell ?_ ?_ _); rotate_left; (first | exact Nat.le_refl _ | ((try dsimp only); (try simp only [World.size_alloc, grow_size, World.size_setCell]); omega)))))) hl1 hm1) ?_; rintro e w' ⟨rfl, hy⟩; obtain ⟨d, rfl⟩ := hy.grown; clear hy)))
    go_ret
    exact ⟨rfl, (by repeat (first | (with_reducible exact Ext.refl _) | (with_reducible refine Ext.undrew ?_) | (with_reducible refine Ext.grow ?_ _) | (with_reducible refine Ext.drew ?_) | (with_reducible refine Ext.drewN ?_ _) | (with_reducible refine Ext.alloc ?_ _) | (with_reducible assumption) | ((with_reducible refine Ext.setCell ?_ ?_ _); rotate_left; (first | exact Nat.le_refl _ | ((try dsimp only); (try simp only [World.size_alloc, grow_size, World.size_setCell]); omega)))))⟩
end encBack

end Go.Proofs.Ytmlginnnhlmoeaa
