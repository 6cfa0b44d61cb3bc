/- The walk of the law EncFields. -/
import Derived.Test.YtmlginnnhlmoeaaHead03
import Derived.Test.YtmlginnnhlmoeaaEncM
import Derived.Test.YtmlginnnhlmoeaaEncN
namespace Go.Proofs.Ytmlginnnhlmoeaa
set_option linter.unusedSimpArgs false
set_option linter.unusedVariables false
open Go.RowKit

namespace encFields
set_option maxRecDepth 100000 in
set_option maxHeartbeats 16000000 in
theorem walk (t0 : Bool) (b0 tp0 at0 pm0 ty0 : Int) (t1 : Bool) (b1 tp1 at1 pm1 ty1 : Int) (w : World) (wb0 : (Lit.int .i64 b0).wf = true) (wtp0 : (Lit.int .i64 tp0).wf = true) (wat0 : (Lit.int .i64 at0).wf = true) (wpm0 : (Lit.int .i64 pm0).wf = true) (wty0 : (Lit.int .i64 ty0).wf = true) (wb1 : (Lit.int .i64 b1).wf = true) (wtp1 : (Lit.int .i64 tp1).wf = true) (wat1 : (Lit.int .i64 at1).wf = true) (wpm1 : (Lit.int .i64 pm1).wf = true) (wty1 : (Lit.int .i64 ty1).wf = true) :
    Calls Try.prog 7 #[.agg #[.bool t0, .int .i64 b0, .int .i64 tp0, .int .i64 at0, .int .i64 pm0, .int .i64 ty0], .agg #[.bool t1, .int .i64 b1, .int .i64 tp1, .int .i64 at1, .int .i64 pm1, .int .i64 ty1]] w fun e w' => e = .returned (.bool true) ∧ Ext w w' := by
  cases h0 : rightC ⟨t0, b0, tp0, at0, pm0, ty0⟩ with
  | false =>
    cases h1 : rightC ⟨t1, b1, tp1, at1, pm1, ty1⟩ with
    | false =>
      go_enter Try.func7, Try.ntmps7
      go_wp2_with (first | (go_at_call 8; refine Calls.mono (head _) ?_; rintro e wh ⟨rfl, hxh⟩; obtain ⟨dh, rfl⟩ := hxh.grown; clear hxh) | (go_at_call 11; refine Calls.mono (put_no _ _ _ _ _ _ _ (by assumption)) ?_; rintro e w' ⟨rfl, hy⟩; obtain ⟨d, rfl⟩ := hy.grown; clear hy) | (go_at_call 11; refine Calls.mono (put_yes _ _ _ _ _ _ _ (by assumption)) ?_; rintro e w' ⟨q1, ca1, rfl, hl1, hm1, hq1, hrd1, hy⟩; have hqs1 := hrd1.lt (by rw [bytesC_length]; omega); obtain ⟨d1, rfl⟩ := hy.grown; clear hy; have HR1 := hid hrd1; clear hrd1))
      go_ret
      exact ⟨rfl, (by repeat (first | (with_reducible exact Ext.refl _) | (with_reducible refine Ext.undrew ?_) | (with_reducible refine Ext.grow ?_ _) | (with_reducible refine Ext.drew ?_) | (with_reducible refine Ext.drewN ?_ _) | (with_reducible refine Ext.alloc ?_ _) | (with_reducible assumption) | ((with_reducible refine Ext.setCell ?_ ?_ _); rotate_left; (first | exact Nat.le_refl _ | ((try dsimp only); (try simp only [World.size_alloc, grow_size, World.size_setCell]); omega)))))⟩
    | true =>
      go_enter Try.func7, Try.ntmps7
      go_wp2_with (first | (go_at_call 8; refine Calls.mono (head _) ?_; rintro e wh ⟨rfl, hxh⟩; obtain ⟨dh, rfl⟩ := hxh.grown; clear hxh) | (go_at_call 11; refine Calls.mono (put_no _ _ _ _ _ _ _ (by assumption)) ?_; rintro e w' ⟨rfl, hy⟩; obtain ⟨d, rfl⟩ := hy.grown; clear hy) | (go_at_call 11; refine Calls.mono (put_yes _ _ _ _ _ _ _ (by assumption)) ?_; rintro e w' ⟨q1, ca1, rfl, hl1, hm1, hq1, hrd1, hy⟩; have hqs1 := hrd1.lt (by rw [bytesC_length]; omega); obtain ⟨d1, rfl⟩ := hy.grown; clear hy; have HR1 := hid hrd1; clear hrd1))
      go_ret
      exact ⟨rfl, (by repeat (first | (with_reducible exact Ext.refl _) | (with_reducible refine Ext.undrew ?_) | (with_reducible refine Ext.grow ?_ _) | (with_reducible refine Ext.drew ?_) | (with_reducible refine Ext.drewN ?_ _) | (with_reducible refine Ext.alloc ?_ _) | (with_reducible assumption) | ((with_reducible refine Ext.setCell ?_ ?_ _); rotate_left; (first | exact Nat.le_refl _ | ((try dsimp only); (try simp only [World.size_alloc, grow_size, World.size_setCell]); omega)))))⟩
  | true =>
    cases h1 : rightC ⟨t1, b1, tp1, at1, pm1, ty1⟩ with
    | false =>
      go_enter Try.func7, Try.ntmps7
      go_wp2_with (first | (go_at_call 8; refine Calls.mono (head _) ?_; rintro e wh ⟨rfl, hxh⟩; obtain ⟨dh, rfl⟩ := hxh.grown; clear hxh) | (go_at_call 11; refine Calls.mono (put_no _ _ _ _ _ _ _ (by assumption)) ?_; rintro e w' ⟨rfl, hy⟩; obtain ⟨d, rfl⟩ := hy.grown; clear hy) | (go_at_call 11; refine Calls.mono (put_yes _ _ _ _ _ _ _ (by assumption)) ?_; rintro e w' ⟨q1, ca1, rfl, hl1, hm1, hq1, hrd1, hy⟩; have hqs1 := hrd1.lt (by rw [bytesC_length]; omega); obtain ⟨d1, rfl⟩ := hy.grown; clear hy; have HR1 := hid hrd1; clear hrd1))
      go_ret
      exact ⟨rfl, (by repeat (first | (with_reducible exact Ext.refl _) | (with_reducible refine Ext.undrew ?_) | (with_reducible refine Ext.grow ?_ _) | (with_reducible refine Ext.drew ?_) | (with_reducible refine Ext.drewN ?_ _) | (with_reducible refine Ext.alloc ?_ _) | (with_reducible assumption) | ((with_reducible refine Ext.setCell ?_ ?_ _); rotate_left; (first | exact Nat.le_refl _ | ((try dsimp only); (try simp only [World.size_alloc, grow_size, World.size_setCell]); omega)))))⟩
    | true =>
      obtain ⟨bb, btp, ba, bp, bty⟩ := right_bd h0
      obtain ⟨cb, ctp, cat, cp, cty⟩ := right_bd h1
      have SA : ((strOf (four at0)).toList == (strOf (four at1)).toList) = (at0 == at1) := four_str ba cat
      have SB : ((strOf (four b0)).toList == (strOf (four b1)).toList) = (b0 == b1) := four_str bb cb
      have SC : ((strOf (four tp0)).toList == (strOf (four tp1)).toList) = (tp0 == tp1) := four_str btp ctp
      obtain ⟨ya, hya⟩ : ∃ y, at0 / 16777216 % 256 = y := ⟨_, rfl⟩
      obtain ⟨yb, hyb⟩ : ∃ y, at0 / 65536 % 256 = y := ⟨_, rfl⟩
      obtain ⟨yc, hyc⟩ : ∃ y, at0 / 256 % 256 = y := ⟨_, rfl⟩
      obtain ⟨yd, hyd⟩ : ∃ y, at0 % 256 = y := ⟨_, rfl⟩
      have hsum : 16777216 * ya + 65536 * yb + 256 * yc + yd = at0 := by omega
      have bya : 0 ≤ ya ∧ ya ≤ 255 := by omega
      have byb : 0 ≤ yb ∧ yb ≤ 255 := by omega
      have byc : 0 ≤ yc ∧ yc ≤ 255 := by omega
      have byd : 0 ≤ yd ∧ yd ≤ 255 := by omega
      obtain ⟨ya0, ya1⟩ := bya
      obtain ⟨yb0, yb1⟩ := byb
      obtain ⟨yc0, yc1⟩ := byc
      obtain ⟨yd0, yd1⟩ := byd
      have hp : pm0 % 256 = pm0 := by omega
      have hty : ty0 % 256 = ty0 := by omega
      obtain ⟨bp0, bp1⟩ := bp
      obtain ⟨bty0, bty1⟩ := bty
      have HS := hid hsum
      have HP := hid hp
      have HTY := hid hty
      have HY := hid (And.intro hya (And.intro hyb (And.intro hyc hyd)))
      clear hsum hp hty hya hyb hyc hyd bb btp ba cb ctp cat cp cty
      go_enter Try.func7, Try.ntmps7
      go_wp2_with (go_at_call 8; refine Calls.mono (head _) ?_; rintro e wh ⟨rfl, hxh⟩; obtain ⟨dh, rfl⟩ := hxh.grown; clear hxh)
      refine Calls.mono (put_yes t0 b0 tp0 at0 pm0 ty0 _ h0) ?_
      rintro e w' ⟨q1, ca1, rfl, hl1, hm1, hq1, hrd1, hy⟩
      have hqs1 := hrd1.lt (by rw [bytesC_length]; omega)
      obtain ⟨d1, rfl⟩ := hy.grown
      clear hy
      simp only [grow_size, World.size_alloc] at hqs1
      obtain ⟨fA, fB, fC⟩ := hrd1.fours
      have FA1 := hid fA
      have FB1 := hid fB
      have FC1 := hid fC
      obtain ⟨k0, k1, k2, k3, k4, k5, k6, k7, k8, k9, k10, k11, k12, k13, k14, k15⟩ := hrd1.sixteen
      rw [HY.out.1] at k0
      rw [HY.out.2.1] at k1
      rw [HY.out.2.2.1] at k2
      rw [HY.out.2.2.2] at k3
      rw [HP.out] at k13
      rw [HTY.out] at k15
      clear fA fB fC hrd1 HY HP HTY k4 k5 k6 k7 k8 k9 k10 k11
      go_wp2_with fail
      refine Calls.mono (put_yes t1 b1 tp1 at1 pm1 ty1 _ h1) ?_
      rintro e w' ⟨q2, ca2, rfl, hl2, hm2, hq2, hrd2, hy⟩
      have hqs2 := hrd2.lt (by rw [bytesC_length]; omega)
      obtain ⟨d2, rfl⟩ := hy.grown
      clear hy
      simp only [grow_size, World.size_alloc] at hqs2
      obtain ⟨fA, fB, fC⟩ := hrd2.fours
      have FA2 := hid fA
      have FB2 := hid fB
      have FC2 := hid fC
      clear fA fB fC hrd2
      go_wp2_with fail
      refine wp_region_step (.rd 0 (.rd 1 (.rd 2 (.rd 3 (.rd 4 (.rd 5 (.rd 6 (.rd 7 (.rd 8 (.rd 9 (.rd 10 (.rd 11 (.rd 12 (.rd 13 (.rd 14 (.rd 15 (.rd 16 (.rd 17 (.rd 18 (.rd 19 (.rd 20 (.rd 21 (.rd 22 .done))))))))))))))))))))))) (by kernel_rfl) (by kernel_rfl) (fun _ _ d _ _ h => by cases d <;> exact h) (by simp only [Ord.map, nthOp, List.append]; rfl) ?_
      intro d0
      repeat' (first | (refine step_read (by rfl) (fun K hK => ?_); go_big_quiet_op; refine hK _ ?_; clear hK K) | (refine step_act (by rfl) (fun K hK => ?_); go_wp2_with (first | fail); refine ⟨_, Ext.refl _, (by repeat (first | (with_reducible exact Ext.refl _) | (with_reducible refine Ext.undrew ?_) | (with_reducible refine Ext.grow ?_ _) | (with_reducible refine Ext.drew ?_) | (with_reducible refine Ext.drewN ?_ _) | (with_reducible refine Ext.alloc ?_ _) | (with_reducible assumption) | ((with_reducible refine Ext.setCell ?_ ?_ _); rotate_left; (first | exact Nat.le_refl _ | ((try dsimp only); (try simp only [World.size_alloc, grow_size, World.size_setCell]); omega))))), ?_⟩) | refine step_br ?_ ?_)
      all_goals refine step_nil ?_
      go_wp2_with fail
      rw [HS.out]
      refine wp_region_step (.rd 0 (.rd 1 (.rd 2 (.rd 3 (.rd 4 (.rd 5 (.rd 6 (.rd 7 (.rd 8 (.rd 9 (.rd 10 (.rd 11 (.rd 12 (.rd 13 (.rd 14 (.rd 15 (.rd 16 (.rd 17 (.rd 18 (.rd 19 (.rd 20 (.rd 21 (.rd 22 (.rd 23 (.rd 24 (.rd 25 (.rd 26 (.rd 27 (.rd 28 (.rd 29 (.rd 30 (.rd 31 (.rd 32 (.rd 33 (.rd 34 (.rd 35 (.rd 36 (.rd 37 (.rd 38 (.rd 39 (.rd 40 (.rd 41 (.rd 42 (.rd 43 (.rd 44 (.rd 45 (.rd 46 (.rd 47 (.rd 48 (.rd 49 (.rd 50 (.rd 51 (.rd 52 (.rd 53 (.rd 54 (.rd 55 (.rd 56 (.rd 57 (.rd 58 (.rd 59 (.rd 60 (.rd 61 (.rd 62 (.rd 63 (.rd 64 (.rd 65 (.rd 66 (.rd 67 (.rd 68 (.rd 69 (.rd 70 (.rd 71 (.rd 72 (.rd 73 (.rd 74 (.rd 75 (.rd 76 (.rd 77 (.rd 78 (.rd 79 (.rd 80 (.rd 81 (.rd 82 .done))))))))))))))))))))))))))))))))))))))))))))))))))))))))))))))))))))))))))))))))))) (by kernel_rfl) (by kernel_rfl) (fun _ _ d _ _ h => by cases d <;> exact h) (by simp only [Ord.map, nthOp, List.append]; rfl) ?_
      intro d0
      repeat' (first | (refine step_read (by rfl) (fun K hK => ?_); refine quiet_str4 (.tmp 54) rfl _ _ _ rfl (RdB.ext (Hid.out (by assumption)) (by repeat (first | (with_reducible exact Ext.refl _) | (with_reducible refine Ext.undrew ?_) | (with_reducible refine Ext.grow ?_ _) | (with_reducible refine Ext.drew ?_) | (with_reducible refine Ext.drewN ?_ _) | (with_reducible refine Ext.alloc ?_ _) | (with_reducible assumption) | ((with_reducible refine Ext.setCell ?_ ?_ _); rotate_left; (first | exact Nat.le_refl _ | ((try dsimp only); (try simp only [World.size_alloc, grow_size, World.size_setCell]); omega)))))) ?_; refine hK _ ?_; clear hK K; simp only [Act.put, List.setIfInBounds_toArray, List.set_cons_zero, List.set_cons_succ]) | (refine step_read (by rfl) (fun K hK => ?_); refine quiet_str4 (.tmp 57) rfl _ _ _ rfl (RdB.ext (Hid.out (by assumption)) (by repeat (first | (with_reducible exact Ext.refl _) | (with_reducible refine Ext.undrew ?_) | (with_reducible refine Ext.grow ?_ _) | (with_reducible refine Ext.drew ?_) | (with_reducible refine Ext.drewN ?_ _) | (with_reducible refine Ext.alloc ?_ _) | (with_reducible assumption) | ((with_reducible refine Ext.setCell ?_ ?_ _); rotate_left; (first | exact Nat.le_refl _ | ((try dsimp only); (try simp only [World.size_alloc, grow_size, World.size_setCell]); omega)))))) ?_; refine hK _ ?_; clear hK K; simp only [Act.put, List.setIfInBounds_toArray, List.set_cons_zero, List.set_cons_succ]) | (refine step_read (by rfl) (fun K hK => ?_); refine quiet_str4 (.tmp 69) rfl _ _ _ rfl (RdB.ext (Hid.out (by assumption)) (by repeat (first | (with_reducible exact Ext.refl _) | (with_reducible refine Ext.undrew ?_) | (with_reducible refine Ext.grow ?_ _) | (with_reducible refine Ext.drew ?_) | (with_reducible refine Ext.drewN ?_ _) | (with_reducible refine Ext.alloc ?_ _) | (with_reducible assumption) | ((with_reducible refine Ext.setCell ?_ ?_ _); rotate_left; (first | exact Nat.le_refl _ | ((try dsimp only); (try simp only [World.size_alloc, grow_size, World.size_setCell]); omega)))))) ?_; refine hK _ ?_; clear hK K; simp only [Act.put, List.setIfInBounds_toArray, List.set_cons_zero, List.set_cons_succ]) | (refine step_read (by rfl) (fun K hK => ?_); refine quiet_str4 (.tmp 72) rfl _ _ _ rfl (RdB.ext (Hid.out (by assumption)) (by repeat (first | (with_reducible exact Ext.refl _) | (with_reducible refine Ext.undrew ?_) | (with_reducible refine Ext.grow ?_ _) | (with_reducible refine Ext.drew ?_) | (with_reducible refine Ext.drewN ?_ _) | (with_reducible refine Ext.alloc ?_ _) | (with_reducible assumption) | ((with_reducible refine Ext.setCell ?_ ?_ _); rotate_left; (first | exact Nat.le_refl _ | ((try dsimp only); (try simp only [World.size_alloc, grow_size, World.size_setCell]); omega)))))) ?_; refine hK _ ?_; clear hK K; simp only [Act.put, List.setIfInBounds_toArray, List.set_cons_zero, List.set_cons_succ]) | (refine step_read (by rfl) (fun K hK => ?_); refine quiet_str4 (.tmp 84) rfl _ _ _ rfl (RdB.ext (Hid.out (by assumption)) (by repeat (first | (with_reducible exact Ext.refl _) | (with_reducible refine Ext.undrew ?_) | (with_reducible refine Ext.grow ?_ _) | (with_reducible refine Ext.drew ?_) | (with_reducible refine Ext.drewN ?_ _) | (with_reducible refine Ext.alloc ?_ _) | (with_reducible assumption) | ((with_reducible refine Ext.setCell ?_ ?_ _); rotate_left; (first | exact Nat.le_refl _ | ((try dsimp only); (try simp only [World.size_alloc, grow_size, World.size_setCell]); omega)))))) ?_; refine hK _ ?_; clear hK K; simp only [Act.put, List.setIfInBounds_toArray, List.set_cons_zero, List.set_cons_succ]) | (refine step_read (by rfl) (fun K hK => ?_); refine quiet_str4 (.tmp 87) rfl _ _ _ rfl (RdB.ext (Hid.out (by assumption)) (by repeat (first | (with_reducible exact Ext.refl _) | (with_reducible refine Ext.undrew ?_) | (with_reducible refine Ext.grow ?_ _) | (with_reducible refine Ext.drew ?_) | (with_reducible refine Ext.drewN ?_ _) | (with_reducible refine Ext.alloc ?_ _) | (with_reducible assumption) | ((with_reducible refine Ext.setCell ?_ ?_ _); rotate_left; (first | exact Nat.le_refl _ | ((try dsimp only); (try simp only [World.size_alloc, grow_size, World.size_setCell]); omega)))))) ?_; refine hK _ ?_; clear hK K; simp only [Act.put, List.setIfInBounds_toArray, List.set_cons_zero, List.set_cons_succ]) | (refine step_read (by rfl) (fun K hK => ?_); go_big_quiet_op; refine hK _ ?_; clear hK K) | (refine step_act (by rfl) (fun K hK => ?_); go_wp2_with (first | fail); refine ⟨_, Ext.refl _, (by repeat (first | (with_reducible exact Ext.refl _) | (with_reducible refine Ext.undrew ?_) | (with_reducible refine Ext.grow ?_ _) | (with_reducible refine Ext.drew ?_) | (with_reducible refine Ext.drewN ?_ _) | (with_reducible refine Ext.alloc ?_ _) | (with_reducible assumption) | ((with_reducible refine Ext.setCell ?_ ?_ _); rotate_left; (first | exact Nat.le_refl _ | ((try dsimp only); (try simp only [World.size_alloc, grow_size, World.size_setCell]); omega))))), ?_⟩) | refine step_br ?_ ?_)
      all_goals refine step_nil ?_
      go_wp2
      go_ret
      exact ⟨rfl, (by repeat (first | (with_reducible exact Ext.refl _) | (with_reducible refine Ext.undrew ?_) | (with_reducible refine Ext.grow ?_ _) | (with_reducible refine Ext.drew ?_) | (with_reducible refine Ext.drewN ?_ _) | (with_reducible refine Ext.alloc ?_ _) | (with_reducible assumption) | ((with_reducible refine Ext.setCell ?_ ?_ _); rotate_left; (first | exact Nat.le_refl _ | ((try dsimp only); (try simp only [World.size_alloc, grow_size, World.size_setCell]); omega)))))⟩
end encFields

end Go.Proofs.Ytmlginnnhlmoeaa
