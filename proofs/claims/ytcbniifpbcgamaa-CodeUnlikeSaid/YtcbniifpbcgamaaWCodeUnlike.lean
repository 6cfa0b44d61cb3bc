/- The walk of the law CodeUnlike. -/
import Derived.Test.YtcbniifpbcgamaaHead15
import Derived.Test.YtcbniifpbcgamaaCodM
namespace Go.Proofs.Ytcbniifpbcgamaa
set_option linter.unusedSimpArgs false
set_option linter.unusedVariables false
open Go.RowKit

namespace codeUnlike
set_option maxRecDepth 100000 in
set_option maxHeartbeats 16000000 in
theorem walk (op0 ra0 rb0 rc0 : Int) (op1 ra1 rb1 rc1 : Int) (w : World) (wop0 : (Lit.int .i64 op0).wf = true) (wra0 : (Lit.int .i64 ra0).wf = true) (wrb0 : (Lit.int .i64 rb0).wf = true) (wrc0 : (Lit.int .i64 rc0).wf = true) (wop1 : (Lit.int .i64 op1).wf = true) (wra1 : (Lit.int .i64 ra1).wf = true) (wrb1 : (Lit.int .i64 rb1).wf = true) (wrc1 : (Lit.int .i64 rc1).wf = true) :
    Calls Try.prog 9 #[.agg #[.int .i64 op0, .int .i64 ra0, .int .i64 rb0, .int .i64 rc0], .agg #[.int .i64 op1, .int .i64 ra1, .int .i64 rb1, .int .i64 rc1]] w fun e w' => e = .returned (.bool true) ∧ Ext w w' := by
  cases h0 : rightI op0 ra0 rb0 rc0 with
  | false =>
    cases h1 : rightI op1 ra1 rb1 rc1 with
    | false =>
      go_enter Try.func9, Try.ntmps9
      go_wp2_with (first | (go_at_call 10; refine Calls.mono (head _) ?_; rintro e wh ⟨rfl, hxh⟩; obtain ⟨dh, rfl⟩ := hxh.grown; clear hxh) | (go_at_call 19; refine Calls.mono (put_no _ _ _ _ _ (by assumption)) ?_; rintro e w' ⟨rfl, hy⟩; obtain ⟨dx, rfl⟩ := hy.grown; clear hy))
      go_ret
      exact ⟨rfl, (by repeat (first | (with_reducible exact Ext.refl _) | (with_reducible refine Ext.undrew ?_) | (with_reducible refine Ext.grow ?_ _) | (with_reducible refine Ext.drew ?_) | (with_reducible refine Ext.drewN ?_ _) | (with_reducible refine Ext.alloc ?_ _) | (with_reducible assumption) | ((with_reducible refine Ext.setCell ?_ ?_ _); rotate_left; (first | exact Nat.le_refl _ | ((try dsimp only); (try simp only [World.size_alloc, grow_size, World.size_setCell]); omega)))))⟩
    | true =>
      go_enter Try.func9, Try.ntmps9
      go_wp2_with (first | (go_at_call 10; refine Calls.mono (head _) ?_; rintro e wh ⟨rfl, hxh⟩; obtain ⟨dh, rfl⟩ := hxh.grown; clear hxh) | (go_at_call 19; refine Calls.mono (put_no _ _ _ _ _ (by assumption)) ?_; rintro e w' ⟨rfl, hy⟩; obtain ⟨dx, rfl⟩ := hy.grown; clear hy) | (go_at_call 19; refine Calls.mono (put_yes op1 ra1 rb1 rc1 _ (by assumption)) ?_; rintro e w' ⟨q1, ca1, rfl, hl1, hm1, hq1, hrd1, hy⟩; have hqs1 := hrd1 (by rw [putI_length]; omega); obtain ⟨_, _, hA1, hqs1, _⟩ := hqs1; cases hA1; obtain ⟨d1, rfl⟩ := hy.grown; clear hy; have HR1 := hid hrd1; clear hrd1))
      go_ret
      exact ⟨rfl, (by repeat (first | (with_reducible exact Ext.refl _) | (with_reducible refine Ext.undrew ?_) | (with_reducible refine Ext.grow ?_ _) | (with_reducible refine Ext.drew ?_) | (with_reducible refine Ext.drewN ?_ _) | (with_reducible refine Ext.alloc ?_ _) | (with_reducible assumption) | ((with_reducible refine Ext.setCell ?_ ?_ _); rotate_left; (first | exact Nat.le_refl _ | ((try dsimp only); (try simp only [World.size_alloc, grow_size, World.size_setCell]); omega)))))⟩
  | true =>
    cases h1 : rightI op1 ra1 rb1 rc1 with
    | false =>
      go_enter Try.func9, Try.ntmps9
      go_wp2_with (first | (go_at_call 10; refine Calls.mono (head _) ?_; rintro e wh ⟨rfl, hxh⟩; obtain ⟨dh, rfl⟩ := hxh.grown; clear hxh) | (go_at_call 19; refine Calls.mono (put_no _ _ _ _ _ (by assumption)) ?_; rintro e w' ⟨rfl, hy⟩; obtain ⟨dx, rfl⟩ := hy.grown; clear hy) | (go_at_call 19; refine Calls.mono (put_yes op0 ra0 rb0 rc0 _ (by assumption)) ?_; rintro e w' ⟨q1, ca1, rfl, hl1, hm1, hq1, hrd1, hy⟩; have hqs1 := hrd1 (by rw [putI_length]; omega); obtain ⟨_, _, hA1, hqs1, _⟩ := hqs1; cases hA1; obtain ⟨d1, rfl⟩ := hy.grown; clear hy; have HR1 := hid hrd1; clear hrd1))
      go_ret
      exact ⟨rfl, (by repeat (first | (with_reducible exact Ext.refl _) | (with_reducible refine Ext.undrew ?_) | (with_reducible refine Ext.grow ?_ _) | (with_reducible refine Ext.drew ?_) | (with_reducible refine Ext.drewN ?_ _) | (with_reducible refine Ext.alloc ?_ _) | (with_reducible assumption) | ((with_reducible refine Ext.setCell ?_ ?_ _); rotate_left; (first | exact Nat.le_refl _ | ((try dsimp only); (try simp only [World.size_alloc, grow_size, World.size_setCell]); omega)))))⟩
    | true =>
      by_cases e : op0 = op1
      · subst e
        by_cases e : ra0 = ra1
        · subst e
          by_cases e : rb0 = rb1
          · subst e
            by_cases e : rc0 = rc1
            · subst e
              have hB : decide (op0 = op0 ∧ ra0 = ra0 ∧ rb0 = rb0 ∧ rc0 = rc0) = true := by simp
              have hS := putI_str h0 h1 (B := true) hB
              obtain ⟨y2, y3, e1, _, _, _, _⟩ := putI_list h0
              obtain ⟨z2, z3, f1, _, _, _, _⟩ := putI_list h1
              obtain ⟨⟨b00, b01⟩⟩ : Nonempty (0 ≤ op0 ∧ op0 ≤ 29) := ⟨kd_bd (right_bd h0).1⟩
              obtain ⟨⟨b10, b11⟩⟩ : Nonempty (0 ≤ op0 ∧ op0 ≤ 29) := ⟨kd_bd (right_bd h1).1⟩
              have HS := hid hS
              have HE1 := hid e1
              have HF1 := hid f1
              have H0 := hid h0
              have H1 := hid h1
              clear hB hS e1 f1 h0 h1
              go_enter Try.func9, Try.ntmps9
              go_wp2_with (go_at_call 10; refine Calls.mono (head _) ?_; rintro e wh ⟨rfl, hxh⟩; obtain ⟨dh, rfl⟩ := hxh.grown; clear hxh)
              refine Calls.mono (put_yes op0 ra0 rb0 rc0 _ H0.out) ?_
              rintro e w' ⟨q1, ca1, rfl, hl1, hm1, hq1, hrd1, hy⟩
              have hqs1 : q1 < w'.heap.size := by obtain ⟨_, _, hA, hb, _⟩ := hrd1 (by rw [putI_length]; omega); cases hA; exact hb
              have k1 : w'.cell? ⟨q1, 0, none⟩ = some (.int .u8 op0) := by
                have h := hrd1
                rw [HE1.out] at h
                obtain ⟨_, _, hA, _, hc⟩ := h (by simp)
                cases hA
                exact hc 0 (by simp)
              obtain ⟨d1, rfl⟩ := hy.grown
              clear hy
              simp only [grow_size, World.size_alloc] at hqs1
              have HR1 := hid hrd1
              clear hrd1
              go_wp2_with fail
              refine Calls.mono (put_yes op0 ra0 rb0 rc0 _ H1.out) ?_
              rintro e w' ⟨q2, ca2, rfl, hl2, hm2, hq2, hrd2, hy⟩
              have hqs2 : q2 < w'.heap.size := by obtain ⟨_, _, hA, hb, _⟩ := hrd2 (by rw [putI_length]; omega); cases hA; exact hb
              have k2 : w'.cell? ⟨q2, 0, none⟩ = some (.int .u8 op0) := by
                have h := hrd2
                rw [HF1.out] at h
                obtain ⟨_, _, hA, _, hc⟩ := h (by simp)
                cases hA
                exact hc 0 (by simp)
              obtain ⟨d2, rfl⟩ := hy.grown
              clear hy
              simp only [grow_size, World.size_alloc] at hqs2
              have HR2 := hid hrd2
              clear hrd2
              go_wp2_with fail
              have hS := HS.out
              refine wp_region_step (.rd 0 (.rd 1 (.rd 2 (.rd 3 (.rd 4 (.rd 5 (.rd 6 (.rd 7 (.rd 8 (.rd 9 (.rd 10 (.rd 11 (.rd 12 (.rd 13 (.rd 14 (.rd 15 (.rd 16 (.rd 17 (.rd 18 (.rd 19 (.rd 20 (.rd 21 (.rd 22 (.rd 23 (.rd 24 (.rd 25 (.rd 26 (.rd 27 (.rd 28 (.rd 29 (.rd 30 .done))))))))))))))))))))))))))))))) (by kernel_rfl) (by kernel_rfl) (fun _ _ d _ _ h => by cases d <;> exact h) (by simp only [Ord.map, nthOp, List.append]; rfl) ?_
              intro d0
              repeat' (first | (refine step_read (by rfl) (fun K hK => ?_); refine quiet_strI (.tmp 24) rfl _ _ _ _ _ _ rfl (RdB.ext (Hid.out (by assumption)) (by repeat (first | (with_reducible exact Ext.refl _) | (with_reducible refine Ext.undrew ?_) | (with_reducible refine Ext.grow ?_ _) | (with_reducible refine Ext.drew ?_) | (with_reducible refine Ext.drewN ?_ _) | (with_reducible refine Ext.alloc ?_ _) | (with_reducible assumption) | ((with_reducible refine Ext.setCell ?_ ?_ _); rotate_left; (first | exact Nat.le_refl _ | ((try dsimp only); (try simp only [World.size_alloc, grow_size, World.size_setCell]); omega)))))) ?_; refine hK _ ?_; clear hK K; simp only [Act.put, List.setIfInBounds_toArray, List.set_cons_zero, List.set_cons_succ]) | (refine step_read (by rfl) (fun K hK => ?_); refine quiet_strI (.tmp 26) rfl _ _ _ _ _ _ rfl (RdB.ext (Hid.out (by assumption)) (by repeat (first | (with_reducible exact Ext.refl _) | (with_reducible refine Ext.undrew ?_) | (with_reducible refine Ext.grow ?_ _) | (with_reducible refine Ext.drew ?_) | (with_reducible refine Ext.drewN ?_ _) | (with_reducible refine Ext.alloc ?_ _) | (with_reducible assumption) | ((with_reducible refine Ext.setCell ?_ ?_ _); rotate_left; (first | exact Nat.le_refl _ | ((try dsimp only); (try simp only [World.size_alloc, grow_size, World.size_setCell]); omega)))))) ?_; refine hK _ ?_; clear hK K; simp only [Act.put, List.setIfInBounds_toArray, List.set_cons_zero, List.set_cons_succ]) | (refine step_read (by rfl) (fun K hK => ?_); go_big_quiet_op; refine hK _ ?_; clear hK K) | (refine step_act (by rfl) (fun K hK => ?_); go_wp2_with (first | fail); refine ⟨_, Ext.refl _, (by repeat (first | (with_reducible exact Ext.refl _) | (with_reducible refine Ext.undrew ?_) | (with_reducible refine Ext.grow ?_ _) | (with_reducible refine Ext.drew ?_) | (with_reducible refine Ext.drewN ?_ _) | (with_reducible refine Ext.alloc ?_ _) | (with_reducible assumption) | ((with_reducible refine Ext.setCell ?_ ?_ _); rotate_left; (first | exact Nat.le_refl _ | ((try dsimp only); (try simp only [World.size_alloc, grow_size, World.size_setCell]); omega))))), ?_⟩) | refine step_br ?_ ?_)
              all_goals refine step_nil ?_
              all_goals go_wp2
              all_goals go_ret
              all_goals exact ⟨rfl, (by repeat (first | (with_reducible exact Ext.refl _) | (with_reducible refine Ext.undrew ?_) | (with_reducible refine Ext.grow ?_ _) | (with_reducible refine Ext.drew ?_) | (with_reducible refine Ext.drewN ?_ _) | (with_reducible refine Ext.alloc ?_ _) | (with_reducible assumption) | ((with_reducible refine Ext.setCell ?_ ?_ _); rotate_left; (first | exact Nat.le_refl _ | ((try dsimp only); (try simp only [World.size_alloc, grow_size, World.size_setCell]); omega)))))⟩
            · have hB : decide (op0 = op0 ∧ ra0 = ra0 ∧ rb0 = rb0 ∧ rc0 = rc1) = false := by simp [e]
              have hS := putI_str h0 h1 (B := false) hB
              obtain ⟨y2, y3, e1, _, _, _, _⟩ := putI_list h0
              obtain ⟨z2, z3, f1, _, _, _, _⟩ := putI_list h1
              obtain ⟨⟨b00, b01⟩⟩ : Nonempty (0 ≤ op0 ∧ op0 ≤ 29) := ⟨kd_bd (right_bd h0).1⟩
              obtain ⟨⟨b10, b11⟩⟩ : Nonempty (0 ≤ op0 ∧ op0 ≤ 29) := ⟨kd_bd (right_bd h1).1⟩
              have HS := hid hS
              have HE1 := hid e1
              have HF1 := hid f1
              have H0 := hid h0
              have H1 := hid h1
              clear hB hS e1 f1 h0 h1
              go_enter Try.func9, Try.ntmps9
              go_wp2_with (go_at_call 10; refine Calls.mono (head _) ?_; rintro e wh ⟨rfl, hxh⟩; obtain ⟨dh, rfl⟩ := hxh.grown; clear hxh)
              refine Calls.mono (put_yes op0 ra0 rb0 rc0 _ H0.out) ?_
              rintro e w' ⟨q1, ca1, rfl, hl1, hm1, hq1, hrd1, hy⟩
              have hqs1 : q1 < w'.heap.size := by obtain ⟨_, _, hA, hb, _⟩ := hrd1 (by rw [putI_length]; omega); cases hA; exact hb
              have k1 : w'.cell? ⟨q1, 0, none⟩ = some (.int .u8 op0) := by
                have h := hrd1
                rw [HE1.out] at h
                obtain ⟨_, _, hA, _, hc⟩ := h (by simp)
                cases hA
                exact hc 0 (by simp)
              obtain ⟨d1, rfl⟩ := hy.grown
              clear hy
              simp only [grow_size, World.size_alloc] at hqs1
              have HR1 := hid hrd1
              clear hrd1
              go_wp2_with fail
              refine Calls.mono (put_yes op0 ra0 rb0 rc1 _ H1.out) ?_
              rintro e w' ⟨q2, ca2, rfl, hl2, hm2, hq2, hrd2, hy⟩
              have hqs2 : q2 < w'.heap.size := by obtain ⟨_, _, hA, hb, _⟩ := hrd2 (by rw [putI_length]; omega); cases hA; exact hb
              have k2 : w'.cell? ⟨q2, 0, none⟩ = some (.int .u8 op0) := by
                have h := hrd2
                rw [HF1.out] at h
                obtain ⟨_, _, hA, _, hc⟩ := h (by simp)
                cases hA
                exact hc 0 (by simp)
              obtain ⟨d2, rfl⟩ := hy.grown
              clear hy
              simp only [grow_size, World.size_alloc] at hqs2
              have HR2 := hid hrd2
              clear hrd2
              go_wp2_with fail
              have hS := HS.out
              refine wp_region_step (.rd 0 (.rd 1 (.rd 2 (.rd 3 (.rd 4 (.rd 5 (.rd 6 (.rd 7 (.rd 8 (.rd 9 (.rd 10 (.rd 11 (.rd 12 (.rd 13 (.rd 14 (.rd 15 (.rd 16 (.rd 17 (.rd 18 (.rd 19 (.rd 20 (.rd 21 (.rd 22 (.rd 23 (.rd 24 (.rd 25 (.rd 26 (.rd 27 (.rd 28 (.rd 29 (.rd 30 .done))))))))))))))))))))))))))))))) (by kernel_rfl) (by kernel_rfl) (fun _ _ d _ _ h => by cases d <;> exact h) (by simp only [Ord.map, nthOp, List.append]; rfl) ?_
              intro d0
              repeat' (first | (refine step_read (by rfl) (fun K hK => ?_); refine quiet_strI (.tmp 24) rfl _ _ _ _ _ _ rfl (RdB.ext (Hid.out (by assumption)) (by repeat (first | (with_reducible exact Ext.refl _) | (with_reducible refine Ext.undrew ?_) | (with_reducible refine Ext.grow ?_ _) | (with_reducible refine Ext.drew ?_) | (with_reducible refine Ext.drewN ?_ _) | (with_reducible refine Ext.alloc ?_ _) | (with_reducible assumption) | ((with_reducible refine Ext.setCell ?_ ?_ _); rotate_left; (first | exact Nat.le_refl _ | ((try dsimp only); (try simp only [World.size_alloc, grow_size, World.size_setCell]); omega)))))) ?_; refine hK _ ?_; clear hK K; simp only [Act.put, List.setIfInBounds_toArray, List.set_cons_zero, List.set_cons_succ]) | (refine step_read (by rfl) (fun K hK => ?_); refine quiet_strI (.tmp 26) rfl _ _ _ _ _ _ rfl (RdB.ext (Hid.out (by assumption)) (by repeat (first | (with_reducible exact Ext.refl _) | (with_reducible refine Ext.undrew ?_) | (with_reducible refine Ext.grow ?_ _) | (with_reducible refine Ext.drew ?_) | (with_reducible refine Ext.drewN ?_ _) | (with_reducible refine Ext.alloc ?_ _) | (with_reducible assumption) | ((with_reducible refine Ext.setCell ?_ ?_ _); rotate_left; (first | exact Nat.le_refl _ | ((try dsimp only); (try simp only [World.size_alloc, grow_size, World.size_setCell]); omega)))))) ?_; refine hK _ ?_; clear hK K; simp only [Act.put, List.setIfInBounds_toArray, List.set_cons_zero, List.set_cons_succ]) | (refine step_read (by rfl) (fun K hK => ?_); go_big_quiet_op; refine hK _ ?_; clear hK K) | (refine step_act (by rfl) (fun K hK => ?_); go_wp2_with (first | fail); refine ⟨_, Ext.refl _, (by repeat (first | (with_reducible exact Ext.refl _) | (with_reducible refine Ext.undrew ?_) | (with_reducible refine Ext.grow ?_ _) | (with_reducible refine Ext.drew ?_) | (with_reducible refine Ext.drewN ?_ _) | (with_reducible refine Ext.alloc ?_ _) | (with_reducible assumption) | ((with_reducible refine Ext.setCell ?_ ?_ _); rotate_left; (first | exact Nat.le_refl _ | ((try dsimp only); (try simp only [World.size_alloc, grow_size, World.size_setCell]); omega))))), ?_⟩) | refine step_br ?_ ?_)
              all_goals refine step_nil ?_
              all_goals go_wp2
              all_goals go_ret
              all_goals exact ⟨rfl, (by repeat (first | (with_reducible exact Ext.refl _) | (with_reducible refine Ext.undrew ?_) | (with_reducible refine Ext.grow ?_ _) | (with_reducible refine Ext.drew ?_) | (with_reducible refine Ext.drewN ?_ _) | (with_reducible refine Ext.alloc ?_ _) | (with_reducible assumption) | ((with_reducible refine Ext.setCell ?_ ?_ _); rotate_left; (first | exact Nat.le_refl _ | ((try dsimp only); (try simp only [World.size_alloc, grow_size, World.size_setCell]); omega)))))⟩
          · have hB : decide (op0 = op0 ∧ ra0 = ra0 ∧ rb0 = rb1 ∧ rc0 = rc1) = false := by simp [e]
            have hS := putI_str h0 h1 (B := false) hB
            obtain ⟨y2, y3, e1, _, _, _, _⟩ := putI_list h0
            obtain ⟨z2, z3, f1, _, _, _, _⟩ := putI_list h1
            obtain ⟨⟨b00, b01⟩⟩ : Nonempty (0 ≤ op0 ∧ op0 ≤ 29) := ⟨kd_bd (right_bd h0).1⟩
            obtain ⟨⟨b10, b11⟩⟩ : Nonempty (0 ≤ op0 ∧ op0 ≤ 29) := ⟨kd_bd (right_bd h1).1⟩
            have HS := hid hS
            have HE1 := hid e1
            have HF1 := hid f1
            have H0 := hid h0
            have H1 := hid h1
            clear hB hS e1 f1 h0 h1
            go_enter Try.func9, Try.ntmps9
            go_wp2_with (go_at_call 10; refine Calls.mono (head _) ?_; rintro e wh ⟨rfl, hxh⟩; obtain ⟨dh, rfl⟩ := hxh.grown; clear hxh)
            refine Calls.mono (put_yes op0 ra0 rb0 rc0 _ H0.out) ?_
            rintro e w' ⟨q1, ca1, rfl, hl1, hm1, hq1, hrd1, hy⟩
            have hqs1 : q1 < w'.heap.size := by obtain ⟨_, _, hA, hb, _⟩ := hrd1 (by rw [putI_length]; omega); cases hA; exact hb
            have k1 : w'.cell? ⟨q1, 0, none⟩ = some (.int .u8 op0) := by
              have h := hrd1
              rw [HE1.out] at h
              obtain ⟨_, _, hA, _, hc⟩ := h (by simp)
              cases hA
              exact hc 0 (by simp)
            obtain ⟨d1, rfl⟩ := hy.grown
            clear hy
            simp only [grow_size, World.size_alloc] at hqs1
            have HR1 := hid hrd1
            clear hrd1
            go_wp2_with fail
            refine Calls.mono (put_yes op0 ra0 rb1 rc1 _ H1.out) ?_
            rintro e w' ⟨q2, ca2, rfl, hl2, hm2, hq2, hrd2, hy⟩
            have hqs2 : q2 < w'.heap.size := by obtain ⟨_, _, hA, hb, _⟩ := hrd2 (by rw [putI_length]; omega); cases hA; exact hb
            have k2 : w'.cell? ⟨q2, 0, none⟩ = some (.int .u8 op0) := by
              have h := hrd2
              rw [HF1.out] at h
              obtain ⟨_, _, hA, _, hc⟩ := h (by simp)
              cases hA
              exact hc 0 (by simp)
            obtain ⟨d2, rfl⟩ := hy.grown
            clear hy
            simp only [grow_size, World.size_alloc] at hqs2
            have HR2 := hid hrd2
            clear hrd2
            go_wp2_with fail
            have hS := HS.out
            refine wp_region_step (.rd 0 (.rd 1 (.rd 2 (.rd 3 (.rd 4 (.rd 5 (.rd 6 (.rd 7 (.rd 8 (.rd 9 (.rd 10 (.rd 11 (.rd 12 (.rd 13 (.rd 14 (.rd 15 (.rd 16 (.rd 17 (.rd 18 (.rd 19 (.rd 20 (.rd 21 (.rd 22 (.rd 23 (.rd 24 (.rd 25 (.rd 26 (.rd 27 (.rd 28 (.rd 29 (.rd 30 .done))))))))))))))))))))))))))))))) (by kernel_rfl) (by kernel_rfl) (fun _ _ d _ _ h => by cases d <;> exact h) (by simp only [Ord.map, nthOp, List.append]; rfl) ?_
            intro d0
            repeat' (first | (refine step_read (by rfl) (fun K hK => ?_); refine quiet_strI (.tmp 24) rfl _ _ _ _ _ _ rfl (RdB.ext (Hid.out (by assumption)) (by repeat (first | (with_reducible exact Ext.refl _) | (with_reducible refine Ext.undrew ?_) | (with_reducible refine Ext.grow ?_ _) | (with_reducible refine Ext.drew ?_) | (with_reducible refine Ext.drewN ?_ _) | (with_reducible refine Ext.alloc ?_ _) | (with_reducible assumption) | ((with_reducible refine Ext.setCell ?_ ?_ _); rotate_left; (first | exact Nat.le_refl _ | ((try dsimp only); (try simp only [World.size_alloc, grow_size, World.size_setCell]); omega)))))) ?_; refine hK _ ?_; clear hK K; simp only [Act.put, List.setIfInBounds_toArray, List.set_cons_zero, List.set_cons_succ]) | (refine step_read (by rfl) (fun K hK => ?_); refine quiet_strI (.tmp 26) rfl _ _ _ _ _ _ rfl (RdB.ext (Hid.out (by assumption)) (by repeat (first | (with_reducible exact Ext.refl _) | (with_reducible refine Ext.undrew ?_) | (with_reducible refine Ext.grow ?_ _) | (with_reducible refine Ext.drew ?_) | (with_reducible refine Ext.drewN ?_ _) | (with_reducible refine Ext.alloc ?_ _) | (with_reducible assumption) | ((with_reducible refine Ext.setCell ?_ ?_ _); rotate_left; (first | exact Nat.le_refl _ | ((try dsimp only); (try simp only [World.size_alloc, grow_size, World.size_setCell]); omega)))))) ?_; refine hK _ ?_; clear hK K; simp only [Act.put, List.setIfInBounds_toArray, List.set_cons_zero, List.set_cons_succ]) | (refine step_read (by rfl) (fun K hK => ?_); go_big_quiet_op; refine hK _ ?_; clear hK K) | (refine step_act (by rfl) (fun K hK => ?_); go_wp2_with (first | fail); refine ⟨_, Ext.refl _, (by repeat (first | (with_reducible exact Ext.refl _) | (with_reducible refine Ext.undrew ?_) | (with_reducible refine Ext.grow ?_ _) | (with_reducible refine Ext.drew ?_) | (with_reducible refine Ext.drewN ?_ _) | (with_reducible refine Ext.alloc ?_ _) | (with_reducible assumption) | ((with_reducible refine Ext.setCell ?_ ?_ _); rotate_left; (first | exact Nat.le_refl _ | ((try dsimp only); (try simp only [World.size_alloc, grow_size, World.size_setCell]); omega))))), ?_⟩) | refine step_br ?_ ?_)
            all_goals refine step_nil ?_
            all_goals go_wp2
            all_goals go_ret
            all_goals exact ⟨rfl, (by repeat (first | (with_reducible exact Ext.refl _) | (with_reducible refine Ext.undrew ?_) | (with_reducible refine Ext.grow ?_ _) | (with_reducible refine Ext.drew ?_) | (with_reducible refine Ext.drewN ?_ _) | (with_reducible refine Ext.alloc ?_ _) | (with_reducible assumption) | ((with_reducible refine Ext.setCell ?_ ?_ _); rotate_left; (first | exact Nat.le_refl _ | ((try dsimp only); (try simp only [World.size_alloc, grow_size, World.size_setCell]); omega)))))⟩
        · have hB : decide (op0 = op0 ∧ ra0 = ra1 ∧ rb0 = rb1 ∧ rc0 = rc1) = false := by simp [e]
          have hS := putI_str h0 h1 (B := false) hB
          obtain ⟨y2, y3, e1, _, _, _, _⟩ := putI_list h0
          obtain ⟨z2, z3, f1, _, _, _, _⟩ := putI_list h1
          obtain ⟨⟨b00, b01⟩⟩ : Nonempty (0 ≤ op0 ∧ op0 ≤ 29) := ⟨kd_bd (right_bd h0).1⟩
          obtain ⟨⟨b10, b11⟩⟩ : Nonempty (0 ≤ op0 ∧ op0 ≤ 29) := ⟨kd_bd (right_bd h1).1⟩
          have HS := hid hS
          have HE1 := hid e1
          have HF1 := hid f1
          have H0 := hid h0
          have H1 := hid h1
          clear hB hS e1 f1 h0 h1
          go_enter Try.func9, Try.ntmps9
          go_wp2_with (go_at_call 10; refine Calls.mono (head _) ?_; rintro e wh ⟨rfl, hxh⟩; obtain ⟨dh, rfl⟩ := hxh.grown; clear hxh)
          refine Calls.mono (put_yes op0 ra0 rb0 rc0 _ H0.out) ?_
          rintro e w' ⟨q1, ca1, rfl, hl1, hm1, hq1, hrd1, hy⟩
          have hqs1 : q1 < w'.heap.size := by obtain ⟨_, _, hA, hb, _⟩ := hrd1 (by rw [putI_length]; omega); cases hA; exact hb
          have k1 : w'.cell? ⟨q1, 0, none⟩ = some (.int .u8 op0) := by
            have h := hrd1
            rw [HE1.out] at h
            obtain ⟨_, _, hA, _, hc⟩ := h (by simp)
            cases hA
            exact hc 0 (by simp)
          obtain ⟨d1, rfl⟩ := hy.grown
          clear hy
          simp only [grow_size, World.size_alloc] at hqs1
          have HR1 := hid hrd1
          clear hrd1
          go_wp2_with fail
          refine Calls.mono (put_yes op0 ra1 rb1 rc1 _ H1.out) ?_
          rintro e w' ⟨q2, ca2, rfl, hl2, hm2, hq2, hrd2, hy⟩
          have hqs2 : q2 < w'.heap.size := by obtain ⟨_, _, hA, hb, _⟩ := hrd2 (by rw [putI_length]; omega); cases hA; exact hb
          have k2 : w'.cell? ⟨q2, 0, none⟩ = some (.int .u8 op0) := by
            have h := hrd2
            rw [HF1.out] at h
            obtain ⟨_, _, hA, _, hc⟩ := h (by simp)
            cases hA
            exact hc 0 (by simp)
          obtain ⟨d2, rfl⟩ := hy.grown
          clear hy
          simp only [grow_size, World.size_alloc] at hqs2
          have HR2 := hid hrd2
          clear hrd2
          go_wp2_with fail
          have hS := HS.out
          refine wp_region_step (.rd 0 (.rd 1 (.rd 2 (.rd 3 (.rd 4 (.rd 5 (.rd 6 (.rd 7 (.rd 8 (.rd 9 (.rd 10 (.rd 11 (.rd 12 (.rd 13 (.rd 14 (.rd 15 (.rd 16 (.rd 17 (.rd 18 (.rd 19 (.rd 20 (.rd 21 (.rd 22 (.rd 23 (.rd 24 (.rd 25 (.rd 26 (.rd 27 (.rd 28 (.rd 29 (.rd 30 .done))))))))))))))))))))))))))))))) (by kernel_rfl) (by kernel_rfl) (fun _ _ d _ _ h => by cases d <;> exact h) (by simp only [Ord.map, nthOp, List.append]; rfl) ?_
          intro d0
          repeat' (first | (refine step_read (by rfl) (fun K hK => ?_); refine quiet_strI (.tmp 24) rfl _ _ _ _ _ _ rfl (RdB.ext (Hid.out (by assumption)) (by repeat (first | (with_reducible exact Ext.refl _) | (with_reducible refine Ext.undrew ?_) | (with_reducible refine Ext.grow ?_ _) | (with_reducible refine Ext.drew ?_) | (with_reducible refine Ext.drewN ?_ _) | (with_reducible refine Ext.alloc ?_ _) | (with_reducible assumption) | ((with_reducible refine Ext.setCell ?_ ?_ _); rotate_left; (first | exact Nat.le_refl _ | ((try dsimp only); (try simp only [World.size_alloc, grow_size, World.size_setCell]); omega)))))) ?_; refine hK _ ?_; clear hK K; simp only [Act.put, List.setIfInBounds_toArray, List.set_cons_zero, List.set_cons_succ]) | (refine step_read (by rfl) (fun K hK => ?_); refine quiet_strI (.tmp 26) rfl _ _ _ _ _ _ rfl (RdB.ext (Hid.out (by assumption)) (by repeat (first | (with_reducible exact Ext.refl _) | (with_reducible refine Ext.undrew ?_) | (with_reducible refine Ext.grow ?_ _) | (with_reducible refine Ext.drew ?_) | (with_reducible refine Ext.drewN ?_ _) | (with_reducible refine Ext.alloc ?_ _) | (with_reducible assumption) | ((with_reducible refine Ext.setCell ?_ ?_ _); rotate_left; (first | exact Nat.le_refl _ | ((try dsimp only); (try simp only [World.size_alloc, grow_size, World.size_setCell]); omega)))))) ?_; refine hK _ ?_; clear hK K; simp only [Act.put, List.setIfInBounds_toArray, List.set_cons_zero, List.set_cons_succ]) | (refine step_read (by rfl) (fun K hK => ?_); go_big_quiet_op; refine hK _ ?_; clear hK K) | (refine step_act (by rfl) (fun K hK => ?_); go_wp2_with (first | fail); refine ⟨_, Ext.refl _, (by repeat (first | (with_reducible exact Ext.refl _) | (with_reducible refine Ext.undrew ?_) | (with_reducible refine Ext.grow ?_ _) | (with_reducible refine Ext.drew ?_) | (with_reducible refine Ext.drewN ?_ _) | (with_reducible refine Ext.alloc ?_ _) | (with_reducible assumption) | ((with_reducible refine Ext.setCell ?_ ?_ _); rotate_left; (first | exact Nat.le_refl _ | ((try dsimp only); (try simp only [World.size_alloc, grow_size, World.size_setCell]); omega))))), ?_⟩) | refine step_br ?_ ?_)
          all_goals refine step_nil ?_
          all_goals go_wp2
          all_goals go_ret
          all_goals exact ⟨rfl, (by repeat (first | (with_reducible exact Ext.refl _) | (with_reducible refine Ext.undrew ?_) | (with_reducible refine Ext.grow ?_ _) | (with_reducible refine Ext.drew ?_) | (with_reducible refine Ext.drewN ?_ _) | (with_reducible refine Ext.alloc ?_ _) | (with_reducible assumption) | ((with_reducible refine Ext.setCell ?_ ?_ _); rotate_left; (first | exact Nat.le_refl _ | ((try dsimp only); (try simp only [World.size_alloc, grow_size, World.size_setCell]); omega)))))⟩
      · have hB : decide (op0 = op1 ∧ ra0 = ra1 ∧ rb0 = rb1 ∧ rc0 = rc1) = false := by simp [e]
        have hS := putI_str h0 h1 (B := false) hB
        obtain ⟨y2, y3, e1, _, _, _, _⟩ := putI_list h0
        obtain ⟨z2, z3, f1, _, _, _, _⟩ := putI_list h1
        obtain ⟨⟨b00, b01⟩⟩ : Nonempty (0 ≤ op0 ∧ op0 ≤ 29) := ⟨kd_bd (right_bd h0).1⟩
        obtain ⟨⟨b10, b11⟩⟩ : Nonempty (0 ≤ op1 ∧ op1 ≤ 29) := ⟨kd_bd (right_bd h1).1⟩
        have HS := hid hS
        have HE1 := hid e1
        have HF1 := hid f1
        have H0 := hid h0
        have H1 := hid h1
        clear hB hS e1 f1 h0 h1
        go_enter Try.func9, Try.ntmps9
        go_wp2_with (go_at_call 10; refine Calls.mono (head _) ?_; rintro e wh ⟨rfl, hxh⟩; obtain ⟨dh, rfl⟩ := hxh.grown; clear hxh)
        refine Calls.mono (put_yes op0 ra0 rb0 rc0 _ H0.out) ?_
        rintro e w' ⟨q1, ca1, rfl, hl1, hm1, hq1, hrd1, hy⟩
        have hqs1 : q1 < w'.heap.size := by obtain ⟨_, _, hA, hb, _⟩ := hrd1 (by rw [putI_length]; omega); cases hA; exact hb
        have k1 : w'.cell? ⟨q1, 0, none⟩ = some (.int .u8 op0) := by
          have h := hrd1
          rw [HE1.out] at h
          obtain ⟨_, _, hA, _, hc⟩ := h (by simp)
          cases hA
          exact hc 0 (by simp)
        obtain ⟨d1, rfl⟩ := hy.grown
        clear hy
        simp only [grow_size, World.size_alloc] at hqs1
        have HR1 := hid hrd1
        clear hrd1
        go_wp2_with fail
        refine Calls.mono (put_yes op1 ra1 rb1 rc1 _ H1.out) ?_
        rintro e w' ⟨q2, ca2, rfl, hl2, hm2, hq2, hrd2, hy⟩
        have hqs2 : q2 < w'.heap.size := by obtain ⟨_, _, hA, hb, _⟩ := hrd2 (by rw [putI_length]; omega); cases hA; exact hb
        have k2 : w'.cell? ⟨q2, 0, none⟩ = some (.int .u8 op1) := by
          have h := hrd2
          rw [HF1.out] at h
          obtain ⟨_, _, hA, _, hc⟩ := h (by simp)
          cases hA
          exact hc 0 (by simp)
        obtain ⟨d2, rfl⟩ := hy.grown
        clear hy
        simp only [grow_size, World.size_alloc] at hqs2
        have HR2 := hid hrd2
        clear hrd2
        go_wp2_with fail
        have hS := HS.out
        refine wp_region_step (.rd 0 (.rd 1 (.rd 2 (.rd 3 (.rd 4 (.rd 5 (.rd 6 (.rd 7 (.rd 8 (.rd 9 (.rd 10 (.rd 11 (.rd 12 (.rd 13 (.rd 14 (.rd 15 (.rd 16 (.rd 17 (.rd 18 (.rd 19 (.rd 20 (.rd 21 (.rd 22 (.rd 23 (.rd 24 (.rd 25 (.rd 26 (.rd 27 (.rd 28 (.rd 29 (.rd 30 .done))))))))))))))))))))))))))))))) (by kernel_rfl) (by kernel_rfl) (fun _ _ d _ _ h => by cases d <;> exact h) (by simp only [Ord.map, nthOp, List.append]; rfl) ?_
        intro d0
        repeat' (first | (refine step_read (by rfl) (fun K hK => ?_); refine quiet_strI (.tmp 24) rfl _ _ _ _ _ _ rfl (RdB.ext (Hid.out (by assumption)) (by repeat (first | (with_reducible exact Ext.refl _) | (with_reducible refine Ext.undrew ?_) | (with_reducible refine Ext.grow ?_ _) | (with_reducible refine Ext.drew ?_) | (with_reducible refine Ext.drewN ?_ _) | (with_reducible refine Ext.alloc ?_ _) | (with_reducible assumption) | ((with_reducible refine Ext.setCell ?_ ?_ _); rotate_left; (first | exact Nat.le_refl _ | ((try dsimp only); (try simp only [World.size_alloc, grow_size, World.size_setCell]); omega)))))) ?_; refine hK _ ?_; clear hK K; simp only [Act.put, List.setIfInBounds_toArray, List.set_cons_zero, List.set_cons_succ]) | (refine step_read (by rfl) (fun K hK => ?_); refine quiet_strI (.tmp 26) rfl _ _ _ _ _ _ rfl (RdB.ext (Hid.out (by assumption)) (by repeat (first | (with_reducible exact Ext.refl _) | (with_reducible refine Ext.undrew ?_) | (with_reducible refine Ext.grow ?_ _) | (with_reducible refine Ext.drew ?_) | (with_reducible refine Ext.drewN ?_ _) | (with_reducible refine Ext.alloc ?_ _) | (with_reducible assumption) | ((with_reducible refine Ext.setCell ?_ ?_ _); rotate_left; (first | exact Nat.le_refl _ | ((try dsimp only); (try simp only [World.size_alloc, grow_size, World.size_setCell]); omega)))))) ?_; refine hK _ ?_; clear hK K; simp only [Act.put, List.setIfInBounds_toArray, List.set_cons_zero, List.set_cons_succ]) | (refine step_read (by rfl) (fun K hK => ?_); go_big_quiet_op; refine hK _ ?_; clear hK K) | (refine step_act (by rfl) (fun K hK => ?_); go_wp2_with (first | fail); refine ⟨_, Ext.refl _, (by repeat (first | (with_reducible exact Ext.refl _) | (with_reducible refine Ext.undrew ?_) | (with_reducible refine Ext.grow ?_ _) | (with_reducible refine Ext.drew ?_) | (with_reducible refine Ext.drewN ?_ _) | (with_reducible refine Ext.alloc ?_ _) | (with_reducible assumption) | ((with_reducible refine Ext.setCell ?_ ?_ _); rotate_left; (first | exact Nat.le_refl _ | ((try dsimp only); (try simp only [World.size_alloc, grow_size, World.size_setCell]); omega))))), ?_⟩) | refine step_br ?_ ?_)
        all_goals refine step_nil ?_
        all_goals go_wp2
        all_goals go_ret
        all_goals exact ⟨rfl, (by repeat (first | (with_reducible exact Ext.refl _) | (with_reducible refine Ext.undrew ?_) | (with_reducible refine Ext.grow ?_ _) | (with_reducible refine Ext.drew ?_) | (with_reducible refine Ext.drewN ?_ _) | (with_reducible refine Ext.alloc ?_ _) | (with_reducible assumption) | ((with_reducible refine Ext.setCell ?_ ?_ _); rotate_left; (first | exact Nat.le_refl _ | ((try dsimp only); (try simp only [World.size_alloc, grow_size, World.size_setCell]); omega)))))⟩
end codeUnlike

end Go.Proofs.Ytcbniifpbcgamaa
