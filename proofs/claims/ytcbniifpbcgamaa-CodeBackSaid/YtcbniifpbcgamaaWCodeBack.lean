/- The walk of the law CodeBack. -/
import Derived.Test.YtcbniifpbcgamaaHead15
import Derived.Test.YtcbniifpbcgamaaCodM
namespace Go.Proofs.Ytcbniifpbcgamaa
set_option linter.unusedSimpArgs false
set_option linter.unusedVariables false
open Go.RowKit

theorem wfu32 {n : Int} (h : (Lit.int .u32 n).wf = true) : 0 ≤ n ∧ n ≤ 4294967295 := by
  simpa [Lit.wf, IntKind.min, IntKind.max, IntKind.signed, IntKind.bits] using h
theorem wfu8 {n : Int} (h : (Lit.int .u8 n).wf = true) : 0 ≤ n ∧ n ≤ 255 := by
  simpa [Lit.wf, IntKind.min, IntKind.max, IntKind.signed, IntKind.bits] using h
theorem wfi16 {n : Int} (h : (Lit.int .i16 n).wf = true) : -32768 ≤ n ∧ n ≤ 32767 := by
  simpa [Lit.wf, IntKind.min, IntKind.max, IntKind.signed, IntKind.bits] using h
theorem wfi32 {n : Int} (h : (Lit.int .i32 n).wf = true) : -2147483648 ≤ n ∧ n ≤ 2147483647 := by
  simpa [Lit.wf, IntKind.min, IntKind.max, IntKind.signed, IntKind.bits] using h
theorem quiet_str4l {o : Oper} {a : Act} {w : World} {K : Act → Prop} (x : Operand) (ho : o.op = .convert 24 9 x) (A : Option Addr) (c : Nat) (p q r s : Int) (hx : a.eval x = .slice A 4 c) (hr : RdB w A [p, q, r, s]) (k : K (a.put o.dst (.string (strOf [p, q, r, s])))) : o.quiet Try.prog a (Grown w) K :=
  quiet_str 24 9 5 x ho Try.underlying24 Try.underlying5 Try.underlying9 A c 4 [p, q, r, s] hx rfl hr (fun h => absurd h (by simp)) k
namespace codeBack
set_option maxRecDepth 100000 in
set_option maxHeartbeats 16000000 in
theorem walk (op0 ra0 rb0 rc0 : Int) (a1 : Int) (w : World) (wop0 : (Lit.int .i64 op0).wf = true) (wra0 : (Lit.int .i64 ra0).wf = true) (wrb0 : (Lit.int .i64 rb0).wf = true) (wrc0 : (Lit.int .i64 rc0).wf = true) (w1 : (Lit.int .u32 a1).wf = true) :
    Calls Try.prog 4 #[.agg #[.int .i64 op0, .int .i64 ra0, .int .i64 rb0, .int .i64 rc0], .int .u32 a1] w fun e w' => e = .returned (.bool true) ∧ Ext w w' := by
  obtain ⟨a1l, a1u⟩ := wfu32 w1
  clear w1
  obtain ⟨x0, hx0⟩ : ∃ x, a1 / 16777216 = x := ⟨_, rfl⟩
  obtain ⟨x1, hx1⟩ : ∃ x, a1 / 65536 % 256 = x := ⟨_, rfl⟩
  obtain ⟨x2, hx2⟩ : ∃ x, a1 / 256 % 256 = x := ⟨_, rfl⟩
  obtain ⟨x3, hx3⟩ : ∃ x, a1 % 256 = x := ⟨_, rfl⟩
  have HB0 := hid (show 0 ≤ x0 ∧ x0 ≤ 255 by omega)
  have HB1 := hid (show 0 ≤ x1 ∧ x1 ≤ 255 by omega)
  have HB2 := hid (show 0 ≤ x2 ∧ x2 ≤ 255 by omega)
  have HB3 := hid (show 0 ≤ x3 ∧ x3 ≤ 255 by omega)
  have HGP := hid (getI_put HB0.out HB1.out HB2.out HB3.out)
  cases h0 : rightI op0 ra0 rb0 rc0 with
  | false =>
    have H0 := hid h0
    clear h0
    cases hRi : rightI x0 x1 (gB x0 x2 x3) (gC x0 x3) with
    | false =>
      have HG := hid (getR_no4 hRi)
      have HRi := hid hRi
      clear hRi
      go_enter Try.func4, Try.ntmps4
      go_wp2_with (first | (go_at_call 10; refine Calls.mono (head _) ?_; rintro e wh ⟨rfl, hxh⟩; obtain ⟨dh, rfl⟩ := hxh.grown; clear hxh) | (go_at_call 19; refine Calls.mono (put_no _ _ _ _ _ H0.out) ?_; rintro e w' ⟨rfl, hy⟩; obtain ⟨dx, rfl⟩ := hy.grown; clear hy) | (go_at_call 17; with_reducible refine Calls.mono (right_ op0 ra0 rb0 rc0 _) ?_; rw [H0.out]; rintro e w' ⟨rfl, hy⟩; obtain ⟨dx, rfl⟩ := hy.grown; clear hy))
      go_wp2_with fail
      refine Calls.mono (get_all _ 0 4 x0 x1 x2 x3 _ (by exact rdb_new _ [x0, x1, x2, x3] _ (by simp [grow_size])) (by omega) (by decide) HB0.out HB1.out HB2.out HB3.out) ?_
      rw [HG.out]
      rintro e w8 ⟨rfl, hy⟩
      have hN := RdB.ext (rdb_new _ [x0, x1, x2, x3] _ rfl) hy
      simp only [grow_size, World.size_alloc] at hN
      have HN := hid hN
      clear hN
      obtain ⟨d8, rfl⟩ := hy.grown
      clear hy
      go_wp2
      go_ret
      exact ⟨rfl, (by repeat (first | (with_reducible exact Ext.refl _) | (with_reducible refine Ext.undrew ?_) | (with_reducible refine Ext.grow ?_ _) | (with_reducible refine Ext.drew ?_) | (with_reducible refine Ext.drewN ?_ _) | (with_reducible refine Ext.alloc ?_ _) | (with_reducible assumption) | ((with_reducible refine Ext.setCell ?_ ?_ _); rotate_left; (first | exact Nat.le_refl _ | ((try dsimp only); (try simp only [World.size_alloc, grow_size, World.size_setCell]); omega)))))⟩
    | true =>
      have HG := hid (getR_ok4 hRi rfl rfl)
      have HRi := hid hRi
      clear hRi
      go_enter Try.func4, Try.ntmps4
      go_wp2_with (first | (go_at_call 10; refine Calls.mono (head _) ?_; rintro e wh ⟨rfl, hxh⟩; obtain ⟨dh, rfl⟩ := hxh.grown; clear hxh) | (go_at_call 19; refine Calls.mono (put_no _ _ _ _ _ H0.out) ?_; rintro e w' ⟨rfl, hy⟩; obtain ⟨dx, rfl⟩ := hy.grown; clear hy) | (go_at_call 17; with_reducible refine Calls.mono (right_ op0 ra0 rb0 rc0 _) ?_; rw [H0.out]; rintro e w' ⟨rfl, hy⟩; obtain ⟨dx, rfl⟩ := hy.grown; clear hy))
      go_wp2_with fail
      refine Calls.mono (get_all _ 0 4 x0 x1 x2 x3 _ (by exact rdb_new _ [x0, x1, x2, x3] _ (by simp [grow_size])) (by omega) (by decide) HB0.out HB1.out HB2.out HB3.out) ?_
      rw [HG.out]
      rintro e w8 ⟨rfl, hy⟩
      have hN := RdB.ext (rdb_new _ [x0, x1, x2, x3] _ rfl) hy
      simp only [grow_size, World.size_alloc] at hN
      have HN := hid hN
      clear hN
      obtain ⟨d8, rfl⟩ := hy.grown
      clear hy
      go_wp2_with fail
      refine wp_region_step (.rd 0 (.rd 1 (.rd 2 (.ac 3 (.rd 4 (.rd 5 (.rd 6 (.rd 9 (.rd 10 (.ac 7 (.rd 8 (.rd 11 (.rd 12 (.rd 13 .done)))))))))))))) (by kernel_rfl) (by kernel_rfl) (fun _ _ d _ _ h => by cases d <;> exact h) (by simp only [Ord.map, nthOp, List.append]; rfl) ?_
      intro d0
      repeat' (first | (refine step_read (by rfl) (fun K hK => ?_); refine quiet_str4l (.tmp 82) rfl _ _ _ _ _ _ rfl (RdB.ext (Hid.out (by assumption)) (by repeat (first | (with_reducible exact Ext.refl _) | (with_reducible refine Ext.undrew ?_) | (with_reducible refine Ext.grow ?_ _) | (with_reducible refine Ext.drew ?_) | (with_reducible refine Ext.drewN ?_ _) | (with_reducible refine Ext.alloc ?_ _) | (with_reducible assumption) | ((with_reducible refine Ext.setCell ?_ ?_ _); rotate_left; (first | exact Nat.le_refl _ | ((try dsimp only); (try simp only [World.size_alloc, grow_size, World.size_setCell]); omega)))))) ?_; refine hK _ ?_; clear hK K; simp only [Act.put, List.setIfInBounds_toArray, List.set_cons_zero, List.set_cons_succ]) | (refine step_read (by rfl) (fun K hK => ?_); refine quiet_str4l (.tmp 84) rfl _ _ _ _ _ _ rfl (RdB.ext (Hid.out (by assumption)) (by repeat (first | (with_reducible exact Ext.refl _) | (with_reducible refine Ext.undrew ?_) | (with_reducible refine Ext.grow ?_ _) | (with_reducible refine Ext.drew ?_) | (with_reducible refine Ext.drewN ?_ _) | (with_reducible refine Ext.alloc ?_ _) | (with_reducible assumption) | ((with_reducible refine Ext.setCell ?_ ?_ _); rotate_left; (first | exact Nat.le_refl _ | ((try dsimp only); (try simp only [World.size_alloc, grow_size, World.size_setCell]); omega)))))) ?_; refine hK _ ?_; clear hK K; simp only [Act.put, List.setIfInBounds_toArray, List.set_cons_zero, List.set_cons_succ]) | (refine step_read (by rfl) (fun K hK => ?_); go_big_quiet_op; refine hK _ ?_; clear hK K) | (refine step_act (by rfl) (fun K hK => ?_); go_wp2_with (first | (go_at_call 17; with_reducible refine Calls.mono (right_ x0 x1 (gB x0 x2 x3) (gC x0 x3) _) ?_; rw [HRi.out]; rintro e w' ⟨rfl, hy⟩; obtain ⟨dx, rfl⟩ := hy.grown; clear hy) | (go_at_call 19; with_reducible refine Calls.mono (put_yes x0 x1 (gB x0 x2 x3) (gC x0 x3) _ HRi.out) ?_; rintro e w' ⟨q9, ca9, rfl, hl9, hm9, hq9, hrd9, hy⟩; rw [HGP.out] at hrd9; obtain ⟨d9, rfl⟩ := hy.grown; clear hy; have HR9 := hid hrd9; clear hrd9)); refine ⟨_, (by repeat (first | (with_reducible exact Ext.refl _) | (with_reducible refine Ext.undrew ?_) | (with_reducible refine Ext.grow ?_ _) | (with_reducible refine Ext.drew ?_) | (with_reducible refine Ext.drewN ?_ _) | (with_reducible refine Ext.alloc ?_ _) | (with_reducible assumption) | ((with_reducible refine Ext.setCell ?_ ?_ _); rotate_left; (first | exact Nat.le_refl _ | ((try dsimp only); (try simp only [World.size_alloc, grow_size, World.size_setCell]); omega))))), Ext.refl _, ?_⟩) | refine step_br ?_ ?_)
      all_goals refine step_nil ?_
      all_goals go_wp2
      all_goals go_ret
      all_goals exact ⟨rfl, (by repeat (first | (with_reducible exact Ext.refl _) | (with_reducible refine Ext.undrew ?_) | (with_reducible refine Ext.grow ?_ _) | (with_reducible refine Ext.drew ?_) | (with_reducible refine Ext.drewN ?_ _) | (with_reducible refine Ext.alloc ?_ _) | (with_reducible assumption) | ((with_reducible refine Ext.setCell ?_ ?_ _); rotate_left; (first | exact Nat.le_refl _ | ((try dsimp only); (try simp only [World.size_alloc, grow_size, World.size_setCell]); omega)))))⟩
  | true =>
    obtain ⟨y2, y3, e1, hy2, hy3, e2, e3⟩ := putI_list h0
    have HO := hid (And.intro (show 0 ≤ op0 ∧ op0 ≤ 255 by have := kd_bd (right_bd h0).1; omega) (And.intro (right_bd h0).2.1 (And.intro hy2 hy3)))
    have HGX := hid (getR_ok4 h0 e2 e3)
    have HE1 := hid e1
    have H0 := hid h0
    clear h0 e1 e2 e3 hy2 hy3
    cases hRi : rightI x0 x1 (gB x0 x2 x3) (gC x0 x3) with
    | false =>
      have HG := hid (getR_no4 hRi)
      have HRi := hid hRi
      clear hRi
      go_enter Try.func4, Try.ntmps4
      go_wp2_with (go_at_call 10; refine Calls.mono (head _) ?_; rintro e wh ⟨rfl, hxh⟩; obtain ⟨dh, rfl⟩ := hxh.grown; clear hxh)
      refine Calls.mono (put_yes op0 ra0 rb0 rc0 _ H0.out) ?_
      rintro e w' ⟨q1, ca1, rfl, hl1, hm1, hq1, hrd1, hy⟩
      rw [HE1.out] at hrd1
      obtain ⟨d1, rfl⟩ := hy.grown
      clear hy
      have HR1 := hid hrd1
      clear hrd1
      go_wp2_with (go_at_call 17; with_reducible refine Calls.mono (right_ op0 ra0 rb0 rc0 _) ?_; rw [H0.out]; rintro e w' ⟨rfl, hy⟩; obtain ⟨dx, rfl⟩ := hy.grown; clear hy)
      refine Calls.mono (get_all q1 0 ca1 op0 ra0 y2 y3 _ (RdB.ext HR1.out (by repeat (first | (with_reducible exact Ext.refl _) | (with_reducible refine Ext.undrew ?_) | (with_reducible refine Ext.grow ?_ _) | (with_reducible refine Ext.drew ?_) | (with_reducible refine Ext.drewN ?_ _) | (with_reducible refine Ext.alloc ?_ _) | (with_reducible assumption) | ((with_reducible refine Ext.setCell ?_ ?_ _); rotate_left; (first | exact Nat.le_refl _ | ((try dsimp only); (try simp only [World.size_alloc, grow_size, World.size_setCell]); omega)))))) hl1 hm1 HO.out.1 HO.out.2.1 HO.out.2.2.1 HO.out.2.2.2) ?_
      rw [HGX.out]
      rintro e w' ⟨rfl, hy⟩; obtain ⟨dx, rfl⟩ := hy.grown; clear hy
      go_wp2_with fail
      refine Calls.mono (get_all _ 0 4 x0 x1 x2 x3 _ (by exact rdb_new _ [x0, x1, x2, x3] _ (by simp [grow_size])) (by omega) (by decide) HB0.out HB1.out HB2.out HB3.out) ?_
      rw [HG.out]
      rintro e w8 ⟨rfl, hy⟩
      have hN := RdB.ext (rdb_new _ [x0, x1, x2, x3] _ rfl) hy
      simp only [grow_size, World.size_alloc] at hN
      have HN := hid hN
      clear hN
      obtain ⟨d8, rfl⟩ := hy.grown
      clear hy
      go_wp2
      go_ret
      exact ⟨rfl, (by repeat (first | (with_reducible exact Ext.refl _) | (with_reducible refine Ext.undrew ?_) | (with_reducible refine Ext.grow ?_ _) | (with_reducible refine Ext.drew ?_) | (with_reducible refine Ext.drewN ?_ _) | (with_reducible refine Ext.alloc ?_ _) | (with_reducible assumption) | ((with_reducible refine Ext.setCell ?_ ?_ _); rotate_left; (first | exact Nat.le_refl _ | ((try dsimp only); (try simp only [World.size_alloc, grow_size, World.size_setCell]); omega)))))⟩
    | true =>
      have HG := hid (getR_ok4 hRi rfl rfl)
      have HRi := hid hRi
      clear hRi
      go_enter Try.func4, Try.ntmps4
      go_wp2_with (go_at_call 10; refine Calls.mono (head _) ?_; rintro e wh ⟨rfl, hxh⟩; obtain ⟨dh, rfl⟩ := hxh.grown; clear hxh)
      refine Calls.mono (put_yes op0 ra0 rb0 rc0 _ H0.out) ?_
      rintro e w' ⟨q1, ca1, rfl, hl1, hm1, hq1, hrd1, hy⟩
      rw [HE1.out] at hrd1
      obtain ⟨d1, rfl⟩ := hy.grown
      clear hy
      have HR1 := hid hrd1
      clear hrd1
      go_wp2_with (go_at_call 17; with_reducible refine Calls.mono (right_ op0 ra0 rb0 rc0 _) ?_; rw [H0.out]; rintro e w' ⟨rfl, hy⟩; obtain ⟨dx, rfl⟩ := hy.grown; clear hy)
      refine Calls.mono (get_all q1 0 ca1 op0 ra0 y2 y3 _ (RdB.ext HR1.out (by repeat (first | (with_reducible exact Ext.refl _) | (with_reducible refine Ext.undrew ?_) | (with_reducible refine Ext.grow ?_ _) | (with_reducible refine Ext.drew ?_) | (with_reducible refine Ext.drewN ?_ _) | (with_reducible refine Ext.alloc ?_ _) | (with_reducible assumption) | ((with_reducible refine Ext.setCell ?_ ?_ _); rotate_left; (first | exact Nat.le_refl _ | ((try dsimp only); (try simp only [World.size_alloc, grow_size, World.size_setCell]); omega)))))) hl1 hm1 HO.out.1 HO.out.2.1 HO.out.2.2.1 HO.out.2.2.2) ?_
      rw [HGX.out]
      rintro e w' ⟨rfl, hy⟩; obtain ⟨dx, rfl⟩ := hy.grown; clear hy
      go_wp2_with fail
      refine Calls.mono (get_all _ 0 4 x0 x1 x2 x3 _ (by exact rdb_new _ [x0, x1, x2, x3] _ (by simp [grow_size])) (by omega) (by decide) HB0.out HB1.out HB2.out HB3.out) ?_
      rw [HG.out]
      rintro e w8 ⟨rfl, hy⟩
      have hN := RdB.ext (rdb_new _ [x0, x1, x2, x3] _ rfl) hy
      simp only [grow_size, World.size_alloc] at hN
      have HN := hid hN
      clear hN
      obtain ⟨d8, rfl⟩ := hy.grown
      clear hy
      go_wp2_with fail
      refine wp_region_step (.rd 0 (.rd 1 (.rd 2 (.ac 3 (.rd 4 (.rd 5 (.rd 6 (.rd 9 (.rd 10 (.ac 7 (.rd 8 (.rd 11 (.rd 12 (.rd 13 .done)))))))))))))) (by kernel_rfl) (by kernel_rfl) (fun _ _ d _ _ h => by cases d <;> exact h) (by simp only [Ord.map, nthOp, List.append]; rfl) ?_
      intro d0
      repeat' (first | (refine step_read (by rfl) (fun K hK => ?_); refine quiet_str4l (.tmp 82) rfl _ _ _ _ _ _ rfl (RdB.ext (Hid.out (by assumption)) (by repeat (first | (with_reducible exact Ext.refl _) | (with_reducible refine Ext.undrew ?_) | (with_reducible refine Ext.grow ?_ _) | (with_reducible refine Ext.drew ?_) | (with_reducible refine Ext.drewN ?_ _) | (with_reducible refine Ext.alloc ?_ _) | (with_reducible assumption) | ((with_reducible refine Ext.setCell ?_ ?_ _); rotate_left; (first | exact Nat.le_refl _ | ((try dsimp only); (try simp only [World.size_alloc, grow_size, World.size_setCell]); omega)))))) ?_; refine hK _ ?_; clear hK K; simp only [Act.put, List.setIfInBounds_toArray, List.set_cons_zero, List.set_cons_succ]) | (refine step_read (by rfl) (fun K hK => ?_); refine quiet_str4l (.tmp 84) rfl _ _ _ _ _ _ rfl (RdB.ext (Hid.out (by assumption)) (by repeat (first | (with_reducible exact Ext.refl _) | (with_reducible refine Ext.undrew ?_) | (with_reducible refine Ext.grow ?_ _) | (with_reducible refine Ext.drew ?_) | (with_reducible refine Ext.drewN ?_ _) | (with_reducible refine Ext.alloc ?_ _) | (with_reducible assumption) | ((with_reducible refine Ext.setCell ?_ ?_ _); rotate_left; (first | exact Nat.le_refl _ | ((try dsimp only); (try simp only [World.size_alloc, grow_size, World.size_setCell]); omega)))))) ?_; refine hK _ ?_; clear hK K; simp only [Act.put, List.setIfInBounds_toArray, List.set_cons_zero, List.set_cons_succ]) | (refine step_read (by rfl) (fun K hK => ?_); go_big_quiet_op; refine hK _ ?_; clear hK K) | (refine step_act (by rfl) (fun K hK => ?_); go_wp2_with (first | (go_at_call 17; with_reducible refine Calls.mono (right_ x0 x1 (gB x0 x2 x3) (gC x0 x3) _) ?_; rw [HRi.out]; rintro e w' ⟨rfl, hy⟩; obtain ⟨dx, rfl⟩ := hy.grown; clear hy) | (go_at_call 19; with_reducible refine Calls.mono (put_yes x0 x1 (gB x0 x2 x3) (gC x0 x3) _ HRi.out) ?_; rintro e w' ⟨q9, ca9, rfl, hl9, hm9, hq9, hrd9, hy⟩; rw [HGP.out] at hrd9; obtain ⟨d9, rfl⟩ := hy.grown; clear hy; have HR9 := hid hrd9; clear hrd9)); refine ⟨_, (by repeat (first | (with_reducible exact Ext.refl _) | (with_reducible refine Ext.undrew ?_) | (with_reducible refine Ext.grow ?_ _) | (with_reducible refine Ext.drew ?_) | (with_reducible refine Ext.drewN ?_ _) | (with_reducible refine Ext.alloc ?_ _) | (with_reducible assumption) | ((with_reducible refine Ext.setCell ?_ ?_ _); rotate_left; (first | exact Nat.le_refl _ | ((try dsimp only); (try simp only [World.size_alloc, grow_size, World.size_setCell]); omega))))), Ext.refl _, ?_⟩) | refine step_br ?_ ?_)
      all_goals refine step_nil ?_
      all_goals go_wp2
      all_goals go_ret
      all_goals exact ⟨rfl, (by repeat (first | (with_reducible exact Ext.refl _) | (with_reducible refine Ext.undrew ?_) | (with_reducible refine Ext.grow ?_ _) | (with_reducible refine Ext.drew ?_) | (with_reducible refine Ext.drewN ?_ _) | (with_reducible refine Ext.alloc ?_ _) | (with_reducible assumption) | ((with_reducible refine Ext.setCell ?_ ?_ _); rotate_left; (first | exact Nat.le_refl _ | ((try dsimp only); (try simp only [World.size_alloc, grow_size, World.size_setCell]); omega)))))⟩
end codeBack

end Go.Proofs.Ytcbniifpbcgamaa
