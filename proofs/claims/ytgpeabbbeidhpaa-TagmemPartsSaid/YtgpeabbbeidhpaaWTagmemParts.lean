/- The walk of TagmemParts. -/
import Derived.Test.YtgpeabbbeidhpaaTagQ
namespace Go.Proofs.Ytgpeabbbeidhpaa
set_option linter.unusedSimpArgs false
set_option linter.unusedVariables false
open Go.RowKit

open Go.Deep Go.RowKit
namespace tagmemParts
set_option maxRecDepth 100000 in
set_option maxHeartbeats 8000000 in
theorem walk (A0 : Option Addr) (cap0 : Nat) (zs0 : List TOp) (a1 : Int) (A2 : Option Addr) (cap2 : Nat) (bl2 : List Int) (a3 : Int) (w : World) (wl0 : zs0.length ≤ maxLen) (hs0 : SlAtN w A0 10 (zs0.map TOp.cells)) (wz0 : ∀ z ∈ zs0, z.good w) (w1 : (Lit.int .u16 a1).wf = true) (wl2 : bl2.length ≤ cap2 ∧ cap2 ≤ maxLen) (hs2 : RdB w A2 bl2) (wz2 : byteL bl2) (wn2 : A2 = none → cap2 = 0) (w3 : (Lit.int .u8 a3).wf = true) :
    Calls Try.prog 7 #[.slice A0 zs0.length cap0, .int .u16 a1, .slice A2 bl2.length cap2, .int .u8 a3] w fun e w' => e = .returned (.bool true) ∧ Ext w w' := by
  have ha' : 0 ≤ a1 ∧ a1 ≤ 65535 := by simpa [Lit.wf, IntKind.min, IntKind.max, IntKind.signed, IntKind.bits] using w1
  have hb' : 0 ≤ a3 ∧ a3 ≤ 255 := by simpa [Lit.wf, IntKind.min, IntKind.max, IntKind.signed, IntKind.bits] using w3
  obtain ⟨ha0, ha1⟩ := ha'
  obtain ⟨hb0', hb1'⟩ := hb'
  clear w1 w3
  have HSL := hid hs0
  have HWZ := hid wz0
  have HRB := hid hs2
  have HBL := hid wz2
  obtain ⟨hcap, hcm⟩ := wl2
  unfold maxLen at hcm
  obtain ⟨m, hm⟩ : ∃ m, bl2.length = m := ⟨_, rfl⟩
  have HM := hid hm
  rw [hm] at hcap ⊢
  clear hs0 wz0 hs2 wz2 hm
  by_cases hlen : m ≤ 1000
  · have hli : ¬ (1000 : Int) < (m : Int) := by omega
    go_enter Try.func7, Try.ntmps7
    go_upto_region 2 with (go_at_call 8; refine Calls.mono (head_ _) ?_; rintro e wh ⟨rfl, hxh⟩)
    go_upto_region 3 with (go_at_call 10; refine (hNew 4 4 (by decide) _ (by decide) (by decide)).mono ?_; rintro e w1 ⟨q, rfl, g, HM1⟩)
    go_upto_region 4 with (go_at_call 10; refine (hNew 4 4 (by decide) _ (by decide) (by decide)).mono ?_; rintro e w2 ⟨r, rfl, s, HM2⟩)
    have HTW : Hid (TW w w2 q g r s 4 (fun _ => 0) (fun _ => false) (fun _ => false) (fun _ => 0) (fun _ => false) (fun _ => false)) := hid (TW.two ⟨HM1.out.1, hxh.trans HM1.out.2.1, Nat.le_trans hxh.size HM1.out.2.2.1, Nat.le_trans hxh.size HM1.out.2.2.2⟩ HM2.out)
    clear HM1 HM2 hxh
    go_wp2_with (go_at_call 9; refine (great_ A0 cap0 zs0 _ wl0 (HSL.out.ext HTW.out.h1.2.1)).mono ?_; rintro e w3 ⟨b, rfl, hx3, hgr⟩; rcases b with _ | _)
    rotate_left
    · go_ret
      exact ⟨rfl, HTW.out.h1.2.1.trans hx3⟩
    · skip
      have HT3 := hid (HTW.out.ext hx3)
      have hlen0 : zs0.length ≤ 200 := by first | exact hgr.out rfl | exact hgr.out trivial | exact hgr.out
      clear HTW hx3 hgr
      go_loopw [12] (fun i wr => ∃ (k : Nat) (B : Nat → Int) (T D : Nat → Bool), k ≤ zs0.length ∧ i = .int .i64 k ∧ Hid (TW w wr q g r s 4 B T D B T D)) (fun i _ => zs0.length - (intOf i).toNat)
      case atStart => exact ⟨0, _, _, _, Nat.zero_le _, rfl, HT3⟩
      case round =>
        clear HT3
        obtain ⟨k, B, T, D, hk, rfl, HTg⟩ := hrel
        have hk3 : (0 : Int) ≤ (k : Int) := by omega
        by_cases hlt : k < zs0.length
        · obtain ⟨z, hz⟩ : ∃ z, zs0[k] = z := ⟨_, rfl⟩
          obtain ⟨b0, o, rfl, hb0, hop⟩ := TOp.facts HSL.out hlt z hz
          have HOP := hid (rg_ext hop hb0 HTg.out.h1.2.1)
          have hk1 : (k : Int) < (zs0.length : Int) := by omega
          clear hop hz
          go_upto_region 9 with (fail)
          have c1 : wr.cell? ⟨b0, o + k * 10 + 1, none⟩ = some (.int .i64 z.at_) := HOP.out 1 _ rfl
          have c3 : wr.cell? ⟨b0, o + k * 10 + 3, none⟩ = some (.bool z.c.tag) := HOP.out 3 _ rfl
          have c4 : wr.cell? ⟨b0, o + k * 10 + 4, none⟩ = some (.int .i64 z.c.base) := HOP.out 4 _ rfl
          have c5 : wr.cell? ⟨b0, o + k * 10 + 5, none⟩ = some (.int .i64 z.c.top) := HOP.out 5 _ rfl
          have c6 : wr.cell? ⟨b0, o + k * 10 + 6, none⟩ = some (.int .i64 z.c.at_) := HOP.out 6 _ rfl
          have c7 : wr.cell? ⟨b0, o + k * 10 + 7, none⟩ = some (.int .i64 z.c.perms) := HOP.out 7 _ rfl
          have c8 : wr.cell? ⟨b0, o + k * 10 + 8, none⟩ = some (.int .i64 z.c.type) := HOP.out 8 _ rfl
          have hbb : ¬ b0 = g := by have := HTg.out.h1.2.2.1; have := HTg.out.h2.2.2.1; omega
          have hbl : b0 < wr.heap.size := Nat.lt_of_lt_of_le hb0 HTg.out.h1.2.1.size
          refine wp_region_turn (q := g) (.rd 0 (.rd 1 (.rd 2 (.rd 3 (.rd 4 (.rd 5 (.rd 6 (.rd 7 (.rd 8 (.rd 9 (.rd 10 (.ac 11 .done)))))))))))) (by kernel_rfl) (by kernel_rfl) (fun _ _ d _ _ h => by cases d <;> exact h) (by simp only [Ord.map, nthOp, List.append]; rfl) ?_
          intro d0
          have hxg : Ext wr (Go.Proofs.Ytgpeabbbeidhpaa.grow wr d0) := Ext.grow (Ext.refl _) d0
          have HTgg := hid (HTg.out.ext hxg)
          repeat (refine turn_read (by rfl) (fun K hK => ?_); go_big_quiet_op; refine hK _ ?_; clear hK K)
          refine turn_act (by rfl) (fun K hK => ?_)
          go_wp2_with (go_at_call 12; refine (hScAny w _ q g 4 B T D HTgg.out.h1 z.at_ z.c.tag z.c.base z.c.top z.c.at_ z.c.perms z.c.type).mono ?_; rintro e W4 ⟨bb9, rfl, HMx, HOx⟩)
          refine ⟨_, Only.refl _ _, HOx.out, ?_⟩
          refine turn_nil ?_
          have HTh := hid (HTgg.out.up1 HMx.out HOx.out)
          have HOQ := hid (rg_only (rg_ext HOP.out hbl hxg) (Nat.lt_of_lt_of_le hbl hxg.size) HOx.out hbb)
          clear HTg HTgg HMx HOx hxg hbb hbl c1 c3 c4 c5 c6 c7 c8 HOP
          go_upto_region 10 with (fail)
          have c1 : W4.cell? ⟨b0, o + k * 10 + 1, none⟩ = some (.int .i64 z.at_) := HOQ.out 1 _ rfl
          have c3 : W4.cell? ⟨b0, o + k * 10 + 3, none⟩ = some (.bool z.c.tag) := HOQ.out 3 _ rfl
          have c4 : W4.cell? ⟨b0, o + k * 10 + 4, none⟩ = some (.int .i64 z.c.base) := HOQ.out 4 _ rfl
          have c5 : W4.cell? ⟨b0, o + k * 10 + 5, none⟩ = some (.int .i64 z.c.top) := HOQ.out 5 _ rfl
          have c6 : W4.cell? ⟨b0, o + k * 10 + 6, none⟩ = some (.int .i64 z.c.at_) := HOQ.out 6 _ rfl
          have c7 : W4.cell? ⟨b0, o + k * 10 + 7, none⟩ = some (.int .i64 z.c.perms) := HOQ.out 7 _ rfl
          have c8 : W4.cell? ⟨b0, o + k * 10 + 8, none⟩ = some (.int .i64 z.c.type) := HOQ.out 8 _ rfl
          have hbb : ¬ b0 = s := by have := HTh.out.h1.2.2.1; have := HTh.out.h2.2.2.1; omega
          have hbl : b0 < W4.heap.size := Nat.lt_of_lt_of_le hb0 HTh.out.h1.2.1.size
          refine wp_region_turn (q := s) (.rd 0 (.rd 1 (.rd 2 (.rd 3 (.rd 4 (.rd 5 (.rd 6 (.rd 7 (.rd 8 (.rd 9 (.rd 10 (.ac 11 .done)))))))))))) (by kernel_rfl) (by kernel_rfl) (fun _ _ d _ _ h => by cases d <;> exact h) (by simp only [Ord.map, nthOp, List.append]; rfl) ?_
          intro d0
          have hxg : Ext W4 (Go.Proofs.Ytgpeabbbeidhpaa.grow W4 d0) := Ext.grow (Ext.refl _) d0
          have HThg := hid (HTh.out.ext hxg)
          repeat (refine turn_read (by rfl) (fun K hK => ?_); go_big_quiet_op; refine hK _ ?_; clear hK K)
          refine turn_act (by rfl) (fun K hK => ?_)
          go_wp2_with (go_at_call 12; refine (hScAny w _ r s 4 B T D HThg.out.h2 z.at_ z.c.tag z.c.base z.c.top z.c.at_ z.c.perms z.c.type).mono ?_; rintro e W5 ⟨bb10, rfl, HMx, HOx⟩)
          refine ⟨_, Only.refl _ _, HOx.out, ?_⟩
          refine turn_nil ?_
          have HTi := hid (HThg.out.up2 HMx.out HOx.out)
          have HOR := hid (rg_only (rg_ext HOQ.out hbl hxg) (Nat.lt_of_lt_of_le hbl hxg.size) HOx.out hbb)
          clear HTh HThg HMx HOx hxg hbb hbl c1 c3 c4 c5 c6 c7 c8 HOQ
          go_wp2
          go_roundw
          case rel => exact ⟨k + 1, _, _, _, by omega, by go_num, HTi⟩
          case measure => simp [intOf]; omega
        · obtain rfl : k = zs0.length := by omega
          have hk1 : ¬ (zs0.length : Int) < (zs0.length : Int) := by omega
          obtain ⟨a, hale, hta⟩ : ∃ a : Nat, a ≤ 1024 ∧ a1.tmod 1025 = (a : Int) := ⟨(a1 % 1025).toNat, by omega, by rw [Int.tmod_eq_emod_of_nonneg ha0]; omega⟩
          obtain ⟨j, hjm, htj⟩ : ∃ j : Nat, j ≤ m ∧ a3.tmod ((m : Int) + 1) = (j : Int) := by
            have e1 := Int.emod_nonneg a3 (show ((m : Int) + 1) ≠ 0 by omega)
            have e2 := Int.emod_lt_of_pos a3 (show 0 < ((m : Int) + 1) by omega)
            exact ⟨(a3 % ((m : Int) + 1)).toNat, by omega, by rw [Int.tmod_eq_emod_of_nonneg hb0']; omega⟩
          by_cases hfit : a + m ≤ 1024
          · have hfi : ¬ (1024 : Int) < (a : Int) + (m : Int) := by omega
            have hAg : ∀ t, w.heap.size ≤ t → 0 < m → ∀ b o, A2 = some ⟨b, o, none⟩ → ¬ b = t := fun t ht h0 b o e => by
              obtain ⟨b', o', e', hl', _⟩ := HRB.out (by rw [HM.out]; exact h0)
              rw [e] at e'
              cases e'
              omega
            have HAG := hid hAg
            clear hAg
            go_upto_region 16 with (go_at_call 22; refine (hStYes w _ q g 4 B T D HTg.out.h1 (a : Int) A2 m cap2 bl2 HM.out (HRB.out.ext HTg.out.h1.2.1) HBL.out hcap (HAG.out g HTg.out.h1.2.2.1) ⟨by omega, by omega, by omega, by omega⟩).mono ?_; rintro e W6 ⟨a', ha', rfl, HM6, HO6⟩)
            obtain rfl : a = a' := by omega
            have HT6 := hid (HTg.out.up1 HM6.out HO6.out)
            clear HTg HM6 HO6 ha'
            have hja : (0 : Int) ≤ (j : Int) := by omega
            have hjb : (j : Int) ≤ (m : Int) := by omega
            have hjc : (j : Int) ≤ (cap2 : Int) := by omega
            rcases A2 with _ | ad
            · obtain rfl : cap2 = 0 := wn2 rfl
              obtain rfl : m = 0 := by omega
              obtain rfl : j = 0 := by omega
              go_upto_region 17 with (go_at_call 22; go_loud (refine (hStYes w _ r s 4 B T D HT6.out.h2 (a : Int) none 0 0 [] rfl (fun h => absurd h (by simp)) (fun n hn => by cases hn) (by omega) (fun h0 => HAG.out s HT6.out.h2.2.2.1 (by omega)) ⟨by omega, by omega, by omega, by omega⟩).mono ?_; rintro e W7 ⟨a', ha', rfl, HMx, HOx⟩))
              obtain rfl : a = a' := by omega
              have HT7 := hid (HT6.out.up2 HMx.out HOx.out)
              clear HT6 HMx HOx ha'
              go_upto_region 18 with (go_at_call 22; go_loud (refine (hStYes w _ r s 4 _ _ _ HT7.out.h2 (a : Int) none 0 0 [] rfl (fun h => absurd h (by simp)) (fun n hn => by cases hn) (by omega) (fun h0 => HAG.out s HT7.out.h2.2.2.1 (by omega)) ⟨by omega, by omega, by omega, by omega⟩).mono ?_; rintro e W8 ⟨a', ha', rfl, HMx, HOx⟩))
              obtain rfl : a = a' := by omega
              have HE8 : ∃ B' T', Hid (TW w W8 q g r s 4 B' T' D B' T' D) := by
                have h8 := HT7.out.up2 HMx.out HOx.out
                have hmc : bl2 = [] := List.eq_nil_of_length_eq_zero HM.out
                rw [putB_nil, putB_nil, hmc, putB_nil] at h8
                simp only [List.length_nil, clrT_zero] at h8
                exact ⟨_, _, hid h8⟩
              clear HT7 HMx HOx ha'
              obtain ⟨B', T', HT8⟩ : ∃ B' T', Hid (TW w W8 q g r s 4 B' T' D B' T' D) := HE8
              obtain ⟨lB, hlB0⟩ : ∃ l, bytesAt B' 0 1024 = l := ⟨_, rfl⟩
              have HLB := hid hlB0
              have HLL : Hid (lB.length = 1024) := hid (by rw [← hlB0]; simp [bytesAt])
              clear hlB0
              obtain ⟨tl, htl0⟩ : ∃ l, (whichN T' (16 * 4)).map (16 * ·) = l := ⟨_, rfl⟩
              have HTL := hid htl0
              obtain ⟨kt, hkt0⟩ : ∃ k, tl.length = k := ⟨_, rfl⟩
              have HKT := hid hkt0
              have hkt : kt ≤ 64 := by rw [← hkt0, ← htl0, List.length_map]; exact whichN_len T' (16 * 4)
              clear htl0 hkt0
              obtain ⟨dl, hdl0⟩ : ∃ l, whichN D 4 = l := ⟨_, rfl⟩
              have HDL := hid hdl0
              obtain ⟨kd, hkd0⟩ : ∃ k, dl.length = k := ⟨_, rfl⟩
              have HKD := hid hkd0
              have hkd : kd ≤ 4 := by rw [← hkd0, ← hdl0]; exact whichN_len D 4
              clear hdl0 hkd0
              have hkt8 : kt ≤ 16777216 := by omega
              have hkd8 : kd ≤ 16777216 := by omega
              go_upto_region 19 with (go_at_call 18; refine (hLoad w _ q g 4 B' T' D HT8.out.h1 0 1024 0 1024 (by decide) (by decide) (by decide)).mono ?_; rintro e W9 ⟨lb9, rfl, HR9, _, HX9, _⟩; have HT9 := hid (HT8.out.ext HX9.out))
              rw [HLB.out] at HR9
              go_upto_region 20 with (go_at_call 18; refine (hLoad w _ r s 4 B' T' D HT9.out.h2 0 1024 0 1024 (by decide) (by decide) (by decide)).mono ?_; rintro e W10 ⟨lb10, rfl, HR10, _, HX10, _⟩; have HT10 := hid (HT9.out.ext HX10.out))
              rw [HLB.out] at HR10
              have HR9' := hid (HR9.out.ext HX10.out)
              have hs1 := run_strN (P := Try.prog) W10 29 9 5 Try.underlying29 Try.underlying5 Try.underlying9 (some ⟨lb9, 0, none⟩) 1024 lB 1024 HLL.out HR9'.out (by have := HLL.out; intro h; (try rw [h] at this); first | (cases this; done) | simp at this)
              have hs2 := run_strN (P := Try.prog) W10 29 9 5 Try.underlying29 Try.underlying5 Try.underlying9 (some ⟨lb10, 0, none⟩) 1024 lB 1024 HLL.out HR10.out (by have := HLL.out; intro h; (try rw [h] at this); first | (cases this; done) | simp at this)
              go_wp2_with (first | (go_at_call 25; with_reducible refine (hTags w _ q g 4 B' T' D HT10.out.h1 tl kt HTL.out HKT.out).mono ?_; rintro e W11 ⟨A11, ca11, rfl, HR11, _, HX11, _⟩; have HT11 := hid (HT10.out.ext HX11.out)) | (go_at_call 25; with_reducible refine (hTags w _ r s 4 B' T' D HT11.out.h2 tl kt HTL.out HKT.out).mono ?_; rintro e W12 ⟨A12, ca12, rfl, HR12, _, HX12, _⟩; have HT12 := hid (HT11.out.ext HX12.out)) | (go_at_call 24; with_reducible refine (tsame_ A11 A12 kt ca11 ca12 tl _ (HR11.out.ext HX12.out) HR12.out HKT.out.symm hkt8).mono ?_; rintro e W13 ⟨rfl, hxx13⟩; have HT13 := hid (HT12.out.ext hxx13)) | (go_at_call 27; with_reducible refine (hDirty w _ q g 4 B' T' D HT13.out.h1 dl kd HDL.out HKD.out).mono ?_; rintro e W14 ⟨A14, ca14, rfl, HR14, _, HX14, _⟩; have HT14 := hid (HT13.out.ext HX14.out)) | (go_at_call 27; with_reducible refine (hDirty w _ r s 4 B' T' D HT14.out.h2 dl kd HDL.out HKD.out).mono ?_; rintro e W15 ⟨A15, ca15, rfl, HR15, _, HX15, _⟩; have HT15 := hid (HT14.out.ext HX15.out)) | (go_at_call 24; with_reducible refine (tsame_ A14 A15 kd ca14 ca15 dl _ (HR14.out.ext HX15.out) HR15.out HKD.out.symm hkd8).mono ?_; rintro e W16 ⟨rfl, hxx16⟩; have HT16 := hid (HT15.out.ext hxx16)))
              go_ret
              exact ⟨by first | rfl | simp, HT16.out.h1.2.1⟩
            · have hadb : 0 < m → ∀ t, w.heap.size ≤ t → ¬ ad.block = t := fun h0 t ht e => by
                obtain ⟨b1, o1, e1, hl1, _⟩ := HRB.out (by rw [HM.out]; exact h0)
                have e2 : ad.block = b1 := by rw [Option.some.inj e1]
                omega
              go_upto_region 17 with (go_at_call 22; go_loud (refine (hStYes w _ r s 4 B T D HT6.out.h2 (a : Int) (some ad) j cap2 (bl2.take j) (by rw [List.length_take, HM.out]; omega) ((HRB.out.take j).ext HT6.out.h1.2.1) (fun n hn => HBL.out n (List.mem_of_mem_take hn)) (by omega) (fun h0 => HAG.out s HT6.out.h2.2.2.1 (by omega)) ⟨by omega, by omega, by omega, by omega⟩).mono ?_; rintro e W7 ⟨a', ha', rfl, HMx, HOx⟩))
              obtain rfl : a = a' := by omega
              have HT7 := hid (HT6.out.up2 HMx.out HOx.out)
              clear HT6 HMx HOx ha'
              have hjm0 : (0 : Int) ≤ (m : Int) := by omega
              by_cases hcj : cap2 = j
              · subst hcj
                go_upto_region 18 with (go_at_call 22; go_loud (refine (hStYes w _ r s 4 _ _ _ HT7.out.h2 ((a : Int) + (cap2 : Int)) (some ad) 0 0 [] rfl (fun h => absurd h (by simp)) (fun n hn => by cases hn) (by omega) (fun h0 => HAG.out s HT7.out.h2.2.2.1 (by omega)) ⟨by omega, by omega, by omega, by omega⟩).mono ?_; rintro e W8 ⟨a', ha', rfl, HMx, HOx⟩))
                obtain rfl : a + cap2 = a' := by omega
                have HE8 : ∃ B' T', Hid (TW w W8 q g r s 4 B' T' D B' T' D) := by
                  have h8 := HT7.out.up2 HMx.out HOx.out
                  have hmc : bl2.length ≤ cap2 := by rw [HM.out]; omega
                  rw [putB_nil, List.length_nil, clrT_zero, List.take_of_length_le hmc] at h8
                  exact ⟨_, _, hid h8⟩
                clear HT7 HMx HOx ha'
                obtain ⟨B', T', HT8⟩ : ∃ B' T', Hid (TW w W8 q g r s 4 B' T' D B' T' D) := HE8
                obtain ⟨lB, hlB0⟩ : ∃ l, bytesAt B' 0 1024 = l := ⟨_, rfl⟩
                have HLB := hid hlB0
                have HLL : Hid (lB.length = 1024) := hid (by rw [← hlB0]; simp [bytesAt])
                clear hlB0
                obtain ⟨tl, htl0⟩ : ∃ l, (whichN T' (16 * 4)).map (16 * ·) = l := ⟨_, rfl⟩
                have HTL := hid htl0
                obtain ⟨kt, hkt0⟩ : ∃ k, tl.length = k := ⟨_, rfl⟩
                have HKT := hid hkt0
                have hkt : kt ≤ 64 := by rw [← hkt0, ← htl0, List.length_map]; exact whichN_len T' (16 * 4)
                clear htl0 hkt0
                obtain ⟨dl, hdl0⟩ : ∃ l, whichN D 4 = l := ⟨_, rfl⟩
                have HDL := hid hdl0
                obtain ⟨kd, hkd0⟩ : ∃ k, dl.length = k := ⟨_, rfl⟩
                have HKD := hid hkd0
                have hkd : kd ≤ 4 := by rw [← hkd0, ← hdl0]; exact whichN_len D 4
                clear hdl0 hkd0
                have hkt8 : kt ≤ 16777216 := by omega
                have hkd8 : kd ≤ 16777216 := by omega
                go_upto_region 19 with (go_at_call 18; refine (hLoad w _ q g 4 B' T' D HT8.out.h1 0 1024 0 1024 (by decide) (by decide) (by decide)).mono ?_; rintro e W9 ⟨lb9, rfl, HR9, _, HX9, _⟩; have HT9 := hid (HT8.out.ext HX9.out))
                rw [HLB.out] at HR9
                go_upto_region 20 with (go_at_call 18; refine (hLoad w _ r s 4 B' T' D HT9.out.h2 0 1024 0 1024 (by decide) (by decide) (by decide)).mono ?_; rintro e W10 ⟨lb10, rfl, HR10, _, HX10, _⟩; have HT10 := hid (HT9.out.ext HX10.out))
                rw [HLB.out] at HR10
                have HR9' := hid (HR9.out.ext HX10.out)
                have hs1 := run_strN (P := Try.prog) W10 29 9 5 Try.underlying29 Try.underlying5 Try.underlying9 (some ⟨lb9, 0, none⟩) 1024 lB 1024 HLL.out HR9'.out (by have := HLL.out; intro h; (try rw [h] at this); first | (cases this; done) | simp at this)
                have hs2 := run_strN (P := Try.prog) W10 29 9 5 Try.underlying29 Try.underlying5 Try.underlying9 (some ⟨lb10, 0, none⟩) 1024 lB 1024 HLL.out HR10.out (by have := HLL.out; intro h; (try rw [h] at this); first | (cases this; done) | simp at this)
                go_wp2_with (first | (go_at_call 25; with_reducible refine (hTags w _ q g 4 B' T' D HT10.out.h1 tl kt HTL.out HKT.out).mono ?_; rintro e W11 ⟨A11, ca11, rfl, HR11, _, HX11, _⟩; have HT11 := hid (HT10.out.ext HX11.out)) | (go_at_call 25; with_reducible refine (hTags w _ r s 4 B' T' D HT11.out.h2 tl kt HTL.out HKT.out).mono ?_; rintro e W12 ⟨A12, ca12, rfl, HR12, _, HX12, _⟩; have HT12 := hid (HT11.out.ext HX12.out)) | (go_at_call 24; with_reducible refine (tsame_ A11 A12 kt ca11 ca12 tl _ (HR11.out.ext HX12.out) HR12.out HKT.out.symm hkt8).mono ?_; rintro e W13 ⟨rfl, hxx13⟩; have HT13 := hid (HT12.out.ext hxx13)) | (go_at_call 27; with_reducible refine (hDirty w _ q g 4 B' T' D HT13.out.h1 dl kd HDL.out HKD.out).mono ?_; rintro e W14 ⟨A14, ca14, rfl, HR14, _, HX14, _⟩; have HT14 := hid (HT13.out.ext HX14.out)) | (go_at_call 27; with_reducible refine (hDirty w _ r s 4 B' T' D HT14.out.h2 dl kd HDL.out HKD.out).mono ?_; rintro e W15 ⟨A15, ca15, rfl, HR15, _, HX15, _⟩; have HT15 := hid (HT14.out.ext HX15.out)) | (go_at_call 24; with_reducible refine (tsame_ A14 A15 kd ca14 ca15 dl _ (HR14.out.ext HX15.out) HR15.out HKD.out.symm hkd8).mono ?_; rintro e W16 ⟨rfl, hxx16⟩; have HT16 := hid (HT15.out.ext hxx16)))
                go_ret
                exact ⟨by first | rfl | simp, HT16.out.h1.2.1⟩
              · skip
                go_upto_region 18 with (go_at_call 22; go_loud (refine (hStYes w _ r s 4 _ _ _ HT7.out.h2 ((a : Int) + (j : Int)) (some (ad.add j)) (m - j) (cap2 - j) (bl2.drop j) (by rw [List.length_drop, HM.out]) ((HRB.out.drop j (fun b o e => by cases e; rw [Addr.add_lit])).ext HT7.out.h1.2.1) (fun n hn => HBL.out n (List.mem_of_mem_drop hn)) (by omega) (fun h0 b o e e3 => hadb (by omega) s HT7.out.h2.2.2.1 ((show ad.block = b from by have e2 := congrArg (fun x : Option Addr => (x.map (·.block))) e; by_cases hjz : j = 0 <;> simpa [Addr.add, hjz] using e2).trans e3)) ⟨by omega, by omega, by omega, by omega⟩).mono ?_; rintro e W8 ⟨a', ha', rfl, HMx, HOx⟩))
                obtain rfl : a + j = a' := by omega
                have HE8 : ∃ B' T', Hid (TW w W8 q g r s 4 B' T' D B' T' D) := by
                  have h8 := HT7.out.up2 HMx.out HOx.out
                  rw [List.length_take, HM.out, Nat.min_eq_left hjm, List.length_drop, HM.out, putB_parts _ _ _ _ (by rw [HM.out]; exact hjm), clrT_parts _ _ _ _ hjm] at h8
                  try rw [HM.out] at h8
                  exact ⟨_, _, hid h8⟩
                clear HT7 HMx HOx ha'
                obtain ⟨B', T', HT8⟩ : ∃ B' T', Hid (TW w W8 q g r s 4 B' T' D B' T' D) := HE8
                obtain ⟨lB, hlB0⟩ : ∃ l, bytesAt B' 0 1024 = l := ⟨_, rfl⟩
                have HLB := hid hlB0
                have HLL : Hid (lB.length = 1024) := hid (by rw [← hlB0]; simp [bytesAt])
                clear hlB0
                obtain ⟨tl, htl0⟩ : ∃ l, (whichN T' (16 * 4)).map (16 * ·) = l := ⟨_, rfl⟩
                have HTL := hid htl0
                obtain ⟨kt, hkt0⟩ : ∃ k, tl.length = k := ⟨_, rfl⟩
                have HKT := hid hkt0
                have hkt : kt ≤ 64 := by rw [← hkt0, ← htl0, List.length_map]; exact whichN_len T' (16 * 4)
                clear htl0 hkt0
                obtain ⟨dl, hdl0⟩ : ∃ l, whichN D 4 = l := ⟨_, rfl⟩
                have HDL := hid hdl0
                obtain ⟨kd, hkd0⟩ : ∃ k, dl.length = k := ⟨_, rfl⟩
                have HKD := hid hkd0
                have hkd : kd ≤ 4 := by rw [← hkd0, ← hdl0]; exact whichN_len D 4
                clear hdl0 hkd0
                have hkt8 : kt ≤ 16777216 := by omega
                have hkd8 : kd ≤ 16777216 := by omega
                go_upto_region 19 with (go_at_call 18; refine (hLoad w _ q g 4 B' T' D HT8.out.h1 0 1024 0 1024 (by decide) (by decide) (by decide)).mono ?_; rintro e W9 ⟨lb9, rfl, HR9, _, HX9, _⟩; have HT9 := hid (HT8.out.ext HX9.out))
                rw [HLB.out] at HR9
                go_upto_region 20 with (go_at_call 18; refine (hLoad w _ r s 4 B' T' D HT9.out.h2 0 1024 0 1024 (by decide) (by decide) (by decide)).mono ?_; rintro e W10 ⟨lb10, rfl, HR10, _, HX10, _⟩; have HT10 := hid (HT9.out.ext HX10.out))
                rw [HLB.out] at HR10
                have HR9' := hid (HR9.out.ext HX10.out)
                have hs1 := run_strN (P := Try.prog) W10 29 9 5 Try.underlying29 Try.underlying5 Try.underlying9 (some ⟨lb9, 0, none⟩) 1024 lB 1024 HLL.out HR9'.out (by have := HLL.out; intro h; (try rw [h] at this); first | (cases this; done) | simp at this)
                have hs2 := run_strN (P := Try.prog) W10 29 9 5 Try.underlying29 Try.underlying5 Try.underlying9 (some ⟨lb10, 0, none⟩) 1024 lB 1024 HLL.out HR10.out (by have := HLL.out; intro h; (try rw [h] at this); first | (cases this; done) | simp at this)
                go_wp2_with (first | (go_at_call 25; with_reducible refine (hTags w _ q g 4 B' T' D HT10.out.h1 tl kt HTL.out HKT.out).mono ?_; rintro e W11 ⟨A11, ca11, rfl, HR11, _, HX11, _⟩; have HT11 := hid (HT10.out.ext HX11.out)) | (go_at_call 25; with_reducible refine (hTags w _ r s 4 B' T' D HT11.out.h2 tl kt HTL.out HKT.out).mono ?_; rintro e W12 ⟨A12, ca12, rfl, HR12, _, HX12, _⟩; have HT12 := hid (HT11.out.ext HX12.out)) | (go_at_call 24; with_reducible refine (tsame_ A11 A12 kt ca11 ca12 tl _ (HR11.out.ext HX12.out) HR12.out HKT.out.symm hkt8).mono ?_; rintro e W13 ⟨rfl, hxx13⟩; have HT13 := hid (HT12.out.ext hxx13)) | (go_at_call 27; with_reducible refine (hDirty w _ q g 4 B' T' D HT13.out.h1 dl kd HDL.out HKD.out).mono ?_; rintro e W14 ⟨A14, ca14, rfl, HR14, _, HX14, _⟩; have HT14 := hid (HT13.out.ext HX14.out)) | (go_at_call 27; with_reducible refine (hDirty w _ r s 4 B' T' D HT14.out.h2 dl kd HDL.out HKD.out).mono ?_; rintro e W15 ⟨A15, ca15, rfl, HR15, _, HX15, _⟩; have HT15 := hid (HT14.out.ext HX15.out)) | (go_at_call 24; with_reducible refine (tsame_ A14 A15 kd ca14 ca15 dl _ (HR14.out.ext HX15.out) HR15.out HKD.out.symm hkd8).mono ?_; rintro e W16 ⟨rfl, hxx16⟩; have HT16 := hid (HT15.out.ext hxx16)))
                go_ret
                exact ⟨by first | rfl | simp, HT16.out.h1.2.1⟩
          · have hfi : (1024 : Int) < (a : Int) + (m : Int) := by omega
            go_wp2_with (go_at_call 22; refine (hStNo w _ q g 4 B T D HTg.out.h1 (a : Int) A2 m cap2 (fun c => by obtain ⟨_, _, _, c4⟩ := c; omega)).mono ?_; rintro e W6 ⟨rfl, HM6, HX6⟩)
            go_ret
            exact ⟨rfl, HM6.out.2.1⟩
  · have hli : (1000 : Int) < (m : Int) := by omega
    go_enter Try.func7, Try.ntmps7
    go_upto_region 2 with (go_at_call 8; refine Calls.mono (head_ _) ?_; rintro e wh ⟨rfl, hxh⟩)
    go_upto_region 3 with (go_at_call 10; refine (hNew 4 4 (by decide) _ (by decide) (by decide)).mono ?_; rintro e w1 ⟨q, rfl, g, HM1⟩)
    go_upto_region 4 with (go_at_call 10; refine (hNew 4 4 (by decide) _ (by decide) (by decide)).mono ?_; rintro e w2 ⟨r, rfl, s, HM2⟩)
    have HTW : Hid (TW w w2 q g r s 4 (fun _ => 0) (fun _ => false) (fun _ => false) (fun _ => 0) (fun _ => false) (fun _ => false)) := hid (TW.two ⟨HM1.out.1, hxh.trans HM1.out.2.1, Nat.le_trans hxh.size HM1.out.2.2.1, Nat.le_trans hxh.size HM1.out.2.2.2⟩ HM2.out)
    clear HM1 HM2 hxh
    go_wp2_with (go_at_call 9; refine (great_ A0 cap0 zs0 _ wl0 (HSL.out.ext HTW.out.h1.2.1)).mono ?_; rintro e w3 ⟨b, rfl, hx3, hgr⟩; rcases b with _ | _)
    all_goals
      go_ret
      exact ⟨rfl, HTW.out.h1.2.1.trans hx3⟩
end tagmemParts

end Go.Proofs.Ytgpeabbbeidhpaa
