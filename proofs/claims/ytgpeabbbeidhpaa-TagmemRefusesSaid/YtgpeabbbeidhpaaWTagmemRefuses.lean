/- The walk of TagmemRefuses. -/
import Derived.Test.YtgpeabbbeidhpaaTagO
namespace Go.Proofs.Ytgpeabbbeidhpaa
set_option linter.unusedSimpArgs false
set_option linter.unusedVariables false
open Go.RowKit

open Go.Deep Go.RowKit
namespace tagmemRefuses
set_option maxRecDepth 100000 in
set_option maxHeartbeats 8000000 in
theorem walk (A0 : Option Addr) (cap0 : Nat) (zs0 : List TOp) (w : World) (wl0 : zs0.length ≤ maxLen) (hs0 : SlAtN w A0 10 (zs0.map TOp.cells)) (wz0 : ∀ z ∈ zs0, z.good w) :
    Calls Try.prog 6 #[.slice A0 zs0.length cap0] w fun e w' => e = .returned (.bool true) ∧ Ext w w' := by
  have HSL := hid hs0
  have HWZ := hid wz0
  clear hs0 wz0
  go_enter Try.func6, Try.ntmps6
  go_upto_region 2 with (go_at_call 8; refine Calls.mono (head_ _) ?_; rintro e wh ⟨rfl, hxh⟩)
  go_upto_region 3 with (go_at_call 10; refine (hNew 2 2 (by decide) _ (by decide) (by decide)).mono ?_; rintro e w1 ⟨q, rfl, g, HM1⟩)
  have HMM : Hid (HM w w1 q g 2 (fun _ => 0) (fun _ => false) (fun _ => false)) := hid ⟨HM1.out.1, hxh.trans HM1.out.2.1, Nat.le_trans hxh.size HM1.out.2.2.1, Nat.le_trans hxh.size HM1.out.2.2.2⟩
  clear HM1 hxh
  go_wp2_with (go_at_call 9; refine (great_ A0 cap0 zs0 _ wl0 (HSL.out.ext HMM.out.2.1)).mono ?_; rintro e w2 ⟨b, rfl, hx2, hgr⟩; rcases b with _ | _)
  rotate_left
  · go_ret
    exact ⟨rfl, HMM.out.2.1.trans hx2⟩
  · skip
    have hlen : zs0.length ≤ 200 := by first | exact hgr.out rfl | exact hgr.out trivial | exact hgr.out
    have HM2 := hid (HMM.out.ext hx2)
    clear HMM hx2 hgr
    go_loopw [5] (fun i wr => ∃ (k : Nat) (B : Nat → Int) (T D : Nat → Bool), k ≤ zs0.length ∧ i = .int .i64 k ∧ Hid (HM w wr q g 2 B T D)) (fun i _ => zs0.length - (intOf i).toNat)
    case atStart => exact ⟨0, _, _, _, Nat.zero_le _, rfl, HM2⟩
    case round =>
      clear HM2
      obtain ⟨k, B, T, D, hk, rfl, HMr⟩ := hrel
      have hk3 : (0 : Int) ≤ (k : Int) := by omega
      by_cases hlt : k < zs0.length
      · obtain ⟨z, hz⟩ : ∃ z, zs0[k] = z := ⟨_, rfl⟩
        have hzg : Hid (z.good w) := hid (by rw [← hz]; exact HWZ.out _ (List.getElem_mem hlt))
        have hzA : Hid (∀ {W : World} {B : Nat → Int} {T D : Nat → Bool}, HM w W q g 2 B T D → 0 < z.bl.length → ∀ b o, z.A = some ⟨b, o, none⟩ → ¬ b = g) := hid (fun hM h0 b o e hb => by
          obtain ⟨b', o', e', hl', _⟩ := hzg.out.2.2.1.2.2.1 h0
          rw [e] at e'
          cases e'
          have := hM.2.2.1
          omega)
        obtain ⟨b0, o, rfl, hb0, hop⟩ := TOp.facts HSL.out hlt z hz
        have HOP := hid (rg_ext hop hb0 HMr.out.2.1)
        have hb1 : b0 < wr.heap.size := Nat.lt_of_lt_of_le hb0 HMr.out.2.1.size
        have hk1 : (k : Int) < (zs0.length : Int) := by omega
        clear hop hz
        have c0 : wr.cell? ⟨b0, o + k * 10, none⟩ = some (.int .i64 z.what) := HOP.out 0 _ rfl
        have c1 : wr.cell? ⟨b0, o + k * 10 + 1, none⟩ = some (.int .i64 z.at_) := HOP.out 1 _ rfl
        have c2 : wr.cell? ⟨b0, o + k * 10 + 2, none⟩ = some (.slice z.A z.bl.length z.ca) := HOP.out 2 _ rfl
        have c3 : wr.cell? ⟨b0, o + k * 10 + 3, none⟩ = some (.bool z.c.tag) := HOP.out 3 _ rfl
        have c4 : wr.cell? ⟨b0, o + k * 10 + 4, none⟩ = some (.int .i64 z.c.base) := HOP.out 4 _ rfl
        have c5 : wr.cell? ⟨b0, o + k * 10 + 5, none⟩ = some (.int .i64 z.c.top) := HOP.out 5 _ rfl
        have c6 : wr.cell? ⟨b0, o + k * 10 + 6, none⟩ = some (.int .i64 z.c.at_) := HOP.out 6 _ rfl
        have c7 : wr.cell? ⟨b0, o + k * 10 + 7, none⟩ = some (.int .i64 z.c.perms) := HOP.out 7 _ rfl
        have c8 : wr.cell? ⟨b0, o + k * 10 + 8, none⟩ = some (.int .i64 z.c.type) := HOP.out 8 _ rfl
        have c9 : wr.cell? ⟨b0, o + k * 10 + 9, none⟩ = some (.int .i64 z.n) := HOP.out 9 _ rfl
        go_upto_region 9 with (fail)
        refine wp_gen (fun W => Hid (HM w W q g 2 B T D) ∧ Hid (CapB W wr.heap.size z.cells) ∧ Hid (¬ wr.heap.size = g)) ⟨hid (HMr.out.ext (by repeat (first | (with_reducible exact Ext.refl _) | (with_reducible refine Ext.undrew ?_) | (with_reducible refine Ext.grow ?_ _) | (with_reducible refine Ext.drew ?_) | (with_reducible refine Ext.drewN ?_ _) | (with_reducible refine Ext.alloc ?_ _) | (with_reducible assumption) | ((with_reducible refine Ext.setCell ?_ ?_ _); rotate_left; (first | exact Nat.le_refl _ | ((try dsimp only); (try simp only [World.size_alloc, grow_size, World.size_setCell]); omega)))))), hid (CapB.new wr _ _), hid (by have := HMr.out.1.ltg; omega)⟩ ?_
        clear c0 c1 c2 c3 c4 c5 c6 c7 c8 c9 hb1 HOP
        rintro W2 ⟨HM2, HC2, hng0⟩
        generalize wr.heap.size = ob at HC2 hng0 ⊢
        have hng := hng0.out
        clear HMr hng0
        obtain ⟨lB, hlB0⟩ : ∃ l, bytesAt B 0 512 = l := ⟨_, rfl⟩
        have HLB := hid hlB0
        have HLL : Hid (lB.length = 512) := hid (by rw [← hlB0]; simp [bytesAt])
        clear hlB0
        obtain ⟨tl, htl0⟩ : ∃ l, (whichN T (16 * 2)).map (16 * ·) = l := ⟨_, rfl⟩
        have HTL := hid htl0
        obtain ⟨kt, hkt0⟩ : ∃ k, tl.length = k := ⟨_, rfl⟩
        have HKT := hid hkt0
        have hkt : kt ≤ 32 := by rw [← hkt0, ← htl0, List.length_map]; exact whichN_len T (16 * 2)
        clear htl0 hkt0
        go_upto_region 10 with (go_at_call 18; refine (hLoad w _ q g 2 B T D HM2.out 0 512 0 512 (by decide) (by decide) (by decide)).mono ?_; rintro e W3 ⟨lb3, rfl, HR3, HM3, HX3, HF3⟩)
        rw [HLB.out] at HR3
        have HC3 := hid (HC2.out.ext HX3.out)
        have hn3 : ¬ lb3 = g := by have := HF3.out; have := HM2.out.1.ltg; omega
        clear HM2 HC2 HX3 HF3
        go_upto_region 11 with (go_at_call 25; refine (hTags w _ q g 2 B T D HM3.out tl kt HTL.out HKT.out).mono ?_; rintro e W4 ⟨A4, ca4, rfl, HT4, HM4, HX4, HF4⟩)
        have HC4 := hid (HC3.out.ext HX4.out)
        have HR4 := hid (HR3.out.ext HX4.out)
        have hn4 : Hid (∀ b o, A4 = some ⟨b, o, none⟩ → ¬ b = g) := hid (fun b o e => by have := HF4.out b o e; have := HM3.out.1.ltg; omega)
        clear HM3 HC3 HR3 HX4 HF4
        have d0 : World.cell? _ ⟨ob, 0, none⟩ = some (.int .i64 z.what) := HC4.out.2 0 _ rfl
        have d1 : World.cell? _ ⟨ob, 1, none⟩ = some (.int .i64 z.at_) := HC4.out.2 1 _ rfl
        have d2 : World.cell? _ ⟨ob, 2, none⟩ = some (.slice z.A z.bl.length z.ca) := HC4.out.2 2 _ rfl
        have d3 : World.cell? _ ⟨ob, 3, none⟩ = some (.bool z.c.tag) := HC4.out.2 3 _ rfl
        have d4 : World.cell? _ ⟨ob, 4, none⟩ = some (.int .i64 z.c.base) := HC4.out.2 4 _ rfl
        have d5 : World.cell? _ ⟨ob, 5, none⟩ = some (.int .i64 z.c.top) := HC4.out.2 5 _ rfl
        have d6 : World.cell? _ ⟨ob, 6, none⟩ = some (.int .i64 z.c.at_) := HC4.out.2 6 _ rfl
        have d7 : World.cell? _ ⟨ob, 7, none⟩ = some (.int .i64 z.c.perms) := HC4.out.2 7 _ rfl
        have d8 : World.cell? _ ⟨ob, 8, none⟩ = some (.int .i64 z.c.type) := HC4.out.2 8 _ rfl
        have d9 : World.cell? _ ⟨ob, 9, none⟩ = some (.int .i64 z.n) := HC4.out.2 9 _ rfl
        have dl := HC4.out.1
        by_cases hw : z.what < 2
        · by_cases hs : spanP 2 z.at_ (z.bl.length : Int)
          · have hab := wf_i64 hzg.out.2.1
            obtain ⟨hs0, hs1, hs2, hs3⟩ := id hs
            have hr2 : (0 : Int) ≤ z.at_ := hs0
            have hr3 : z.at_ ≤ 512 := by omega
            have hr4 : (z.bl.length : Int) ≤ 512 - z.at_ := by omega
            have hr4' : ((512 : Int) - z.at_) - (z.bl.length : Int) ≥ 0 := by omega
            go_upto_region 14 with (go_at_call 22; refine (hStYes w _ q g 2 B T D HM4.out z.at_ z.A z.bl.length z.ca z.bl rfl (hzg.out.2.2.1.2.2.1.ext HM4.out.2.1) hzg.out.2.2.1.2.2.2 hzg.out.2.2.1.1 (hzA.out HM4.out) hs).mono ?_; rintro e W5 ⟨a, hxa, rfl, HM5, HO5⟩)
            clear d0 d1 d2 d3 d4 d5 d6 d7 d8 d9 dl
            have HC5 := hid (HC4.out.only HO5.out hng)
            have d1 : World.cell? _ ⟨ob, 1, none⟩ = some (.int .i64 z.at_) := HC5.out.2 1 _ rfl
            have d2 : World.cell? _ ⟨ob, 2, none⟩ = some (.slice z.A z.bl.length z.ca) := HC5.out.2 2 _ rfl
            have dl := HC5.out.1
            have HXA := hid hxa
            clear hxa HC4 HM4 HR4 HT4 HO5
            go_upto_region 19 with (fail)
            clear d1 d2 dl
            go_upto_region 20 with (go_at_call 18; refine (hLoad w _ q g 2 _ _ _ HM5.out 0 512 0 512 (by decide) (by decide) (by decide)).mono ?_; rintro e W6 ⟨lb6, rfl, HR6, HM6, HX6, HF6⟩)
            clear HM5
            go_wp2
            go_roundw
            case rel => exact ⟨k + 1, _, _, _, by omega, by go_num, HM6⟩
            case measure => simp [intOf]; omega
          · by_cases k0 : z.at_ < 0
            · have hab := wf_i64 hzg.out.2.1
              have hr2 : ¬ (0 : Int) ≤ z.at_ := by omega
              go_upto_region 14 with (go_at_call 22; refine (hStNo w _ q g 2 B T D HM4.out z.at_ z.A z.bl.length z.ca hs).mono ?_; rintro e W5 ⟨rfl, HM5, HX5⟩)
              clear d0 d1 d2 d3 d4 d5 d6 d7 d8 d9 dl
              have HC5 := hid (HC4.out.ext HX5.out)
              have HR5 := hid (HR4.out.ext HX5.out)
              have HT5 := hid (HT4.out.ext HX5.out)
              have d1 : World.cell? _ ⟨ob, 1, none⟩ = some (.int .i64 z.at_) := HC5.out.2 1 _ rfl
              have d2 : World.cell? _ ⟨ob, 2, none⟩ = some (.slice z.A z.bl.length z.ca) := HC5.out.2 2 _ rfl
              have dl := HC5.out.1
              clear HC4 HM4 HR4 HT4 HX5
              go_upto_region 19 with (fail)
              clear d1 d2 dl
              go_upto_region 20 with (go_at_call 18; refine (hLoad w _ q g 2 B T D HM5.out 0 512 0 512 (by decide) (by decide) (by decide)).mono ?_; rintro e W6 ⟨lb6, rfl, HR6, HM6, HX6, HF6⟩)
              rw [HLB.out] at HR6
              have HRw := hid ((HR5.out).ext HX6.out)
              have HTw := hid ((HT5.out).ext HX6.out)
              have hs1 := run_strN (P := Try.prog) W6 29 9 5 Try.underlying29 Try.underlying5 Try.underlying9 (some ⟨lb6, 0, none⟩) 512 lB 512 HLL.out HR6.out (by have := HLL.out; intro h; (try rw [h] at this); first | (cases this; done) | simp at this)
              have hs2 := run_strN (P := Try.prog) W6 29 9 5 Try.underlying29 Try.underlying5 Try.underlying9 (some ⟨lb3, 0, none⟩) 512 lB 512 HLL.out HRw.out (by have := HLL.out; intro h; (try rw [h] at this); first | (cases this; done) | simp at this)
              go_wp2_with (first | (go_at_call 25; refine (hTags w _ q g 2 B T D HM6.out tl kt HTL.out HKT.out).mono ?_; rintro e W7 ⟨A7, ca7, rfl, HT7, HM7, HX7, _⟩; have HTx := hid (HTw.out.ext HX7.out)) | (go_at_call 24; refine (tsame_ A7 A4 kt ca7 ca4 tl _ HT7.out HTx.out HKT.out.symm (by omega)).mono ?_; rintro e Wz ⟨rfl, hxz⟩; have HMz := hid (HM7.out.ext hxz)))
              go_roundw
              case rel => exact ⟨k + 1, _, _, _, by omega, by go_num, HMz⟩
              case measure => simp [intOf]; omega
            · by_cases k1 : 512 < z.at_
              · have hab := wf_i64 hzg.out.2.1
                have hr2 : (0 : Int) ≤ z.at_ := by omega
                have hr3 : ¬ z.at_ ≤ 512 := by omega
                go_upto_region 14 with (go_at_call 22; refine (hStNo w _ q g 2 B T D HM4.out z.at_ z.A z.bl.length z.ca hs).mono ?_; rintro e W5 ⟨rfl, HM5, HX5⟩)
                clear d0 d1 d2 d3 d4 d5 d6 d7 d8 d9 dl
                have HC5 := hid (HC4.out.ext HX5.out)
                have HR5 := hid (HR4.out.ext HX5.out)
                have HT5 := hid (HT4.out.ext HX5.out)
                have d1 : World.cell? _ ⟨ob, 1, none⟩ = some (.int .i64 z.at_) := HC5.out.2 1 _ rfl
                have d2 : World.cell? _ ⟨ob, 2, none⟩ = some (.slice z.A z.bl.length z.ca) := HC5.out.2 2 _ rfl
                have dl := HC5.out.1
                clear HC4 HM4 HR4 HT4 HX5
                go_upto_region 19 with (fail)
                clear d1 d2 dl
                go_upto_region 20 with (go_at_call 18; refine (hLoad w _ q g 2 B T D HM5.out 0 512 0 512 (by decide) (by decide) (by decide)).mono ?_; rintro e W6 ⟨lb6, rfl, HR6, HM6, HX6, HF6⟩)
                rw [HLB.out] at HR6
                have HRw := hid ((HR5.out).ext HX6.out)
                have HTw := hid ((HT5.out).ext HX6.out)
                have hs1 := run_strN (P := Try.prog) W6 29 9 5 Try.underlying29 Try.underlying5 Try.underlying9 (some ⟨lb6, 0, none⟩) 512 lB 512 HLL.out HR6.out (by have := HLL.out; intro h; (try rw [h] at this); first | (cases this; done) | simp at this)
                have hs2 := run_strN (P := Try.prog) W6 29 9 5 Try.underlying29 Try.underlying5 Try.underlying9 (some ⟨lb3, 0, none⟩) 512 lB 512 HLL.out HRw.out (by have := HLL.out; intro h; (try rw [h] at this); first | (cases this; done) | simp at this)
                go_wp2_with (first | (go_at_call 25; refine (hTags w _ q g 2 B T D HM6.out tl kt HTL.out HKT.out).mono ?_; rintro e W7 ⟨A7, ca7, rfl, HT7, HM7, HX7, _⟩; have HTx := hid (HTw.out.ext HX7.out)) | (go_at_call 24; refine (tsame_ A7 A4 kt ca7 ca4 tl _ HT7.out HTx.out HKT.out.symm (by omega)).mono ?_; rintro e Wz ⟨rfl, hxz⟩; have HMz := hid (HM7.out.ext hxz)))
                go_roundw
                case rel => exact ⟨k + 1, _, _, _, by omega, by go_num, HMz⟩
                case measure => simp [intOf]; omega
              · have k2 : ¬ (z.bl.length : Int) ≤ 512 - z.at_ := fun h => hs ⟨by omega, by omega, by omega, by omega⟩
                have hab := wf_i64 hzg.out.2.1
                have hr2 : (0 : Int) ≤ z.at_ := by omega
                have hr3 : z.at_ ≤ 512 := by omega
                have hr4 : ¬ (z.bl.length : Int) ≤ 512 - z.at_ := by omega
                go_upto_region 14 with (go_at_call 22; refine (hStNo w _ q g 2 B T D HM4.out z.at_ z.A z.bl.length z.ca hs).mono ?_; rintro e W5 ⟨rfl, HM5, HX5⟩)
                clear d0 d1 d2 d3 d4 d5 d6 d7 d8 d9 dl
                have HC5 := hid (HC4.out.ext HX5.out)
                have HR5 := hid (HR4.out.ext HX5.out)
                have HT5 := hid (HT4.out.ext HX5.out)
                have d1 : World.cell? _ ⟨ob, 1, none⟩ = some (.int .i64 z.at_) := HC5.out.2 1 _ rfl
                have d2 : World.cell? _ ⟨ob, 2, none⟩ = some (.slice z.A z.bl.length z.ca) := HC5.out.2 2 _ rfl
                have dl := HC5.out.1
                clear HC4 HM4 HR4 HT4 HX5
                go_upto_region 19 with (fail)
                clear d1 d2 dl
                go_upto_region 20 with (go_at_call 18; refine (hLoad w _ q g 2 B T D HM5.out 0 512 0 512 (by decide) (by decide) (by decide)).mono ?_; rintro e W6 ⟨lb6, rfl, HR6, HM6, HX6, HF6⟩)
                rw [HLB.out] at HR6
                have HRw := hid ((HR5.out).ext HX6.out)
                have HTw := hid ((HT5.out).ext HX6.out)
                have hs1 := run_strN (P := Try.prog) W6 29 9 5 Try.underlying29 Try.underlying5 Try.underlying9 (some ⟨lb6, 0, none⟩) 512 lB 512 HLL.out HR6.out (by have := HLL.out; intro h; (try rw [h] at this); first | (cases this; done) | simp at this)
                have hs2 := run_strN (P := Try.prog) W6 29 9 5 Try.underlying29 Try.underlying5 Try.underlying9 (some ⟨lb3, 0, none⟩) 512 lB 512 HLL.out HRw.out (by have := HLL.out; intro h; (try rw [h] at this); first | (cases this; done) | simp at this)
                go_wp2_with (first | (go_at_call 25; refine (hTags w _ q g 2 B T D HM6.out tl kt HTL.out HKT.out).mono ?_; rintro e W7 ⟨A7, ca7, rfl, HT7, HM7, HX7, _⟩; have HTx := hid (HTw.out.ext HX7.out)) | (go_at_call 24; refine (tsame_ A7 A4 kt ca7 ca4 tl _ HT7.out HTx.out HKT.out.symm (by omega)).mono ?_; rintro e Wz ⟨rfl, hxz⟩; have HMz := hid (HM7.out.ext hxz)))
                go_roundw
                case rel => exact ⟨k + 1, _, _, _, by omega, by go_num, HMz⟩
                case measure => simp [intOf]; omega
        · by_cases hs : placeP 2 z.at_ ∧ rightC ⟨z.c.tag, z.c.base, z.c.top, z.c.at_, z.c.perms, z.c.type⟩ = true
          · have hab := wf_i64 hzg.out.2.1
            obtain ⟨hs0, hs1, hs2⟩ := id hs.1
            have hr2 : (0 : Int) ≤ z.at_ := hs1
            have hr3 : z.at_ < 512 := by omega
            have ht1 : z.at_.tmod 16 = 0 := by rw [Int.tmod_eq_emod_of_nonneg hr2]; exact hs0
            have HRT := hid hs.2
            go_upto_region 17 with (go_at_call 12; refine (hScYes w _ q g 2 B T D HM4.out z.at_ z.c.tag z.c.base z.c.top z.c.at_ z.c.perms z.c.type hs.1 hs.2).mono ?_; rintro e W5 ⟨p, i, hp, hi, hxa, rfl, HM5, HO5⟩)
            clear d0 d1 d2 d3 d4 d5 d6 d7 d8 d9 dl
            have HC5 := hid (HC4.out.only HO5.out hng)
            have d1 : World.cell? _ ⟨ob, 1, none⟩ = some (.int .i64 z.at_) := HC5.out.2 1 _ rfl
            have d3 : World.cell? _ ⟨ob, 3, none⟩ = some (.bool z.c.tag) := HC5.out.2 3 _ rfl
            have d4 : World.cell? _ ⟨ob, 4, none⟩ = some (.int .i64 z.c.base) := HC5.out.2 4 _ rfl
            have d5 : World.cell? _ ⟨ob, 5, none⟩ = some (.int .i64 z.c.top) := HC5.out.2 5 _ rfl
            have d6 : World.cell? _ ⟨ob, 6, none⟩ = some (.int .i64 z.c.at_) := HC5.out.2 6 _ rfl
            have d7 : World.cell? _ ⟨ob, 7, none⟩ = some (.int .i64 z.c.perms) := HC5.out.2 7 _ rfl
            have d8 : World.cell? _ ⟨ob, 8, none⟩ = some (.int .i64 z.c.type) := HC5.out.2 8 _ rfl
            have dl := HC5.out.1
            have HXA := hid hxa
            clear hxa HC4 HM4 HR4 HT4 HO5
            go_upto_region 19 with (go_at_call 33; refine (rcapRight _ _ _ _ _ _ _).mono ?_; rw [HRT.out]; rintro e W6 ⟨rfl, hx6⟩; have HM6 := hid (HM5.out.ext hx6))
            clear d1 d3 d4 d5 d6 d7 d8 dl
            go_upto_region 20 with (go_at_call 18; refine (hLoad w _ q g 2 _ _ _ HM6.out 0 512 0 512 (by decide) (by decide) (by decide)).mono ?_; rintro e W7 ⟨lb7, rfl, HR7, HM7, HX7, HF7⟩)
            clear HM6
            go_wp2
            go_roundw
            case rel => exact ⟨k + 1, _, _, _, by omega, by go_num, HM7⟩
            case measure => simp [intOf]; omega
          · by_cases k0 : z.at_ < 0
            · have hab := wf_i64 hzg.out.2.1
              have hr2 : ¬ (0 : Int) ≤ z.at_ := by omega
              go_upto_region 17 with (go_at_call 12; refine (hScNo w _ q g 2 B T D HM4.out z.at_ z.c.tag z.c.base z.c.top z.c.at_ z.c.perms z.c.type hs).mono ?_; rintro e W5 ⟨rfl, HM5, HX5⟩)
              clear d0 d1 d2 d3 d4 d5 d6 d7 d8 d9 dl
              have HC5 := hid (HC4.out.ext HX5.out)
              have HR5 := hid (HR4.out.ext HX5.out)
              have HT5 := hid (HT4.out.ext HX5.out)
              have d1 : World.cell? _ ⟨ob, 1, none⟩ = some (.int .i64 z.at_) := HC5.out.2 1 _ rfl
              have d3 : World.cell? _ ⟨ob, 3, none⟩ = some (.bool z.c.tag) := HC5.out.2 3 _ rfl
              have d4 : World.cell? _ ⟨ob, 4, none⟩ = some (.int .i64 z.c.base) := HC5.out.2 4 _ rfl
              have d5 : World.cell? _ ⟨ob, 5, none⟩ = some (.int .i64 z.c.top) := HC5.out.2 5 _ rfl
              have d6 : World.cell? _ ⟨ob, 6, none⟩ = some (.int .i64 z.c.at_) := HC5.out.2 6 _ rfl
              have d7 : World.cell? _ ⟨ob, 7, none⟩ = some (.int .i64 z.c.perms) := HC5.out.2 7 _ rfl
              have d8 : World.cell? _ ⟨ob, 8, none⟩ = some (.int .i64 z.c.type) := HC5.out.2 8 _ rfl
              have dl := HC5.out.1
              clear HC4 HM4 HR4 HT4 HX5
              go_upto_region 19 with (fail)
              clear d1 d3 d4 d5 d6 d7 d8 dl
              go_upto_region 20 with (go_at_call 18; refine (hLoad w _ q g 2 B T D HM5.out 0 512 0 512 (by decide) (by decide) (by decide)).mono ?_; rintro e W6 ⟨lb6, rfl, HR6, HM6, HX6, HF6⟩)
              rw [HLB.out] at HR6
              have HRw := hid ((HR5.out).ext HX6.out)
              have HTw := hid ((HT5.out).ext HX6.out)
              have hs1 := run_strN (P := Try.prog) W6 29 9 5 Try.underlying29 Try.underlying5 Try.underlying9 (some ⟨lb6, 0, none⟩) 512 lB 512 HLL.out HR6.out (by have := HLL.out; intro h; (try rw [h] at this); first | (cases this; done) | simp at this)
              have hs2 := run_strN (P := Try.prog) W6 29 9 5 Try.underlying29 Try.underlying5 Try.underlying9 (some ⟨lb3, 0, none⟩) 512 lB 512 HLL.out HRw.out (by have := HLL.out; intro h; (try rw [h] at this); first | (cases this; done) | simp at this)
              go_wp2_with (first | (go_at_call 25; refine (hTags w _ q g 2 B T D HM6.out tl kt HTL.out HKT.out).mono ?_; rintro e W7 ⟨A7, ca7, rfl, HT7, HM7, HX7, _⟩; have HTx := hid (HTw.out.ext HX7.out)) | (go_at_call 24; refine (tsame_ A7 A4 kt ca7 ca4 tl _ HT7.out HTx.out HKT.out.symm (by omega)).mono ?_; rintro e Wz ⟨rfl, hxz⟩; have HMz := hid (HM7.out.ext hxz)))
              go_roundw
              case rel => exact ⟨k + 1, _, _, _, by omega, by go_num, HMz⟩
              case measure => simp [intOf]; omega
            · by_cases k1 : 512 ≤ z.at_
              · have hab := wf_i64 hzg.out.2.1
                have hr2 : (0 : Int) ≤ z.at_ := by omega
                have hr3 : ¬ z.at_ < 512 := by omega
                go_upto_region 17 with (go_at_call 12; refine (hScNo w _ q g 2 B T D HM4.out z.at_ z.c.tag z.c.base z.c.top z.c.at_ z.c.perms z.c.type hs).mono ?_; rintro e W5 ⟨rfl, HM5, HX5⟩)
                clear d0 d1 d2 d3 d4 d5 d6 d7 d8 d9 dl
                have HC5 := hid (HC4.out.ext HX5.out)
                have HR5 := hid (HR4.out.ext HX5.out)
                have HT5 := hid (HT4.out.ext HX5.out)
                have d1 : World.cell? _ ⟨ob, 1, none⟩ = some (.int .i64 z.at_) := HC5.out.2 1 _ rfl
                have d3 : World.cell? _ ⟨ob, 3, none⟩ = some (.bool z.c.tag) := HC5.out.2 3 _ rfl
                have d4 : World.cell? _ ⟨ob, 4, none⟩ = some (.int .i64 z.c.base) := HC5.out.2 4 _ rfl
                have d5 : World.cell? _ ⟨ob, 5, none⟩ = some (.int .i64 z.c.top) := HC5.out.2 5 _ rfl
                have d6 : World.cell? _ ⟨ob, 6, none⟩ = some (.int .i64 z.c.at_) := HC5.out.2 6 _ rfl
                have d7 : World.cell? _ ⟨ob, 7, none⟩ = some (.int .i64 z.c.perms) := HC5.out.2 7 _ rfl
                have d8 : World.cell? _ ⟨ob, 8, none⟩ = some (.int .i64 z.c.type) := HC5.out.2 8 _ rfl
                have dl := HC5.out.1
                clear HC4 HM4 HR4 HT4 HX5
                go_upto_region 19 with (fail)
                clear d1 d3 d4 d5 d6 d7 d8 dl
                go_upto_region 20 with (go_at_call 18; refine (hLoad w _ q g 2 B T D HM5.out 0 512 0 512 (by decide) (by decide) (by decide)).mono ?_; rintro e W6 ⟨lb6, rfl, HR6, HM6, HX6, HF6⟩)
                rw [HLB.out] at HR6
                have HRw := hid ((HR5.out).ext HX6.out)
                have HTw := hid ((HT5.out).ext HX6.out)
                have hs1 := run_strN (P := Try.prog) W6 29 9 5 Try.underlying29 Try.underlying5 Try.underlying9 (some ⟨lb6, 0, none⟩) 512 lB 512 HLL.out HR6.out (by have := HLL.out; intro h; (try rw [h] at this); first | (cases this; done) | simp at this)
                have hs2 := run_strN (P := Try.prog) W6 29 9 5 Try.underlying29 Try.underlying5 Try.underlying9 (some ⟨lb3, 0, none⟩) 512 lB 512 HLL.out HRw.out (by have := HLL.out; intro h; (try rw [h] at this); first | (cases this; done) | simp at this)
                go_wp2_with (first | (go_at_call 25; refine (hTags w _ q g 2 B T D HM6.out tl kt HTL.out HKT.out).mono ?_; rintro e W7 ⟨A7, ca7, rfl, HT7, HM7, HX7, _⟩; have HTx := hid (HTw.out.ext HX7.out)) | (go_at_call 24; refine (tsame_ A7 A4 kt ca7 ca4 tl _ HT7.out HTx.out HKT.out.symm (by omega)).mono ?_; rintro e Wz ⟨rfl, hxz⟩; have HMz := hid (HM7.out.ext hxz)))
                go_roundw
                case rel => exact ⟨k + 1, _, _, _, by omega, by go_num, HMz⟩
                case measure => simp [intOf]; omega
              · by_cases hc16 : z.at_ % 16 = 0
                · have hcr : rightC ⟨z.c.tag, z.c.base, z.c.top, z.c.at_, z.c.perms, z.c.type⟩ = false := Bool.eq_false_iff.2 fun h => hs ⟨⟨hc16, by omega, by omega⟩, h⟩
                  have hab := wf_i64 hzg.out.2.1
                  have hr2 : (0 : Int) ≤ z.at_ := by omega
                  have hr3 : z.at_ < 512 := by omega
                  have ht1 : z.at_.tmod 16 = 0 := by rw [Int.tmod_eq_emod_of_nonneg hr2]; exact hc16
                  have HRT := hid hcr
                  go_upto_region 17 with (go_at_call 12; refine (hScNo w _ q g 2 B T D HM4.out z.at_ z.c.tag z.c.base z.c.top z.c.at_ z.c.perms z.c.type hs).mono ?_; rintro e W5 ⟨rfl, HM5, HX5⟩)
                  clear d0 d1 d2 d3 d4 d5 d6 d7 d8 d9 dl
                  have HC5 := hid (HC4.out.ext HX5.out)
                  have HR5 := hid (HR4.out.ext HX5.out)
                  have HT5 := hid (HT4.out.ext HX5.out)
                  have d1 : World.cell? _ ⟨ob, 1, none⟩ = some (.int .i64 z.at_) := HC5.out.2 1 _ rfl
                  have d3 : World.cell? _ ⟨ob, 3, none⟩ = some (.bool z.c.tag) := HC5.out.2 3 _ rfl
                  have d4 : World.cell? _ ⟨ob, 4, none⟩ = some (.int .i64 z.c.base) := HC5.out.2 4 _ rfl
                  have d5 : World.cell? _ ⟨ob, 5, none⟩ = some (.int .i64 z.c.top) := HC5.out.2 5 _ rfl
                  have d6 : World.cell? _ ⟨ob, 6, none⟩ = some (.int .i64 z.c.at_) := HC5.out.2 6 _ rfl
                  have d7 : World.cell? _ ⟨ob, 7, none⟩ = some (.int .i64 z.c.perms) := HC5.out.2 7 _ rfl
                  have d8 : World.cell? _ ⟨ob, 8, none⟩ = some (.int .i64 z.c.type) := HC5.out.2 8 _ rfl
                  have dl := HC5.out.1
                  clear HC4 HM4 HR4 HT4 HX5
                  go_upto_region 19 with (go_at_call 33; refine (rcapRight _ _ _ _ _ _ _).mono ?_; rw [HRT.out]; rintro e W6 ⟨rfl, hx6⟩; have HM6 := hid (HM5.out.ext hx6))
                  clear d1 d3 d4 d5 d6 d7 d8 dl
                  go_upto_region 20 with (go_at_call 18; refine (hLoad w _ q g 2 B T D HM6.out 0 512 0 512 (by decide) (by decide) (by decide)).mono ?_; rintro e W7 ⟨lb7, rfl, HR7, HM7, HX7, HF7⟩)
                  rw [HLB.out] at HR7
                  have HRw := hid ((HR5.out.ext hx6).ext HX7.out)
                  have HTw := hid ((HT5.out.ext hx6).ext HX7.out)
                  have hs1 := run_strN (P := Try.prog) W7 29 9 5 Try.underlying29 Try.underlying5 Try.underlying9 (some ⟨lb7, 0, none⟩) 512 lB 512 HLL.out HR7.out (by have := HLL.out; intro h; (try rw [h] at this); first | (cases this; done) | simp at this)
                  have hs2 := run_strN (P := Try.prog) W7 29 9 5 Try.underlying29 Try.underlying5 Try.underlying9 (some ⟨lb3, 0, none⟩) 512 lB 512 HLL.out HRw.out (by have := HLL.out; intro h; (try rw [h] at this); first | (cases this; done) | simp at this)
                  go_wp2_with (first | (go_at_call 25; refine (hTags w _ q g 2 B T D HM7.out tl kt HTL.out HKT.out).mono ?_; rintro e W8 ⟨A8, ca8, rfl, HT8, HM8, HX8, _⟩; have HTx := hid (HTw.out.ext HX8.out)) | (go_at_call 24; refine (tsame_ A8 A4 kt ca8 ca4 tl _ HT8.out HTx.out HKT.out.symm (by omega)).mono ?_; rintro e Wz ⟨rfl, hxz⟩; have HMz := hid (HM8.out.ext hxz)))
                  go_roundw
                  case rel => exact ⟨k + 1, _, _, _, by omega, by go_num, HMz⟩
                  case measure => simp [intOf]; omega
                · have hab := wf_i64 hzg.out.2.1
                  have hr2 : (0 : Int) ≤ z.at_ := by omega
                  have hr3 : z.at_ < 512 := by omega
                  have ht1 : ¬ z.at_.tmod 16 = 0 := by rw [Int.tmod_eq_emod_of_nonneg hr2]; exact hc16
                  go_upto_region 17 with (go_at_call 12; refine (hScNo w _ q g 2 B T D HM4.out z.at_ z.c.tag z.c.base z.c.top z.c.at_ z.c.perms z.c.type hs).mono ?_; rintro e W5 ⟨rfl, HM5, HX5⟩)
                  clear d0 d1 d2 d3 d4 d5 d6 d7 d8 d9 dl
                  have HC5 := hid (HC4.out.ext HX5.out)
                  have HR5 := hid (HR4.out.ext HX5.out)
                  have HT5 := hid (HT4.out.ext HX5.out)
                  have d1 : World.cell? _ ⟨ob, 1, none⟩ = some (.int .i64 z.at_) := HC5.out.2 1 _ rfl
                  have d3 : World.cell? _ ⟨ob, 3, none⟩ = some (.bool z.c.tag) := HC5.out.2 3 _ rfl
                  have d4 : World.cell? _ ⟨ob, 4, none⟩ = some (.int .i64 z.c.base) := HC5.out.2 4 _ rfl
                  have d5 : World.cell? _ ⟨ob, 5, none⟩ = some (.int .i64 z.c.top) := HC5.out.2 5 _ rfl
                  have d6 : World.cell? _ ⟨ob, 6, none⟩ = some (.int .i64 z.c.at_) := HC5.out.2 6 _ rfl
                  have d7 : World.cell? _ ⟨ob, 7, none⟩ = some (.int .i64 z.c.perms) := HC5.out.2 7 _ rfl
                  have d8 : World.cell? _ ⟨ob, 8, none⟩ = some (.int .i64 z.c.type) := HC5.out.2 8 _ rfl
                  have dl := HC5.out.1
                  clear HC4 HM4 HR4 HT4 HX5
                  go_upto_region 19 with (fail)
                  clear d1 d3 d4 d5 d6 d7 d8 dl
                  go_upto_region 20 with (go_at_call 18; refine (hLoad w _ q g 2 B T D HM5.out 0 512 0 512 (by decide) (by decide) (by decide)).mono ?_; rintro e W6 ⟨lb6, rfl, HR6, HM6, HX6, HF6⟩)
                  rw [HLB.out] at HR6
                  have HRw := hid ((HR5.out).ext HX6.out)
                  have HTw := hid ((HT5.out).ext HX6.out)
                  have hs1 := run_strN (P := Try.prog) W6 29 9 5 Try.underlying29 Try.underlying5 Try.underlying9 (some ⟨lb6, 0, none⟩) 512 lB 512 HLL.out HR6.out (by have := HLL.out; intro h; (try rw [h] at this); first | (cases this; done) | simp at this)
                  have hs2 := run_strN (P := Try.prog) W6 29 9 5 Try.underlying29 Try.underlying5 Try.underlying9 (some ⟨lb3, 0, none⟩) 512 lB 512 HLL.out HRw.out (by have := HLL.out; intro h; (try rw [h] at this); first | (cases this; done) | simp at this)
                  go_wp2_with (first | (go_at_call 25; refine (hTags w _ q g 2 B T D HM6.out tl kt HTL.out HKT.out).mono ?_; rintro e W7 ⟨A7, ca7, rfl, HT7, HM7, HX7, _⟩; have HTx := hid (HTw.out.ext HX7.out)) | (go_at_call 24; refine (tsame_ A7 A4 kt ca7 ca4 tl _ HT7.out HTx.out HKT.out.symm (by omega)).mono ?_; rintro e Wz ⟨rfl, hxz⟩; have HMz := hid (HM7.out.ext hxz)))
                  go_roundw
                  case rel => exact ⟨k + 1, _, _, _, by omega, by go_num, HMz⟩
                  case measure => simp [intOf]; omega
      · obtain rfl : k = zs0.length := by omega
        have hk1 : ¬ (zs0.length : Int) < (zs0.length : Int) := by omega
        go_wp2
        go_ret
        exact ⟨rfl, HMr.out.2.1⟩
end tagmemRefuses

end Go.Proofs.Ytgpeabbbeidhpaa
