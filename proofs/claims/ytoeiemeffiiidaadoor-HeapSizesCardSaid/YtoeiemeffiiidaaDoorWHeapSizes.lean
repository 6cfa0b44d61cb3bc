/- The walk of HeapSizes. -/
import Derived.Test.YtoeiemeffiiidaaDoorHepL
namespace Go.Proofs.YtoeiemeffiiidaaDoor
set_option linter.unusedSimpArgs false
set_option linter.unusedVariables false
open Go.RowKit

open Go.Deep Go.RowKit
namespace heapSizes
set_option linter.unusedSimpArgs false
set_option linter.unusedVariables false
set_option maxRecDepth 100000 in
set_option maxHeartbeats 12000000 in
theorem walk (A0 : Option Addr) (cap0 : Nat) (zs0 : List Int) (w : World) (wl0 : zs0.length ≤ maxLen) (hs0 : SlAt w A0 (zs0.map (Value.int .u16))) (wz0 : ∀ z ∈ zs0, (Lit.int .u16 z).wf = true) (hTab : Tab w) :
    Calls Tryd.prog 7 #[.slice A0 zs0.length cap0] w fun e w' => e = .returned (.bool true) ∧ Ext w w' := by
  unfold maxLen at wl0
  have HT := hid hTab
  by_cases hlen : zs0.length ≤ 100
  · have hli : ¬ (100 : Int) < (zs0.length : Int) := by omega
    have HSL := hid hs0
    have HWZ := hid wz0
    clear hs0 wz0 hTab
    go_enter Tryd.func7, Tryd.ntmps7
    go_upto_region 2 with (go_at_call 8; refine (head_ _ HT.out).mono ?_; rintro e W0 ⟨rfl, hxh⟩)
    have HWW : Hid (Ext w W0) := hid hxh
    go_upto_region 3 with (go_at_call 9; refine (new_ 4200 _ (by decide) (by decide)).mono ?_; rintro e w1 ⟨p, pq, rfl, hs1, hx1, hp1, hpq1⟩)
    have HS0 := hid hs1
    have HB1 := hid hx1
    have HPQ := hid hpq1
    clear hs1 hx1 hp1 hpq1 hxh
    go_upto_region 6 with (first | (go_at_call 10; refine (root_ 1024 4000 _ (by decide) (by decide)).mono ?_; rintro e w2 ⟨rfl, hx2⟩; have HB := hid (HB1.out.trans hx2); have HS := hid (HS0.out.ext hx2); clear hx2) | (go_at_call 11; refine (hNew W0 _ p pq 4200 1024 65024 31 64 P0 HB.out HS.out HPQ.out (by decide) (by decide) (by decide) (fun _ => False) (fun _ h => h.elim)).mono ?_; rintro e w3 ⟨h, ck, q, fq, g, bq, bf, rfl, HK3, HX3⟩))
    have HA0 : Hid (ApL ([] : List Lv) [⟨1024, 65024⟩] ∧ sumP [⟨1024, 65024⟩] + takesL ([] : List Lv) = 64000 ∧ (0 : Int) ≤ takesL ([] : List Lv)) := hid ⟨fun z hz => (by cases hz), (by decide), (by decide)⟩
    clear HS HB HB1 HS0 HX3
    go_wp2
    go_loopw [6] (fun i wr => ∃ (k : Nat) (x : HSt), k ≤ zs0.length ∧ i = .int .i64 k ∧ Hid (Hp W0 wr h ck q fq p pq g bq bf 4200 1024 65024 1024 31 64 (fun _ => False) x) ∧ Hid (ApL x.lv x.lf ∧ sumP x.lf + takesL x.lv = 64000 ∧ (0 : Int) ≤ takesL x.lv) ∧ x.lv.length ≤ k ∧ x.lq = []) (fun i _ => zs0.length - (intOf i).toNat)
    case atStart => exact ⟨0, _, Nat.zero_le _, rfl, HK3, HA0, Nat.zero_le _, rfl⟩
    case round =>
      clear HK3 HA0
      obtain ⟨k, x, hk, rfl, HK, HA, hn, hq0⟩ := hrel
      have HQ0 := hid hq0
      clear hq0
      by_cases hlt : k < zs0.length
      · obtain ⟨z, hz⟩ : ∃ z, zs0[k] = z := ⟨_, rfl⟩
        obtain ⟨b0, o0, rfl, hb0, hc0⟩ := HSL.out (by simp; omega)
        have hck0 := hc0 k (by simpa using hlt)
        simp only [List.getElem_map, hz] at hck0
        have HB0 := hid hb0
        have HC0 := hid hck0
        have hzw : 0 ≤ z ∧ z ≤ 65535 := by have := HWZ.out z (by rw [← hz]; exact List.getElem_mem hlt); simpa [Lit.wf, IntKind.min, IntKind.max, IntKind.signed, IntKind.bits] using this
        obtain ⟨hz0, hz1⟩ := hzw
        have HGD := hid (Hp_good HK.out)
        have hk1 : (k : Int) < (zs0.length : Int) := by omega
        have hk0 : k + 1 ≤ zs0.length := by omega
        have hk3 : (0 : Int) ≤ (k : Int) := by omega
        obtain ⟨lt, hltv⟩ : ∃ y, sumP x.lf = y := ⟨_, rfl⟩
        obtain ⟨tk, htk⟩ : ∃ y, takesL x.lv = y := ⟨_, rfl⟩
        have HLT := hid hltv
        have HTK := hid htk
        have hs : lt + tk = 64000 := by rw [← hltv, ← htk]; exact HA.out.2.1
        have ht0 : 0 ≤ tk := by rw [← htk]; exact HA.out.2.2
        have hl0 : 0 ≤ lt := by rw [← hltv]; exact HGD.out.2.2
        have hl1 : lt ≤ 64000 := by omega
        have ht1 : tk ≤ 64000 := by omega
        have HN : Hid (x.lv.length ≤ 100000) := hid (by omega)
        have HNB := hid hn
        obtain ⟨nl, hnl⟩ : ∃ y, x.lv.length = y := ⟨_, rfl⟩
        have HNL := hid hnl
        rw [hnl] at hn
        have hn1 : nl ≤ 100 := by omega
        obtain ⟨r, hr⟩ : ∃ y, roundT z = y := ⟨_, rfl⟩
        have HRD : Hid (roundT z = r ∧ roundB z = true) := hid ⟨hr, by unfold roundB; simp; omega⟩
        obtain ⟨hr0, hr1⟩ : 16 ≤ r ∧ r ≤ 65536 := by
          obtain ⟨_, _, r3, _, r5⟩ := roundT_bd (n := z) hz0 (by omega)
          omega
        clear hltv htk hnl hr hck0 hc0 hz hb0
        go_upto_region 12 with (go_at_call 21; refine (hLeft W0 _ h ck q fq p pq g bq bf 4200 1024 65024 1024 31 64 (fun _ => False) x HK.out HGD.out.2.1).mono ?_; rw [HLT.out]; rintro e w5 ⟨rfl, hx5⟩)
        have HK5 := hid (HK.out.ext hx5)
        clear hx5
        go_upto_region 13 with (go_at_call 19; refine (hLive W0 _ h ck q fq p pq g bq bf 4200 1024 65024 1024 31 64 (fun _ => False) x HK5.out HN.out).mono ?_; rw [HNL.out, HTK.out]; rintro e w6 ⟨rfl, hx6⟩)
        have HK6 := hid (HK5.out.ext hx6)
        clear hx6 HK5 HK
        have hcz : World.cell? w6 ⟨b0, o0 + k, none⟩ = some (.int .u16 z) := ((HWW.out.trans HK6.out.base).cells b0 _ HB0.out).trans HC0.out
        obtain ⟨⟨ct, cb, cp, ca, cm, cy⟩, hc⟩ : ∃ c, alC 31 x z = c := ⟨_, rfl⟩
        obtain ⟨y, hy⟩ : ∃ y, x.al z = y := ⟨_, rfl⟩
        obtain ⟨er, her⟩ : ∃ e, alE x z = e := ⟨_, rfl⟩
        have HC := hid hc
        have HY := hid hy
        have HE := hid her
        have hal := al_err (x := x) (m := z) (by omega)
        rw [her] at hal
        have HFR : Hid (alOk x z = true → idxL x.lv (alAt x z) = none) := hid (fun e => al_fresh HA.out.1 e)
        have HAY : Hid (ApL y.lv y.lf) := hid (by rw [← hy]; exact al_ap HGD.out.1 HA.out.1 z)
        have HLQ : Hid (y.lq = []) := hid (by rw [← hy, (al_lq x z).1]; exact HQ0.out)
        clear her
        go_upto_region 14 with (go_at_call 15; refine (hAlloc W0 _ h ck q fq p pq g bq bf 4200 1024 65024 1024 31 64 (fun _ => False) x HK6.out z (by omega) (HT.out.ext (HWW.out.trans HK6.out.base)) HFR.out).mono ?_; rw [HC.out, HE.out, HY.out]; (try dsimp only); rintro e w7 ⟨rfl, HKz, HOz⟩)
        refine wp_gen (fun V => Hid (Hp W0 V h ck q fq p pq g bq bf 4200 1024 65024 1024 31 64 (fun _ => False) y) ∧ Hid (Row V w7.heap.size 0 [.bool ct, .int .i64 cb, .int .i64 cp, .int .i64 ca, .int .i64 cm, .int .i64 cy])) ⟨hid (HKz.out.ext (by repeat (first | (with_reducible exact Ext.refl _) | (with_reducible refine Ext.undrew ?_) | (with_reducible refine Ext.grow ?_ _) | (with_reducible refine Ext.drew ?_) | (with_reducible refine Ext.drewN ?_ _) | (with_reducible refine Ext.alloc ?_ _) | (with_reducible assumption) | ((with_reducible refine Ext.setCell ?_ ?_ _); rotate_left; (first | exact Nat.le_refl _ | ((try dsimp only); (try simp only [World.size_alloc, grow_size, World.size_setCell]); omega)))))), hid (Row.new w7 _ _)⟩ ?_
        clear HKz HOz HK6 hcz
        rintro W7 ⟨HK7, HX7⟩
        generalize w7.heap.size = xb at HX7 ⊢
        have hcz : World.cell? W7 ⟨b0, o0 + k, none⟩ = some (.int .u16 z) := ((HWW.out.trans HK7.out.base).cells b0 _ HB0.out).trans HC0.out
        go_upto_region 15 with (go_at_call 24; refine (rround z _).mono ?_; rw [HRD.out.1, HRD.out.2]; rintro e w9 ⟨rfl, hx9⟩)
        have HK9 := hid (HK7.out.ext hx9)
        have HX9 := hid (HX7.out.ext hx9)
        clear HK7 HX7 hx9 hcz
        cases hok : alOk x z with
        | false =>
          rw [hok] at hal
          obtain rfl : er = 5 := by simpa using hal
          have hyx : y = x := by rw [← hy]; exact al_no hok
          have HLY : Hid (sumP y.lf = lt) := hid (by rw [hyx]; exact HLT.out)
          have HGY := hid (Hp_good HK9.out)
          have HRY : Hid (ApL y.lv y.lf ∧ sumP y.lf + takesL y.lv = 64000 ∧ (0 : Int) ≤ takesL y.lv) := hid (by rw [hyx]; exact HA.out)
          have HNY : Hid (y.lv.length ≤ k + 1) := hid (by rw [hyx, HNL.out]; omega)
          clear hal hyx hc hy hok HC HY
          go_wp2_with (go_at_call 21; refine (hLeft W0 _ h ck q fq p pq g bq bf 4200 1024 65024 1024 31 64 (fun _ => False) y HK9.out HGY.out.2.1).mono ?_; rw [HLY.out]; rintro e wz ⟨rfl, hxz⟩)
          go_roundw
          case rel => exact ⟨k + 1, y, by omega, by simp [go_sem], hid (HK9.out.ext hxz), HRY, HNY.out, HLQ.out⟩
          case measure => simp [intOf]; omega
        | true =>
          rw [hok] at hal
          obtain rfl : er = 0 := by simpa using hal
          obtain ⟨t1, t2⟩ := al_takes hok
          obtain ⟨o1, o2⟩ := al_of HA.out.1 hok 31
          have s1 := al_sum hok
          have b1 := al_bd HGD.out.1 hok
          rw [hy, HTK.out, HRD.out.1] at t1
          rw [hy, HNL.out] at t2
          rw [hy, hc] at o1 o2
          rw [HRD.out.1] at o2 b1
          rw [hy, HLT.out, HRD.out.1] at s1
          have hcb : 0 ≤ cb ∧ cb ≤ 16777216 := by
            have : cb = alAt x z := by
              have : (alC 31 x z).base = alAt x z := by unfold alC; rw [if_pos hok]
              rw [hc] at this
              exact this
            omega
          have HCB : Hid (-9223372036854775808 ≤ cb ∧ cb ≤ 9223372036854775807) := hid (by omega)
          have HO := hid (And.intro o2 o1)
          have HS1 := hid s1
          have HT1 := hid t1
          have HT2 : Hid ((y.lv.length : Int) = (nl : Int) + 1) := hid (by omega)
          have HT3 : Hid (y.lv.length ≤ 100000) := hid (by omega)
          have HGY := hid (Hp_good HK9.out)
          have HRY : Hid (ApL y.lv y.lf ∧ sumP y.lf + takesL y.lv = 64000 ∧ (0 : Int) ≤ takesL y.lv) := hid ⟨HAY.out, by rw [s1, t1]; omega, by rw [t1]; omega⟩
          have HNY : Hid (y.lv.length ≤ k + 1) := hid (by omega)
          have hl9 : 0 ≤ lt - r := by rw [← s1]; exact HGY.out.2.2
          clear hal t1 t2 o1 o2 s1 b1 hcb hc hy hok HC HY
          have c0 : World.cell? w9 ⟨xb, 0, none⟩ = some (.bool ct) := by have := HX9.out.at_ 0 _ rfl; simpa using this
          have c1 : World.cell? w9 ⟨xb, 1, none⟩ = some (.int .i64 cb) := by have := HX9.out.at_ 1 _ rfl; simpa using this
          have c2 : World.cell? w9 ⟨xb, 2, none⟩ = some (.int .i64 cp) := by have := HX9.out.at_ 2 _ rfl; simpa using this
          have c3 : World.cell? w9 ⟨xb, 3, none⟩ = some (.int .i64 ca) := by have := HX9.out.at_ 3 _ rfl; simpa using this
          have c4 : World.cell? w9 ⟨xb, 4, none⟩ = some (.int .i64 cm) := by have := HX9.out.at_ 4 _ rfl; simpa using this
          have c5 : World.cell? w9 ⟨xb, 5, none⟩ = some (.int .i64 cy) := by have := HX9.out.at_ 5 _ rfl; simpa using this
          have cl := HX9.out.lt
          go_upto_region 19 with (go_at_call 16; refine (hSize W0 _ h ck q fq p pq g bq bf 4200 1024 65024 1024 31 64 (fun _ => False) y HK9.out ct cb cp ca cm cy HCB.out).mono ?_; rw [HO.out.1, HO.out.2]; rintro e wa ⟨rfl, hxa⟩)
          have HKa := hid (HK9.out.ext hxa)
          clear HK9 HX9 hxa c0 c1 c2 c3 c4 c5 cl
          go_upto_region 20 with (go_at_call 19; refine (hLive W0 _ h ck q fq p pq g bq bf 4200 1024 65024 1024 31 64 (fun _ => False) y HKa.out HT3.out).mono ?_; rw [HT2.out, HT1.out]; rintro e wb ⟨rfl, hxb⟩)
          have HKb := hid (HKa.out.ext hxb)
          clear HKa hxb
          go_wp2_with (go_at_call 21; refine (hLeft W0 _ h ck q fq p pq g bq bf 4200 1024 65024 1024 31 64 (fun _ => False) y HKb.out HGY.out.2.1).mono ?_; rw [HS1.out]; rintro e wz ⟨rfl, hxz⟩)
          go_roundw
          case rel => exact ⟨k + 1, y, by omega, by simp [go_sem], hid (HKb.out.ext hxz), HRY, HNY.out, HLQ.out⟩
          case measure => simp [intOf]; omega
      · obtain rfl : k = zs0.length := by omega
        have hk1 : ¬ (zs0.length : Int) < (zs0.length : Int) := by omega
        have HZ : Hid (sumL x.lq = 0) := hid (by rw [HQ0.out]; rfl)
        go_wp2_with (go_at_call 20; refine (hApart W0 _ h ck q fq p pq g bq bf 4200 1024 65024 1024 31 64 (fun _ => False) x HK.out).mono ?_; rw [HZ.out]; rintro e wz ⟨rfl, hxz⟩)
        go_ret
        exact ⟨rfl, (HWW.out.trans HK.out.base).trans hxz⟩
  · have hli : (100 : Int) < (zs0.length : Int) := by omega
    go_enter Tryd.func7, Tryd.ntmps7
    go_upto_region 2 with (go_at_call 8; refine (head_ _ HT.out).mono ?_; rintro e W0 ⟨rfl, hxh⟩)
    have HWW : Hid (Ext w W0) := hid hxh
    go_wp2_with (go_at_call 9; refine (new_ 4200 _ (by decide) (by decide)).mono ?_; rintro e w1 ⟨p, pq, rfl, hs1, hx1, hp1, hpq1⟩)
    go_ret
    exact ⟨rfl, HWW.out.trans hx1⟩
end heapSizes

end Go.Proofs.YtoeiemeffiiidaaDoor
