/- The walk of SweepAll. -/
import Derived.Test.YthamfkbopjagdaaSweM
import Derived.Test.YthamfkbopjagdaaSweI
import Derived.Deep.DeepCutAuto
namespace Go.Proofs.Ythamfkbopjagdaa
set_option linter.unusedSimpArgs false
set_option linter.unusedVariables false
open Go.RowKit

open Go.Deep Go.RowKit
namespace sweepAll
set_option linter.unusedSimpArgs false
set_option linter.unusedVariables false
set_option maxRecDepth 100000 in
set_option maxHeartbeats 12000000 in
theorem walk (A0 : Option Addr) (cap0 : Nat) (zs0 : List TOp) (A1 : Option Addr) (cap1 : Nat) (ps1 : List SOp) (A2 : Option Addr) (cap2 : Nat) (zs2 : List TOp) (A3 : Option Addr) (cap3 : Nat) (bl3 : List Int) (w : World) (wl0 : zs0.length ≤ maxLen) (hs0 : SlAtN w A0 10 (zs0.map TOp.cells)) (wz0 : ∀ z ∈ zs0, z.good w) (wl1 : ps1.length ≤ maxLen) (hs1 : SlAtN w A1 3 (ps1.map SOp.cells)) (wz1 : ∀ z ∈ ps1, wfS z) (wl2 : zs2.length ≤ maxLen) (hs2 : SlAtN w A2 10 (zs2.map TOp.cells)) (wz2 : ∀ z ∈ zs2, z.good w) (wl3 : bl3.length ≤ cap3 ∧ cap3 ≤ maxLen) (hs3 : RdB w A3 bl3) (wz3 : byteL bl3) (wn3 : A3 = none → cap3 = 0) :
    Calls Try.prog 4 #[.slice A0 zs0.length cap0, .slice A1 ps1.length cap1, .slice A2 zs2.length cap2, .slice A3 bl3.length cap3] w fun e w' => e = .returned (.bool true) ∧ Ext w w' := by
  have HSL := hid hs0
  have HWZ := hid wz0
  have HPL := hid hs1
  have HS2 := hid hs2
  have HWZ2 := hid wz2
  have HBL := hid hs3
  have HBY := hid wz3
  obtain ⟨nb, hnb⟩ : ∃ n, bl3.length = n := ⟨_, rfl⟩
  have HNB := hid hnb
  rw [hnb] at wl3 ⊢
  clear hs0 hs1 hs2 hs3 wz0 wz1 wz2 wz3 wn3 hnb
  go_enter Try.func4, Try.ntmps4
  go_upto_region 2 with (go_at_call 8; refine Calls.mono (head_ _) ?_; rintro e wh ⟨rfl, hxh⟩)
  go_upto_region 3 with (go_at_call 9; refine (hNew 4 4 (by decide) _ (by decide) (by decide)).mono ?_; rintro e w1 ⟨q, rfl, g, HM1⟩)
  go_upto_region 4 with (go_at_call 10; refine (new_ 64 _ (by decide) (by decide)).mono ?_; rintro e w2 ⟨p, pq, rfl, hs2, hx2, hp2, hpq2⟩)
  have HX3 : Hid (Ext w w2) := hid (hxh.trans (HM1.out.2.1.trans hx2))
  have HMA : Hid (MP w w2 q g p pq 4 64 ((fun _ => 0), (fun _ => false), (fun _ => false)) (fun _ => false)) := hid (by
    have e1 := HM1.out
    have e2 := e1.1.ltq
    have e3 := e1.1.ltg
    have e4 := hxh.size
    have e5 := e1.2.1.size
    exact ⟨⟨(e1.1.ext hx2), HX3.out, Nat.le_trans e4 e1.2.2.1, Nat.le_trans e4 e1.2.2.2⟩, hs2, ⟨by omega, by omega, by omega, by omega⟩, ⟨by omega, by omega⟩⟩)
  clear HM1 hs2 hx2 hp2 hpq2 hxh
  by_cases hp200 : ps1.length ≤ 200
  · have hp2 : ¬ (200 : Int) < (ps1.length : Int) := by omega
    by_cases hs300 : nb ≤ 300
    · have hs3 : ¬ (300 : Int) < (nb : Int) := by omega
      go_upto_region 6 with (first | (go_at_call 39; refine (great_ A2 cap2 zs2 _ wl2 (HS2.out.ext (HX3.out.trans hx4))).mono ?_; rintro e w5 ⟨b, rfl, hx5, hgr2⟩; rcases b with _ | _) | (go_at_call 39; refine (great_ A0 cap0 zs0 _ wl0 (HSL.out.ext HX3.out)).mono ?_; rintro e w4 ⟨b, rfl, hx4, hgr⟩; rcases b with _ | _))
      all_goals try (go_ret; exact ⟨rfl, (by first | exact HX3.out.trans hx4 | exact HX3.out.trans (hx4.trans hx5))⟩; done)
      have HZL : Hid (zs2.length ≤ 200) := hid ( by first | exact hgr2.out rfl | exact hgr2.out trivial)
      have HMA4 := hid ((HMA.out.ext hx4).ext hx5)
      clear HMA hx4 hx5 hgr hgr2 HX3 hp200 hp2
      go_upto_region 7 with (go_at_call 40; refine (filled_ w _ q g p pq 4 64 ((fun _ => 0), (fun _ => false), (fun _ => false)) (fun _ => false) HMA4.out A0 cap0 zs0 HSL.out HWZ.out wl0 A1 cap1 ps1 HPL.out wl1).mono ?_; rintro e w5 ⟨rfl, HF5⟩)
      generalize fillP 64 (fun _ => false) ps1 = P at HF5
      obtain ⟨⟨B, T, D⟩, hM⟩ : ∃ x, fillM 4 ((fun _ => 0), (fun _ => false), (fun _ => false)) zs0 = x := ⟨_, rfl⟩
      rw [hM] at HF5
      clear hM
      have HA6 : Hid (MP w w5 q g p pq 4 64 (B, T, D) P) := hid HF5.out.1
      clear HF5 HMA4
      go_upto_region 8 with (go_at_call 14; refine (swnew_ q p _).mono ?_; rintro e w7 ⟨s, rfl, HS7, HX7, HL7⟩)
      have HA : Hid (SWB w w7 q g s p pq 4 64 B T D P false none 0 [] 0) := hid (by
        have e1 := HA6.out
        have e7 := e1.h1.2.1.size
        have e3 := HL7.out
        have e8 := e1.h1.1.ltq
        have e9 := e1.h1.1.ltg
        have e10 := e1.h2.ltp
        have e11 := e1.h2.ltq
        exact ⟨e1.h1.ext HX7.out, e1.h2.ext HX7.out, HS7.out, ⟨by omega, by omega, by omega, by omega, e1.ap.1, e1.ap.2.1, e1.ap.2.2.1, e1.ap.2.2.2⟩, ⟨by omega, e1.lo.1, e1.lo.2⟩, fun b o e => (by cases e), fun x hx => (by cases hx)⟩)
      have HLT : Hid (q < w7.heap.size ∧ g < w7.heap.size ∧ p < w7.heap.size ∧ pq < w7.heap.size ∧ s < w7.heap.size) := hid ⟨HA.out.h1.1.ltq, HA.out.h1.1.ltg, HA.out.h2.ltp, HA.out.h2.ltq, HA.out.h3.lt⟩
      clear HA6 HS7 HX7 HL7
      have HINV : Hid (∀ t, T t = true → D (t / 16) = true) := hid HA.out.h1.1.inv
      obtain ⟨LL, hLL⟩ : ∃ l, whichN D 4 = l := ⟨_, rfl⟩
      obtain ⟨nl, hnl⟩ : ∃ l, LL.length = l := ⟨_, rfl⟩
      have HLLD := hid hLL
      have HNL := hid hnl
      have HL4 : Hid (nl ≤ 4) := hid (by rw [← hnl, ← hLL]; exact whichN_len D 4)
      have HV0 : Hid (Covered 64 P B T (LL.drop 0)) := hid (by rw [← hLL]; exact cov_start HINV.out)
      clear hLL hnl
      go_upto_region 11 with (go_at_call 35; refine (hDirty w _ q g 4 B T D HA.out.h1 LL nl HLLD.out HNL.out).mono ?_; rintro e w9 ⟨A9, ca9, rfl, _, _, HX9, _⟩)
      have HA9 := hid (HA.out.ext HX9.out)
      clear HA HX9
      go_upto_region 13 with (first | (go_at_call 22; refine (begin2_ w _ q g s p pq 4 64 B T D P none 0 [] 0 HA9.out).mono ?_; rintro e w14 ⟨A14, ca14, rfl, HA9y, HO14, HF14⟩) | (go_at_call 28; rw [HLLD.out] at HA9y; with_reducible refine (swleft s q p _ _ _ _ _ _ HA9y.out.h3).mono ?_; rw [HNL.out]; rintro e Wz ⟨rfl, rfl⟩))
      have HA : Hid (SWB w w14 q g s p pq 4 64 B T D P true A14 ca14 (LL.drop 0) 0) := hid HA9y.out
      clear HA9 HA9y HO14 HF14 HINV
      go_wp2
      go_loopw [14, 15] (fun dn i wr => ∃ (k c : Nat) (T D : Nat → Bool) (B : Nat → Int) (rr : Bool) (A : Option Addr) (ca gn : Nat), k ≤ nb + 1 ∧ i = .int .i64 k ∧ dn = .int .i64 c ∧ Hid (SWB w wr q g s p pq 4 64 B T D P rr A ca (LL.drop c) gn) ∧ Hid (c ≤ LL.length ∧ (rr = false → c = LL.length) ∧ gn ≤ 16 * c) ∧ Hid (Covered 64 P B T (LL.drop c)) ∧ Hid ((k ≤ nb → rr = (decide (c < nl) || (decide (nl = 0) && allZ bl3 k))) ∧ (k = nb + 1 → rr = false))) (fun _ i _ => nb + 1 - (intOf i).toNat)
      case atStart => exact ⟨0, 0, T, D, B, true, A14, ca14, 0, Nat.zero_le _, rfl, rfl, HA, hid ⟨Nat.zero_le _, ⟨fun e => (by cases e), Nat.le_refl _⟩⟩, HV0, hid ⟨fun _ => (by
        by_cases e : nl = 0
        · rw [decide_eq_true e]; simp [allZ]
        · rw [decide_eq_true (show 0 < nl by omega)]; rfl), fun e => by omega⟩⟩
      case round =>
        clear HA HV0 HLLD
        obtain ⟨k, c, T, D, B, rr, A, ca, gn, hk, rfl, rfl, HA, HC, HV, HRR⟩ := hrel
        have hk0 : (0 : Int) ≤ (k : Int) := by omega
        have HCB : Hid (c ≤ 4) := hid (by have := HC.out.1; rw [HNL.out] at this; have := HL4.out; omega)
        have hc4 : (c : Int) ≤ 4 := by have := HCB.out; omega
        by_cases hlt : k ≤ nb
        · have hk1 : (k : Int) ≤ (nb : Int) := by omega
          clear hk
          have hk := hlt
          have hzs : zs2.length ≤ 200 := HZL.out
          go_upto_if 88 with (fail)
          go_cut [] (fun wx => ∃ (T D : Nat → Bool) (B : Nat → Int), Hid (SWB w wx q g s p pq 4 64 B T D P rr A ca (LL.drop c) gn) ∧ Hid (Covered 64 P B T (LL.drop c)))
          case first =>
            by_cases hks : k < zs2.length
            · skip
              have hs2 : (k : Int) < (zs2.length : Int) := by omega
              obtain ⟨z, hz⟩ : ∃ z, zs2[k] = z := ⟨_, rfl⟩
              have hzg : Hid (z.good w) := hid (by rw [← hz]; exact HWZ2.out _ (List.getElem_mem hks))
              obtain ⟨b0, o, rfl, hb0, hop⟩ := TOp.facts HS2.out hks z hz
              have HOP := hid (rg_ext hop hb0 HA.out.h1.2.1)
              have hzA : Hid (∀ t, w.heap.size ≤ t → 0 < z.bl.length → ∀ b o, z.A = some ⟨b, o, none⟩ → ¬ b = t) := hid (fun t ht h0 b o e => by
                obtain ⟨b', o', e', hl', _⟩ := hzg.out.2.2.1.2.2.1 h0
                rw [e] at e'
                cases e'
                omega)
              have hbz : z.c.base ≤ 9223372036854775807 := (wfi64 hzg.out.2.2.2.1.1).2
              clear hop hz
              have c0 : World.cell? wr ⟨b0, o + k * 10, none⟩ = some (.int .i64 z.what) := HOP.out 0 _ rfl
              by_cases hwh : z.what < 2
              · skip
                go_upto_region 18 with (fail)
                have c1 : World.cell? wr ⟨b0, o + k * 10 + 1, none⟩ = some (.int .i64 z.at_) := HOP.out 1 _ rfl
                have c2 : World.cell? wr ⟨b0, o + k * 10 + 2, none⟩ = some (.slice z.A z.bl.length z.ca) := HOP.out 2 _ rfl
                go_upto_region 19 with (fail)
                have hbb : ¬ b0 = g := by have := HA.out.h1.2.2.1; omega
                have hbl : b0 < wr.heap.size := Nat.lt_of_lt_of_le hb0 HA.out.h1.2.1.size
                refine wp_region_turn (q := g) (.rd 0 (.rd 1 (.rd 2 (.rd 3 (.rd 4 (.rd 5 (.rd 6 (.rd 7 (.rd 8 (.rd 9 (.rd 10 (.ac 11 .done)))))))))))) (by kernel_rfl) (by kernel_rfl) (fun _ _ d _ _ h => by cases d <;> exact h) (by simp only [Ord.map, nthOp, List.append]; rfl) ?_
                intro d0
                have hxg : Ext wr (Go.Proofs.Ythamfkbopjagdaa.grow wr d0) := Ext.grow (Ext.refl _) d0
                have HG := hid (HA.out.ext hxg)
                repeat (refine turn_read (by rfl) (fun K hK => ?_); go_big_quiet_op; refine hK _ ?_; clear hK K)
                refine turn_act (by rfl) (fun K hK => ?_)
                go_wp2_with (go_at_call 16; refine (fSto w _ q g 4 _ _ _ HG.out.h1 z.at_ z.A z.bl.length z.ca z.bl rfl (hzg.out.2.2.1.2.2.1.ext HG.out.h1.2.1) hzg.out.2.2.1.2.2.2 hzg.out.2.2.1.1 (hzA.out g HA.out.h1.2.2.1)).mono ?_; rintro e W5 ⟨rfl, HMx, HOx⟩)
                refine ⟨_, Only.refl _ _, HOx.out, ?_⟩
                refine turn_nil ?_
                have HN : Hid (SWB w W5 q g s p pq 4 64 (stoB 4 z.at_ z.bl B) (stoT 4 z.at_ z.bl.length T) D P rr A ca (LL.drop c) gn) := hid (HG.out.mem HMx.out HOx.out)
                have HVN := hid (cov_sto (n := 4) HV.out z.at_ z.bl)
                clear HA HV HG hxg hbb hbl HMx HOx HOP
                have HA := HN
                have HV := HVN
                clear HN HVN
                clear c0 c1 c2 hzg hzA hbz
                go_wp2_with fail
                go_meet
                exact ⟨_, _, _, HA, HV⟩
              · skip
                go_upto_region 18 with (fail)
                have c1 : World.cell? wr ⟨b0, o + k * 10 + 1, none⟩ = some (.int .i64 z.at_) := HOP.out 1 _ rfl
                have c3 : World.cell? wr ⟨b0, o + k * 10 + 3, none⟩ = some (.bool z.c.tag) := HOP.out 3 _ rfl
                have c4 : World.cell? wr ⟨b0, o + k * 10 + 4, none⟩ = some (.int .i64 z.c.base) := HOP.out 4 _ rfl
                have c5 : World.cell? wr ⟨b0, o + k * 10 + 5, none⟩ = some (.int .i64 z.c.top) := HOP.out 5 _ rfl
                have c6 : World.cell? wr ⟨b0, o + k * 10 + 6, none⟩ = some (.int .i64 z.c.at_) := HOP.out 6 _ rfl
                have c7 : World.cell? wr ⟨b0, o + k * 10 + 7, none⟩ = some (.int .i64 z.c.perms) := HOP.out 7 _ rfl
                have c8 : World.cell? wr ⟨b0, o + k * 10 + 8, none⟩ = some (.int .i64 z.c.type) := HOP.out 8 _ rfl
                go_upto_region 20 with (fail)
                have hbb : ¬ b0 = g := by have := HA.out.h1.2.2.1; omega
                have hbl : b0 < wr.heap.size := Nat.lt_of_lt_of_le hb0 HA.out.h1.2.1.size
                have s0 := HA.out.h3.c0
                have s1 := HA.out.h3.c1
                have hsl := HA.out.h3.lt
                have hsg : ¬ s = g := HA.out.ap.2.1
                refine wp_region_turn (q := g) (.rd 0 (.rd 1 (.rd 2 (.rd 3 (.rd 4 (.rd 5 (.rd 6 (.rd 7 (.rd 8 (.rd 9 (.rd 10 (.rd 11 (.ac 12 (.ac 13 .done)))))))))))))) (by kernel_rfl) (by kernel_rfl) (fun _ _ d _ _ h => by cases d <;> exact h) (by simp only [Ord.map, nthOp, List.append]; rfl) ?_
                intro d0
                have hxg : Ext wr (Go.Proofs.Ythamfkbopjagdaa.grow wr d0) := Ext.grow (Ext.refl _) d0
                have HG := hid (HA.out.ext hxg)
                repeat (refine turn_read (by rfl) (fun K hK => ?_); go_big_quiet_op; refine hK _ ?_; clear hK K)
                refine turn_act (by rfl) (fun K hK => ?_)
                go_wp2_with (go_at_call 37; refine (barrier_ w _ q g s p pq 4 64 B T D P rr A ca (LL.drop c) gn HG.out z.c.tag z.c.base z.c.top z.c.at_ z.c.perms z.c.type hbz).mono ?_; rintro e W4 ⟨rfl, hx4⟩)
                refine ⟨_, Only.refl _ _, Only.ofExt hx4, ?_⟩
                refine turn_act (by rfl) (fun K hK => ?_)
                go_wp2_with (go_at_call 18; refine (fSc w _ q g 4 _ _ _ (HG.out.h1.ext hx4) z.at_ (z.c.tag && !hitsP 64 P z.c.tag z.c.base z.c.top) z.c.base z.c.top z.c.at_ z.c.perms z.c.type).mono ?_; rintro e W5 ⟨rfl, HMx, HOx⟩)
                refine ⟨_, Only.refl _ _, (Only.ofExt hx4).trans HOx.out (fun i e => .inl e), ?_⟩
                refine turn_nil ?_
                have HN : Hid (SWB w W5 q g s p pq 4 64 (capB 4 z.at_ (capBar 64 P z.c) B) (capT 4 z.at_ (capBar 64 P z.c) T) (capD 4 z.at_ (capBar 64 P z.c) D) P rr A ca (LL.drop c) gn) := hid ((HG.out.ext hx4).mem HMx.out HOx.out)
                have HVN := hid (cov_cap (n := 4) HV.out z.at_ (capBar 64 P z.c) (bar_hit 64 P z.c.tag z.c.base z.c.top))
                clear hx4 s0 s1 hsl hsg
                clear HA HV HG hxg hbb hbl HMx HOx HOP
                have HA := HN
                have HV := HVN
                clear HN HVN
                clear c0 c1 c3 c4 c5 c6 c7 c8 hzg hzA hbz
                go_wp2_with fail
                go_meet
                exact ⟨_, _, _, HA, HV⟩
            · skip
              have hs2 : ¬ (k : Int) < (zs2.length : Int) := by omega
              go_wp2_with fail
              go_meet
              exact ⟨_, _, _, HA, HV⟩
          case rest =>
            clear HA HV
            obtain ⟨T, D, B, HA, HV⟩ := hcut
            by_cases hkn : k < nb
            · skip
              have hk2 : (k : Int) < (nb : Int) := by omega
              obtain ⟨bb, ob, rfl, hbb, hcc⟩ := (HBL.out.ext HA.out.h1.2.1) (by rw [HNB.out]; omega)
              obtain ⟨x, hx⟩ : ∃ x, bl3[k]'(by rw [HNB.out]; exact hkn) = x := ⟨_, rfl⟩
              have cx := hcc k (by rw [HNB.out]; exact hkn)
              rw [hx] at cx
              have hxb : 0 ≤ x ∧ x ≤ 255 := by rw [← hx]; exact HBY.out _ (List.getElem_mem _)
              obtain ⟨hx0, hx1⟩ := hxb
              have HG3 : Hid (bl3[k]? = some x) := hid (by rw [List.getElem?_eq_getElem (by rw [HNB.out]; exact hkn), hx])
              clear hcc hx
              go_upto_region 25 with (go_at_call 24; refine (stepZ_ w _ q g s p pq 4 64 B _ _ P rr A ca gn (LL.drop c) HA.out (fun e => by have := HC.out.2.1 e; rw [List.length_drop]; omega) (by have h1 := HL4.out; have h2 := HNL.out; rw [List.length_drop]; omega) (by have h1 := HC.out.2.2; have h2 := HCB.out; omega) x).mono ?_; rintro e W2 ⟨c2, r2, A2x, ca2, T2, D2, g2, rfl, HA2, HO2, HC2, HD2, HV2⟩; have hc24 : c2 ≤ 4 := (by have h1 := HC2.out.1; have h2 := HL4.out; have h3 := HNL.out; rw [List.length_drop] at h1; omega))
              have HR2 : Hid (r2 = (decide (c + c2 < nl) || (decide (nl = 0) && allZ bl3 (k + 1)))) := hid (by
                have f1 := HRR.out.1 hk
                have f2 := HC.out
                have f3 := HD2.out
                have f4 := HC2.out
                have f5 := HNL.out
                rw [List.length_drop] at f3 f4
                by_cases e1 : x < 1
                · obtain ⟨e2, e3⟩ := f3.1 (.inr e1)
                  have e4 : (x == 0) = true := by simp; omega
                  rw [e3, f1, e2, Nat.add_zero, allZ_succ HG3.out, e4, Bool.and_true]
                · have e4 : allZ bl3 (k + 1) = false := allZ_no HG3.out (by omega) (by omega)
                  rw [e4, Bool.and_false, Bool.or_false]
                  cases rr with
                  | false =>
                    obtain ⟨e2, e3⟩ := f3.1 (.inl rfl)
                    have e5 := f2.2.1 rfl
                    rw [e3]
                    exact (decide_eq_false (by omega)).symm
                  | true =>
                    rw [f3.2.2 (by first | rfl | trivial) (by omega)]
                    exact decide_eq_decide.2 (by omega))
              have HA3 : Hid (SWB w W2 q g s p pq 4 64 B T2 D2 P r2 A2x ca2 (LL.drop (c + c2)) g2) := hid (by
                have := HA2.out
                rw [List.drop_drop] at this
                exact this)
              have HV3 : Hid (Covered 64 P B T2 (LL.drop (c + c2))) := hid (by
                have := HV2.out HV.out
                rw [List.drop_drop] at this
                exact this)
              have HC3 : Hid (c + c2 ≤ LL.length ∧ (r2 = false → c + c2 = LL.length) ∧ g2 ≤ 16 * (c + c2)) := hid (by
                have f2 := HC.out
                have f4 := HC2.out
                rw [List.length_drop] at f4
                exact ⟨by omega, fun e => by have := f4.2.1 e; omega, by omega⟩)
              clear HA HV HA2 HV2 HO2 HD2 HC2 HC HRR cx hbb
              have HRx : Hid ((k + 1 ≤ nb → r2 = (decide (c + c2 < nl) || (decide (nl = 0) && allZ bl3 (k + 1)))) ∧ (k + 1 = nb + 1 → r2 = false)) := hid ⟨fun _ => HR2.out, fun e => by omega⟩
              by_cases e1 : c + c2 < nl
              · have e1i : (c : Int) + (c2 : Int) < (nl : Int) := by omega
                obtain rfl : r2 = true := by rw [HR2.out, decide_eq_true e1]; rfl
                clear HR2
                go_wp2_with (go_at_call 26; with_reducible refine (swruns s q p _ _ _ _ _ _ HA3.out.h3).mono ?_; rintro e Wz ⟨rfl, rfl⟩)
                go_roundw
                case rel => exact ⟨k + 1, c + c2, T2, D2, B, _, A2x, ca2, g2, by omega, by go_num, by go_num, HA3, (by first | exact HC3 | exact hid ⟨HC3.out.1, fun _ => HC3.out.2.1 trivial, HC3.out.2.2⟩ | exact hid (by simpa using HC3.out)), HV3, (by first | exact HRx | exact hid ⟨HRx.out.1, fun _ => rfl⟩ | exact hid (by simpa using HRx.out))⟩
                case measure => simp [intOf]; omega
              · have e1i : ¬ (c : Int) + (c2 : Int) < (nl : Int) := by omega
                by_cases e2 : nl = 0
                · have e2i : ((nl : Int) == 0) = true := by simp; omega
                  obtain ⟨az, haz⟩ : ∃ b, allZ bl3 (k + 1) = b := ⟨_, rfl⟩
                  have HAZ := hid haz
                  obtain rfl : r2 = az := by rw [HR2.out, decide_eq_false e1, decide_eq_true e2, haz]; rfl
                  clear haz HR2
                  have E2 := hid e2
                  clear e2
                  cases r2 with
                  | false =>
                    go_wp2_with (first | (go_at_call 26; with_reducible refine (swruns s q p _ _ _ _ _ _ HA3.out.h3).mono ?_; rintro e Wz ⟨rfl, rfl⟩) | (go_at_call 41; refine (onlyNone_ (some ⟨bb, ob, none⟩) cap3 nb bl3 k _ HNB.out (HBL.out.ext HA3.out.h1.2.1) HBY.out hkn (by omega)).mono ?_; rw [HAZ.out]; rintro e W6 ⟨rfl, hx6⟩))
                    have HA4 := hid (HA3.out.ext hx6)
                    go_roundw
                    case rel => exact ⟨k + 1, c + c2, T2, D2, B, _, A2x, ca2, g2, by omega, by go_num, by go_num, HA4, (by first | exact HC3 | exact hid ⟨HC3.out.1, fun _ => HC3.out.2.1 trivial, HC3.out.2.2⟩ | exact hid (by simpa using HC3.out)), HV3, (by first | exact HRx | exact hid ⟨HRx.out.1, fun _ => rfl⟩ | exact hid (by simpa using HRx.out))⟩
                    case measure => simp [intOf]; omega
                  | true =>
                    go_wp2_with (first | (go_at_call 26; with_reducible refine (swruns s q p _ _ _ _ _ _ HA3.out.h3).mono ?_; rintro e Wz ⟨rfl, rfl⟩) | (go_at_call 41; refine (onlyNone_ (some ⟨bb, ob, none⟩) cap3 nb bl3 k _ HNB.out (HBL.out.ext HA3.out.h1.2.1) HBY.out hkn (by omega)).mono ?_; rw [HAZ.out]; rintro e W6 ⟨rfl, hx6⟩))
                    have HA4 := hid (HA3.out.ext hx6)
                    go_roundw
                    case rel => exact ⟨k + 1, c + c2, T2, D2, B, _, A2x, ca2, g2, by omega, by go_num, by go_num, HA4, (by first | exact HC3 | exact hid ⟨HC3.out.1, fun _ => HC3.out.2.1 trivial, HC3.out.2.2⟩ | exact hid (by simpa using HC3.out)), HV3, (by first | exact HRx | exact hid ⟨HRx.out.1, fun _ => rfl⟩ | exact hid (by simpa using HRx.out))⟩
                    case measure => simp [intOf]; omega
                · have e2i : ¬ (nl : Int) = 0 := by omega
                  obtain rfl : r2 = false := by rw [HR2.out, decide_eq_false e1, decide_eq_false e2]; rfl
                  clear HR2
                  go_wp2_with (go_at_call 26; with_reducible refine (swruns s q p _ _ _ _ _ _ HA3.out.h3).mono ?_; rintro e Wz ⟨rfl, rfl⟩)
                  go_roundw
                  case rel => exact ⟨k + 1, c + c2, T2, D2, B, _, A2x, ca2, g2, by omega, by go_num, by go_num, HA3, (by first | exact HC3 | exact hid ⟨HC3.out.1, fun _ => HC3.out.2.1 trivial, HC3.out.2.2⟩ | exact hid (by simpa using HC3.out)), HV3, (by first | exact HRx | exact hid ⟨HRx.out.1, fun _ => rfl⟩ | exact hid (by simpa using HRx.out))⟩
                  case measure => simp [intOf]; omega
            · have HKK : Hid (k = nb) := hid (by omega)
              have hk2 : ¬ (k : Int) < (nb : Int) := by omega
              go_upto_region 25 with (go_at_call 24; refine (stepZ_ w _ q g s p pq 4 64 B _ _ P rr A ca gn (LL.drop c) HA.out (fun e => by have := HC.out.2.1 e; rw [List.length_drop]; omega) (by have h1 := HL4.out; have h2 := HNL.out; rw [List.length_drop]; omega) (by have h1 := HC.out.2.2; have h2 := HCB.out; omega) 99).mono ?_; rintro e W2 ⟨c2, r2, A2x, ca2, T2, D2, g2, rfl, HA2, HO2, HC2, HD2, HV2⟩; have hc24 : c2 ≤ 4 := (by have h1 := HC2.out.1; have h2 := HL4.out; have h3 := HNL.out; rw [List.length_drop] at h1; omega))
              have HR2 : Hid (r2 = false ∧ c + c2 = nl) := hid (by
                have f2 := HC.out
                have f3 := HD2.out
                have f4 := HC2.out
                have f5 := HNL.out
                have f6 := HL4.out
                rw [List.length_drop] at f3 f4
                cases rr with
                | false =>
                  obtain ⟨e2, e3⟩ := f3.1 (.inl rfl)
                  exact ⟨e3, by have e5 := f2.2.1 rfl; omega⟩
                | true =>
                  have e1 := f3.2.1 (by first | rfl | trivial) (by omega) (by omega)
                  refine ⟨?_, by omega⟩
                  rw [f3.2.2 (by first | rfl | trivial) (by omega)]
                  exact decide_eq_false (by omega))
              have HA3 : Hid (SWB w W2 q g s p pq 4 64 B T2 D2 P r2 A2x ca2 (LL.drop (c + c2)) g2) := hid (by
                have := HA2.out
                rw [List.drop_drop] at this
                exact this)
              have HV3 : Hid (Covered 64 P B T2 (LL.drop (c + c2))) := hid (by
                have := HV2.out HV.out
                rw [List.drop_drop] at this
                exact this)
              have HC3 : Hid (c + c2 ≤ LL.length ∧ (r2 = false → c + c2 = LL.length) ∧ g2 ≤ 16 * (c + c2)) := hid (by
                have f2 := HC.out
                have f4 := HC2.out
                rw [List.length_drop] at f4
                exact ⟨by omega, fun e => by have := f4.2.1 e; omega, by omega⟩)
              clear HA HV HA2 HV2 HO2 HD2 HC2 HC HRR
              have HRx : Hid ((k + 1 ≤ nb → r2 = (decide (c + c2 < nl) || (decide (nl = 0) && allZ bl3 (k + 1)))) ∧ (k + 1 = nb + 1 → r2 = false)) := hid ⟨fun e => by have := HKK.out; omega, fun _ => HR2.out.1⟩
              have e1i : ¬ (c : Int) + (c2 : Int) < (nl : Int) := by have := HR2.out.2; omega
              obtain rfl : r2 = false := HR2.out.1
              clear HR2
              by_cases e2 : nl = 0
              · have e2i : ((nl : Int) == 0) = true := by simp; omega
                have E2 := hid e2
                clear e2
                go_wp2_with (go_at_call 26; with_reducible refine (swruns s q p _ _ _ _ _ _ HA3.out.h3).mono ?_; rintro e Wz ⟨rfl, rfl⟩)
                go_roundw
                case rel => exact ⟨k + 1, c + c2, T2, D2, B, _, A2x, ca2, g2, by omega, by go_num, by go_num, HA3, (by first | exact HC3 | exact hid ⟨HC3.out.1, fun _ => HC3.out.2.1 trivial, HC3.out.2.2⟩ | exact hid (by simpa using HC3.out)), HV3, (by first | exact HRx | exact hid ⟨HRx.out.1, fun _ => rfl⟩ | exact hid (by simpa using HRx.out))⟩
                case measure => simp [intOf]; omega
              · have e2i : ¬ (nl : Int) = 0 := by omega
                go_wp2_with (go_at_call 26; with_reducible refine (swruns s q p _ _ _ _ _ _ HA3.out.h3).mono ?_; rintro e Wz ⟨rfl, rfl⟩)
                go_roundw
                case rel => exact ⟨k + 1, c + c2, T2, D2, B, _, A2x, ca2, g2, by omega, by go_num, by go_num, HA3, (by first | exact HC3 | exact hid ⟨HC3.out.1, fun _ => HC3.out.2.1 trivial, HC3.out.2.2⟩ | exact hid (by simpa using HC3.out)), HV3, (by first | exact HRx | exact hid ⟨HRx.out.1, fun _ => rfl⟩ | exact hid (by simpa using HRx.out))⟩
                case measure => simp [intOf]; omega
        · skip
          obtain rfl : k = nb + 1 := by omega
          have hk1 : ¬ ((nb + 1 : Nat) : Int) ≤ (nb : Int) := by omega
          obtain rfl : rr = false := HRR.out.2 rfl
          have HCL : Hid (c = nl) := hid (by have := HC.out.2.1 rfl; rw [HNL.out] at this; exact this)
          have HVZ : Hid (∀ x, x < 64 → T x = true → hitAt 64 P B T x = false) := hid (fun x h0 h1 => by
            cases e : hitAt 64 P B T x with
            | false => rfl
            | true =>
              have := HV.out x h0 h1 e
              rw [List.drop_of_length_le (by rw [HNL.out, HCL.out]; exact Nat.le_refl _)] at this
              cases this)
          clear HV HRR
          obtain ⟨wl, hwl⟩ : ∃ l, whichN T 64 = l := ⟨_, rfl⟩
          have HW0 := hid hwl
          obtain ⟨kt, hkt⟩ : ∃ k, wl.length = k := ⟨_, rfl⟩
          have HNW := hid hkt
          have HK64 : Hid (kt ≤ 64) := hid (by rw [← hkt, ← hwl]; exact whichN_len T 64)
          clear hwl hkt
          have hkt64 : kt ≤ 64 := HK64.out
          go_upto_region 28 with (go_at_call 33; refine (hTags w _ q g 4 B T D HA.out.h1 (wl.map (16 * ·)) kt (by rw [← HW0.out]) (by rw [List.length_map]; exact HNW.out)).mono ?_; rintro e w11 ⟨A11, ca11, rfl, HR11, _, HX11, HF11⟩)
          have HA0 : Hid (SWB w w11 q g s p pq 4 64 B T D P false A ca (LL.drop c) gn) := hid (HA.out.ext HX11.out)
          clear HA HX11 HF11
          go_wp2
          go_loopw [18] (fun i wr => ∃ k : Nat, k ≤ kt ∧ i = .int .i64 k ∧ Hid (SWB w wr q g s p pq 4 64 B T D P false A ca (LL.drop c) gn) ∧ Hid (Ext w11 wr)) (fun i _ => kt - (intOf i).toNat)
          case atStart => exact ⟨0, Nat.zero_le _, rfl, HA0, hid (Ext.refl _)⟩
          case round =>
            clear HA0
            obtain ⟨k, hk, rfl, HAr, HXr⟩ := hrel
            have hk0 : (0 : Int) ≤ (k : Int) := by omega
            by_cases hlt : k < kt
            · have hk2 : (k : Int) < (kt : Int) := by omega
              obtain ⟨x, hx⟩ : ∃ x, wl[k]'(by rw [HNW.out]; exact hlt) = x := ⟨_, rfl⟩
              have hxm : x < 64 ∧ T x = true := by
                have := List.getElem_mem (l := wl) (n := k) (by rw [HNW.out]; exact hlt)
                rw [hx, ← HW0.out] at this
                exact whichN_mem.1 this
              obtain ⟨hx0, hxT⟩ := hxm
              obtain ⟨b0, o0, rfl, hb0, hcc0⟩ := (HR11.out.ext HXr.out) (by rw [List.length_map, HNW.out]; omega)
              have c0 : World.cell? wr ⟨b0, o0 + k, none⟩ = some (.int .i64 (16 * (x : Int))) := by
                have := hcc0 k (by rw [List.length_map, HNW.out]; exact hlt)
                rw [List.getElem_map, hx] at this
                rw [this]
                congr 2
              clear hcc0 hx
              obtain ⟨z, hcc⟩ : ∃ z, getL (bytesAt B (16 * x) 16) (T x) = z := ⟨_, rfl⟩
              have HCC := hid hcc
              have HHV : Hid (hitsP 64 P z.tag z.base z.top = false) := hid (by rw [← HVZ.out x hx0 hxT, ← hcc]; rfl)
              have hcb : z.base ≤ 9223372036854775807 := by rw [← hcc]; exact getL_base_le HAr.out.h1.1.rg
              clear hcc
              go_upto_region 32 with (go_at_call 42; refine (fLc w _ q g 4 B T D (HAr.out.h1) _ x (by omega) rfl z HCC.out).mono ?_; rintro e W1 ⟨rfl, HM1, HX1⟩)
              clear c0 hb0
              refine wp_gen (fun W => Hid (SWB w W q g s p pq 4 64 B T D P false A ca (LL.drop c) gn) ∧ Hid (CapB W W1.heap.size [.bool z.tag, .int .i64 z.base, .int .i64 z.top, .int .i64 z.at_, .int .i64 z.perms, .int .i64 z.type]) ∧ Hid (Ext w11 W)) ⟨hid ((HAr.out.ext HX1.out).ext (by repeat (first | (with_reducible exact Ext.refl _) | (with_reducible refine Ext.undrew ?_) | (with_reducible refine Ext.grow ?_ _) | (with_reducible refine Ext.drew ?_) | (with_reducible refine Ext.drewN ?_ _) | (with_reducible refine Ext.alloc ?_ _) | (with_reducible assumption) | ((with_reducible refine Ext.setCell ?_ ?_ _); rotate_left; (first | exact Nat.le_refl _ | ((try dsimp only); (try simp only [World.size_alloc, grow_size, World.size_setCell]); omega)))))), hid (CapB.new W1 _ _), hid ((HXr.out.trans HX1.out).trans (by repeat (first | (with_reducible exact Ext.refl _) | (with_reducible refine Ext.undrew ?_) | (with_reducible refine Ext.grow ?_ _) | (with_reducible refine Ext.drew ?_) | (with_reducible refine Ext.drewN ?_ _) | (with_reducible refine Ext.alloc ?_ _) | (with_reducible assumption) | ((with_reducible refine Ext.setCell ?_ ?_ _); rotate_left; (first | exact Nat.le_refl _ | ((try dsimp only); (try simp only [World.size_alloc, grow_size, World.size_setCell]); omega))))))⟩ ?_
              clear HAr HXr HM1 HX1
              rintro W2 ⟨HS2, HC2, HX2⟩
              generalize W1.heap.size = xb at HC2 ⊢
              have d0 : World.cell? W2 ⟨xb, 0, none⟩ = some (.bool z.tag) := HC2.out.2 0 _ rfl
              have d1 : World.cell? W2 ⟨xb, 1, none⟩ = some (.int .i64 z.base) := HC2.out.2 1 _ rfl
              have d2 : World.cell? W2 ⟨xb, 2, none⟩ = some (.int .i64 z.top) := HC2.out.2 2 _ rfl
              have d3 : World.cell? W2 ⟨xb, 3, none⟩ = some (.int .i64 z.at_) := HC2.out.2 3 _ rfl
              have d4 : World.cell? W2 ⟨xb, 4, none⟩ = some (.int .i64 z.perms) := HC2.out.2 4 _ rfl
              have d5 : World.cell? W2 ⟨xb, 5, none⟩ = some (.int .i64 z.type) := HC2.out.2 5 _ rfl
              have dl := HC2.out.1
              go_wp2_with (go_at_call 43; refine (hits_ p pq 64 P z.tag z.base z.top z.at_ z.perms z.type _ (HS2.out.h2) hcb).mono ?_; rw [HHV.out]; rintro e W3 ⟨rfl, hx3⟩)
              have HAr := hid (HS2.out.ext hx3)
              have HX3 := hid (HX2.out.trans hx3)
              clear HS2 HC2 HX2 hx3 d0 d1 d2 d3 d4 d5 dl
              go_roundw
              case rel => exact ⟨k + 1, by omega, by go_num, HAr, HX3⟩
              case measure => simp [intOf]; omega
            · obtain rfl : kt = k := by omega
              have hk2 : ¬ (kt : Int) < (kt : Int) := by omega
              have hcn : (c : Int) = (nl : Int) := by have := HCL.out; omega
              go_wp2_with (go_at_call 26; with_reducible refine (swruns s q p _ _ _ _ _ _ HAr.out.h3).mono ?_; rintro e Wz ⟨rfl, rfl⟩)
              go_ret
              exact ⟨rfl, HAr.out.h1.2.1⟩
    · have hs3 : (300 : Int) < (nb : Int) := by omega
      go_wp2_with (first | (go_at_call 39; refine (great_ A2 cap2 zs2 _ wl2 (HS2.out.ext (HX3.out.trans hx4))).mono ?_; rintro e w5 ⟨b, rfl, hx5, hgr2⟩; rcases b with _ | _) | (go_at_call 39; refine (great_ A0 cap0 zs0 _ wl0 (HSL.out.ext HX3.out)).mono ?_; rintro e w4 ⟨b, rfl, hx4, hgr⟩; rcases b with _ | _))
      all_goals
        go_ret
        exact ⟨rfl, (by first | exact HX3.out.trans hx4 | exact HX3.out.trans (hx4.trans hx5))⟩
  · have hp2 : (200 : Int) < (ps1.length : Int) := by omega
    go_wp2_with (first | (go_at_call 39; refine (great_ A2 cap2 zs2 _ wl2 (HS2.out.ext (HX3.out.trans hx4))).mono ?_; rintro e w5 ⟨b, rfl, hx5, hgr2⟩; rcases b with _ | _) | (go_at_call 39; refine (great_ A0 cap0 zs0 _ wl0 (HSL.out.ext HX3.out)).mono ?_; rintro e w4 ⟨b, rfl, hx4, hgr⟩; rcases b with _ | _))
    all_goals
      go_ret
      exact ⟨rfl, (by first | exact HX3.out.trans hx4 | exact HX3.out.trans (hx4.trans hx5))⟩
end sweepAll

end Go.Proofs.Ythamfkbopjagdaa
