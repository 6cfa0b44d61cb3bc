/- Layer 17: the walk of ImageApart. -/
import Derived.Test.YtgldlkoohfclpaaImY
import Derived.Test.YtgldlkoohfclpaaImAA
import Derived.Test.YtgldlkoohfclpaaImAF
import Derived.Test.YtgldlkoohfclpaaImV
namespace Go.Proofs.Ytgldlkoohfclpaa
set_option linter.unusedSimpArgs false
set_option linter.unusedVariables false
open Go.RowKit

namespace imageApart
set_option linter.unusedSimpArgs false
set_option linter.unusedVariables false
set_option maxRecDepth 100000 in
set_option maxHeartbeats 8000000 in
theorem walk (x0 : Img) (w : World) (wi0 : ImgIn w x0) :
    Calls Try.prog 6 #[.agg #[.bool x0.strict, .int .i64 x0.heap, .int .i64 x0.full, .slice x0.C x0.comps.length x0.cc, .slice x0.L x0.links.length x0.lc, .slice x0.S x0.shares.length x0.sc]] w fun e w' => e = .returned (.bool true) ∧ Ext w w' := by
  have HIN := hid wi0
  have HGT := hid (fun (W : World) (hx : Ext w W) => great17_ x0 W (wi0.at_.ext hx) wi0.nc wi0.nl wi0.ns)
  have HRT := hid (fun (h1 : x0.comps.length ≤ 900) (h2 : x0.links.length < 20000) (h3 : x0.shares.length < 20000) (W : World) (hx : Ext w W) => imRight_ x0 W (wi0.at_.ext hx) (by omega) (by omega) (by omega))
  have HWH := hid (fun (h1 : x0.comps.length ≤ 900) (h2 : x0.links.length < 20000) (h3 : x0.shares.length < 20000) (W : World) (hx : Ext w W) => where_ x0 W (wi0.at_.ext hx) (by omega) (by omega) (by omega))
  have HC := hid wi0.at_.c
  obtain ⟨nc, hm⟩ : ∃ y, x0.comps.length = y := ⟨_, rfl⟩
  obtain ⟨nl, hml⟩ : ∃ y, x0.links.length = y := ⟨_, rfl⟩
  obtain ⟨ns, hms⟩ : ∃ y, x0.shares.length = y := ⟨_, rfl⟩
  obtain ⟨Ca, hCa⟩ : ∃ y, x0.C = y := ⟨_, rfl⟩
  obtain ⟨La, hLa⟩ : ∃ y, x0.L = y := ⟨_, rfl⟩
  obtain ⟨Sa, hSa⟩ : ∃ y, x0.S = y := ⟨_, rfl⟩
  have HM := hid hm
  have HML := hid hml
  have HMS := hid hms
  rw [hm, hml, hms, hCa, hLa, hSa] at HGT HRT HWH
  rw [hCa] at HC
  rw [hm, hml, hms, hCa, hLa, hSa]
  clear hm hml hms hCa hLa hSa wi0
  go_enter Try.func6, Try.ntmps6
  go_upto_region 1 with (fail)
  refine wp_gen (fun V => Hid (Ext w V) ∧ Hid (Row V w.heap.size 0 [.bool x0.strict, .int .i64 x0.heap, .int .i64 x0.full, .slice Ca nc x0.cc, .slice La nl x0.lc, .slice Sa ns x0.sc])) ⟨hid (by repeat (first | (with_reducible exact Ext.refl _) | (with_reducible refine Ext.undrew ?_) | (with_reducible refine Ext.grow ?_ _) | (with_reducible refine Ext.drew ?_) | (with_reducible refine Ext.drewN ?_ _) | (with_reducible refine Ext.alloc ?_ _) | (with_reducible assumption) | ((with_reducible refine Ext.setCell ?_ ?_ _); rotate_left; (first | exact Nat.le_refl _ | ((try dsimp only); (try simp only [World.size_alloc, grow_size, World.size_setCell]); omega))))), hid (Row.new w _ _)⟩ ?_
  rintro V ⟨HV, HR⟩
  obtain ⟨p, hp⟩ : ∃ y, w.heap.size = y := ⟨_, rfl⟩
  have hpw : w.heap.size ≤ p := by omega
  rw [hp] at HR ⊢
  clear hp
  go_wp2_with fail
  refine (head17_ V).mono ?_
  rintro e W1 ⟨rfl, hx⟩
  replace HV := hid (HV.out.trans hx)
  replace HR := hid (HR.out.ext hx)
  clear hx
  have q := HR.out
  have ql := q.lt
  have qc0 := q.range 0 _ rfl
  have qc1 := q.range 1 _ rfl
  have qc2 := q.range 2 _ rfl
  have qc3 := q.range 3 _ rfl
  have qc4 := q.range 4 _ rfl
  have qc5 := q.range 5 _ rfl
  simp only [Nat.zero_add] at qc1 qc2 qc3 qc4 qc5
  clear q
  go_wp2_with fail
  refine (HGT.out W1 HV.out).mono ?_
  rintro e W2 ⟨⟨b, rfl, hb⟩, hx⟩
  replace HV := hid (HV.out.trans hx.out)
  replace HR := hid (HR.out.ext hx.out)
  have HB := hid hb
  clear hx HGT hb ql qc0 qc1 qc2 qc3 qc4 qc5
  cases b with
  | true =>
    go_wp2
    go_ret
    exact ⟨rfl, HV.out⟩
  | false =>
    obtain ⟨b1, b2, b3, b4⟩ := HB.out rfl
    replace HB := hid b4
    clear b4
    replace HRT := hid (HRT.out (by have := HM.out; omega) (by have := HML.out; omega) (by have := HMS.out; omega))
    replace HWH := hid (HWH.out (by have := HM.out; omega) (by have := HML.out; omega) (by have := HMS.out; omega))
    have q := HR.out
    have ql := q.lt
    have qc0 := q.range 0 _ rfl
    have qc1 := q.range 1 _ rfl
    have qc2 := q.range 2 _ rfl
    have qc3 := q.range 3 _ rfl
    have qc4 := q.range 4 _ rfl
    have qc5 := q.range 5 _ rfl
    simp only [Nat.zero_add] at qc1 qc2 qc3 qc4 qc5
    clear q
    go_wp2_with fail
    refine (HRT.out W2 HV.out).mono ?_
    rintro e W3 ⟨rfl, hx⟩
    replace HV := hid (HV.out.trans hx)
    replace HR := hid (HR.out.ext hx)
    clear hx HRT ql qc0 qc1 qc2 qc3 qc4 qc5
    obtain ⟨v, hv⟩ : ∃ y, rightV x0 = y := ⟨_, rfl⟩
    rw [hv]
    cases v with
    | false =>
      go_wp2
      go_ret
      exact ⟨rfl, HV.out⟩
    | true =>
      have HRV := hid hv
      have hn5 := (rightV_ok hv).1
      have hnc4 : nc ≤ 4 := by have := HM.out; omega
      have hns4 : ns ≤ 4 := by have := HMS.out; omega
      have HLO := hid (layV_ok hv)
      have HPG := hid (show 0 ≤ (layV x0).pg ∧ (layV x0).pg ≤ 500 by
        have h9 := pg_facts hv (show 0 < x0.comps.length by omega)
        have h8 := pg_le hv (Nat.zero_le x0.comps.length) (Nat.le_refl _)
        rw [at_pg]; omega)
      clear hv hn5
      have q := HR.out
      have ql := q.lt
      have qc0 := q.range 0 _ rfl
      have qc1 := q.range 1 _ rfl
      have qc2 := q.range 2 _ rfl
      have qc3 := q.range 3 _ rfl
      have qc4 := q.range 4 _ rfl
      have qc5 := q.range 5 _ rfl
      simp only [Nat.zero_add] at qc1 qc2 qc3 qc4 qc5
      clear q
      go_wp2_with fail
      refine (HWH.out W3 HV.out).mono ?_
      rintro e W4 ⟨hp, hx⟩
      rcases hp with ⟨h, _⟩ | ⟨_, y, rfl, HY⟩
      · rw [HRV.out] at h; cases h
      clear HWH ql qc0 qc1 qc2 qc3 qc4 qc5
      replace HV := hid (HV.out.trans hx.out)
      replace HR := hid (HR.out.ext hx.out)
      clear hx
      obtain ⟨q, base, vc, vd, vh, vs⟩ := y
      obtain ⟨B0, b0, rfl, _, _⟩ := HY.out.o0.shape
      obtain ⟨B1, b1, rfl, _, _⟩ := HY.out.o1.shape
      obtain ⟨B2, b2, rfl, _, _⟩ := HY.out.o2.shape
      obtain ⟨B3, b3, rfl, _, _⟩ := HY.out.o3.shape
      have HRC := hid (HY.out.o0.rdF rfl)
      have HRD := hid (HY.out.o1.rdF rfl)
      have HRH := hid (HY.out.o2.rdF rfl)
      have HRS := hid (HY.out.o3.rdF rfl)
      obtain ⟨l1, l2, l3, l4, l5, l6⟩ := HLO.out
      have HAL := hid (show allS x0 = (layV x0).C ++ (layV x0).D ++ (layV x0).H ++ (layV x0).S.map shSp from rfl)
      have HAN := hid (all_len HRV.out)
      have HOK := hid (fun (q : Nat) (s : Sp) (hq : (allS x0)[q]? = some s) => all_ok HRV.out hq)
      have HTW := hid (fun (q r : Nat) (s u : Sp) (hq : (allS x0)[q]? = some s) (hr : (allS x0)[r]? = some u) (hne : r < q) => all_two HRV.out hq hr hne)
      have HSZ := hid (fun (i : Nat) (hi : i < x0.comps.length) => at_H HRV.out hi)
      have HL6 := hid l6
      obtain ⟨t, ht⟩ : ∃ y, layV x0 = y := ⟨_, rfl⟩
      rw [ht] at HRC HRD HRH HRS l1 l2 l3 l4 HAL HOK HPG HSZ HL6
      rw [HM.out] at l1 l2 l3 HAN
      rw [HMS.out] at l4 HAN
      dsimp only
      rw [ht, l1, l2, l3, l4]
      have HRCn := hid l1
      have HRDn := hid l2
      have HRHn := hid l3
      have HRSn := hid l4
      obtain ⟨pg, hpg⟩ : ∃ y, t.pg = y := ⟨_, rfl⟩
      rw [hpg] at HOK HPG ⊢
      clear HY HLO l1 l2 l3 l4 l5 l6 ht hpg
      obtain ⟨hpg0, hpg1⟩ := HPG.out
      go_upto_region 5 with (fail)
      refine wp_gen (fun W => Hid (Ext W4 W) ∧ Hid (Row W W4.heap.size 0 [.slice B0 nc b0, .slice B1 nc b1, .slice B2 nc b2, .slice B3 ns b3, .int .i64 pg])) ⟨hid ((Ext.refl _).alloc _), hid (Row.new W4 _ _)⟩ ?_
      rintro W5 ⟨hx, HR4⟩
      obtain ⟨p4, hp4⟩ : ∃ y, W4.heap.size = y := ⟨_, rfl⟩
      rw [hp4] at HR4 ⊢
      replace HV := hid (HV.out.trans hx.out)
      replace HR := hid (HR.out.ext hx.out)
      replace HRC := hid (HRC.out.ext hx.out)
      replace HRD := hid (HRD.out.ext hx.out)
      replace HRH := hid (HRH.out.ext hx.out)
      replace HRS := hid (HRS.out.ext hx.out)
      clear hx hp4
      have q := HR.out
      have ql := q.lt
      have qc0 := q.range 0 _ rfl
      have qc1 := q.range 1 _ rfl
      have qc2 := q.range 2 _ rfl
      have qc3 := q.range 3 _ rfl
      have qc4 := q.range 4 _ rfl
      have qc5 := q.range 5 _ rfl
      simp only [Nat.zero_add] at qc1 qc2 qc3 qc4 qc5
      clear q
      have r := HR4.out
      have rl := r.lt
      have rc0 := r.range 0 _ rfl
      have rc1 := r.range 1 _ rfl
      have rc2 := r.range 2 _ rfl
      have rc3 := r.range 3 _ rfl
      have rc4 := r.range 4 _ rfl
      simp only [Nat.zero_add] at rc1 rc2 rc3 rc4
      clear r
      go_upto_region 8 with (fail)
      clear ql qc0 qc1 qc2 qc3 qc4 qc5
      clear rl rc0 rc1 rc2 rc3 rc4
      refine wp_region_only (S := (fun _ => False)) (.rd 1 (.rd 2 (.rd 4 (.rd 5 (.rd 7 (.rd 8 (.ac 0 (.ac 3 (.ac 6 (.ac 9 (.rd 10 .done))))))))))) (by kernel_rfl) (by kernel_rfl) (fun _ _ d _ _ h => by cases d <;> exact h) (by simp only [Ord.map, nthOp, List.append]; rfl) ?_
      intro d1
      have hex := Ext.grow (Ext.refl W5) d1
      replace HV := hid (HV.out.trans hex)
      replace HR := hid (HR.out.ext hex)
      replace HR4 := hid (HR4.out.ext hex)
      replace HRC := hid (HRC.out.ext hex)
      replace HRD := hid (HRD.out.ext hex)
      replace HRH := hid (HRH.out.ext hex)
      replace HRS := hid (HRS.out.ext hex)
      generalize Go.Proofs.Ytgldlkoohfclpaa.grow W5 d1 = WB at HV HR HR4 HRC HRD HRH HRS ⊢
      clear hex
      have hpl := HR4.out.lt
      have hb0 := HR4.out.range 0 _ rfl
      have hb1 := HR4.out.range 1 _ rfl
      have hb2 := HR4.out.range 2 _ rfl
      simp only [Nat.zero_add] at hb1 hb2
      have HS0 := hid (Only.refl (fun _ => False) WB)
      have HE0 := hid (Ext.refl WB)
      refine only_read (by rfl) (fun K hK => ?_)
      refine quiet_runD 54 rfl (.pointer (some ⟨p4, 0, none⟩)) (fun w => by kernel_rfl) ?_
      refine hK _ ?_
      clear hK K
      simp only [Act.put, List.setIfInBounds_toArray, List.set_cons_zero, List.set_cons_succ]
      refine only_read (by rfl) (fun K hK => ?_)
      refine quiet_load1 42 (.tmp 54) rfl (p4) (0) rfl (.slice B0 nc b0) _ (fun w' hw' => (hw'.cells p4 0 hpl id).trans hb0) Try.underlying42 rfl ?_
      refine hK _ ?_
      clear hK K
      simp only [Act.put, List.setIfInBounds_toArray, List.set_cons_zero, List.set_cons_succ]
      refine only_read (by rfl) (fun K hK => ?_)
      refine quiet_runD 57 rfl (.pointer (some ⟨p4, 1, none⟩)) (fun w => by kernel_rfl) ?_
      refine hK _ ?_
      clear hK K
      simp only [Act.put, List.setIfInBounds_toArray, List.set_cons_zero, List.set_cons_succ]
      refine only_read (by rfl) (fun K hK => ?_)
      refine quiet_load1 42 (.tmp 57) rfl (p4) (1) rfl (.slice B1 nc b1) _ (fun w' hw' => (hw'.cells p4 1 hpl id).trans hb1) Try.underlying42 rfl ?_
      refine hK _ ?_
      clear hK K
      simp only [Act.put, List.setIfInBounds_toArray, List.set_cons_zero, List.set_cons_succ]
      refine only_read (by rfl) (fun K hK => ?_)
      refine quiet_runD 60 rfl (.pointer (some ⟨p4, 2, none⟩)) (fun w => by kernel_rfl) ?_
      refine hK _ ?_
      clear hK K
      simp only [Act.put, List.setIfInBounds_toArray, List.set_cons_zero, List.set_cons_succ]
      refine only_read (by rfl) (fun K hK => ?_)
      refine quiet_load1 42 (.tmp 60) rfl (p4) (2) rfl (.slice B2 nc b2) _ (fun w' hw' => (hw'.cells p4 2 hpl id).trans hb2) Try.underlying42 rfl ?_
      refine hK _ ?_
      clear hK K
      simp only [Act.put, List.setIfInBounds_toArray, List.set_cons_zero, List.set_cons_succ]
      refine only_act (by rfl) (fun K hK => ?_)
      go_wp2_with fail
      refine ⟨_, Only.refl _ _, Only.alloc HS0.out _, ?_⟩
      refine only_gen (fun W => Hid (Ext WB W) ∧ Hid (ownsAt W WB.heap.size 51 2 (.slice (some ⟨WB.heap.size, 0, none⟩) 0 0) 0 (rowF SpF []))) ⟨hid ((Ext.refl _).alloc _), hid (own_new #[] _ 2 0 (Nat.le_refl _) rfl (by decide))⟩ ?_
      rintro V1 ⟨hE1, HO1⟩
      have HS1 := hid (HS0.out.transExt hE1.out)
      have HE1 := hid (HE0.out.trans hE1.out)
      obtain ⟨BS, hBS⟩ : ∃ y, WB.heap.size = y := ⟨_, rfl⟩
      rw [hBS] at HO1 ⊢
      have HBS := hid hBS
      clear hBS
      refine only_act (by rfl) (fun K hK => ?_)
      refine wp_app_row sp_len (by decide) sp_one Try.underlying42 info_sp (.tmp 53) (.tmp 55) rfl BS (.slice (some ⟨BS, 0, none⟩) 0 0) 0 (rowF SpF []) rfl HO1.out B0 nc b0 t.C rfl HRCn.out (HRC.out.ext HE1.out) (by unfold maxLen; omega) (by omega) (by have := HBS.out; have := HE1.out.size; omega) ?_
      intro v2 w2 hown hgrow hat
      obtain ⟨A2, c2, hv2, _, _⟩ := hown.shape
      subst hv2
      have HT2 := hid (grownOnly (S := fun i => BS ≤ i) hgrow (fun g e => (HO1.out.lt g e).1))
      have HS2 := hid (Only.trans HS1.out HT2.out (fun i hi => .inr (by rw [HBS.out]; exact hi)))
      have HE2 := hid (Ext.only HE1.out HT2.out (fun i hi => by rw [HBS.out]; exact hi))
      have HO2 := hid (show ownsAt w2 BS 51 2 (.slice A2 (0 + nc) c2) (0 + nc) (rowF SpF ([] ++ t.C)) by rw [rowF_append]; exact hown)
      refine hK _ _ ⟨_, Only.refl _ _, HS2.out, ?_⟩
      clear hK K hgrow hat hown
      simp only [Act.put, List.setIfInBounds_toArray, List.set_cons_zero, List.set_cons_succ]
      refine only_act (by rfl) (fun K hK => ?_)
      refine wp_app_row sp_len (by decide) sp_one Try.underlying42 info_sp (.tmp 56) (.tmp 58) rfl BS (.slice A2 (0 + nc) c2) (0 + nc) (rowF SpF ([] ++ t.C)) rfl HO2.out B1 nc b1 t.D rfl HRDn.out (HRD.out.ext HE2.out) (by unfold maxLen; omega) (by omega) (by have := HBS.out; have := HE2.out.size; omega) ?_
      intro v3 w3 hown hgrow hat
      obtain ⟨A3, c3, hv3, _, _⟩ := hown.shape
      subst hv3
      have HT3 := hid (grownOnly (S := fun i => BS ≤ i) hgrow (fun g e => (HO2.out.lt g e).1))
      have HS3 := hid (Only.trans HS2.out HT3.out (fun i hi => .inr (by rw [HBS.out]; exact hi)))
      have HE3 := hid (Ext.only HE2.out HT3.out (fun i hi => by rw [HBS.out]; exact hi))
      have HO3 := hid (show ownsAt w3 BS 51 2 (.slice A3 ((0 + nc) + nc) c3) ((0 + nc) + nc) (rowF SpF (([] ++ t.C) ++ t.D)) by rw [rowF_append]; exact hown)
      refine hK _ _ ⟨_, Only.refl _ _, HS3.out, ?_⟩
      clear hK K hgrow hat hown
      simp only [Act.put, List.setIfInBounds_toArray, List.set_cons_zero, List.set_cons_succ]
      refine only_act (by rfl) (fun K hK => ?_)
      refine wp_app_row sp_len (by decide) sp_one Try.underlying42 info_sp (.tmp 59) (.tmp 61) rfl BS (.slice A3 ((0 + nc) + nc) c3) ((0 + nc) + nc) (rowF SpF (([] ++ t.C) ++ t.D)) rfl HO3.out B2 nc b2 t.H rfl HRHn.out (HRH.out.ext HE3.out) (by unfold maxLen; omega) (by omega) (by have := HBS.out; have := HE3.out.size; omega) ?_
      intro v4 w4 hown hgrow hat
      obtain ⟨A4, c4, hv4, _, _⟩ := hown.shape
      subst hv4
      have HT4 := hid (grownOnly (S := fun i => BS ≤ i) hgrow (fun g e => (HO3.out.lt g e).1))
      have HS4 := hid (Only.trans HS3.out HT4.out (fun i hi => .inr (by rw [HBS.out]; exact hi)))
      have HE4 := hid (Ext.only HE3.out HT4.out (fun i hi => by rw [HBS.out]; exact hi))
      have HO4 := hid (show ownsAt w4 BS 51 2 (.slice A4 (((0 + nc) + nc) + nc) c4) (((0 + nc) + nc) + nc) (rowF SpF ((([] ++ t.C) ++ t.D) ++ t.H)) by rw [rowF_append]; exact hown)
      refine hK _ _ ⟨_, Only.refl _ _, HS4.out, ?_⟩
      clear hK K hgrow hat hown
      simp only [Act.put, List.setIfInBounds_toArray, List.set_cons_zero, List.set_cons_succ]
      refine only_read (by rfl) (fun K hK => ?_)
      go_big_quiet_op
      refine hK _ ?_
      clear hK K
      refine only_nil ?_
      have HOL := hid (show ownsAt w4 BS 51 2 (.slice A4 (0 + nc + nc + nc) c4) (0 + nc + nc + nc) (rowF SpF (t.C ++ t.D ++ t.H)) from HO4.out)
      have HEW := HE4
      clear HO1 HS1 HE1 HO2 HS2 HE2 HO3 HS3 HE3 HO4 HS4 HE4
      go_upto_region 9 with (fail)
      generalize w4 = WL at HOL HEW ⊢
      generalize A4 = AL0 at HOL ⊢
      generalize c4 = cL0 at HOL ⊢
      go_wp2
      go_loopw [6, 7] (fun v i wr => ∃ (j N : Nat) (A : Option Addr) (c : Nat), j ≤ ns ∧ i = .int .i64 j ∧ v = .slice A N c ∧ Hid (N = 0 + nc + nc + nc + j) ∧ Hid (Ext WB wr) ∧ Hid (ownsAt wr BS 51 2 (.slice A N c) N (rowF SpF (t.C ++ t.D ++ t.H ++ (t.S.take j).map shSp)))) (fun _ i _ => ns - (intOf i).toNat)
      case atStart => exact ⟨0, _, _, _, Nat.zero_le _, rfl, by first | rfl | simp, hid (by omega), HEW, hid (by simpa using HOL.out)⟩
      case round =>
        clear HOL HEW
        obtain ⟨j, N, A, c, hj, rfl, rfl, HNE, HX, HOW⟩ := hrel
        have HNB := hid (show N ≤ 100 by have := HNE.out; omega)
        have r := HR4.out.ext HX.out
        have rl := r.lt
        have rc0 := r.range 0 _ rfl
        have rc1 := r.range 1 _ rfl
        have rc2 := r.range 2 _ rfl
        have rc3 := r.range 3 _ rfl
        have rc4 := r.range 4 _ rfl
        simp only [Nat.zero_add] at rc1 rc2 rc3 rc4
        clear r
        by_cases hlt : j < ns
        · have hj1 : (j : Int) < (ns : Int) := by omega
          have hj0 : (0 : Int) ≤ (j : Int) := by omega
          have hjS : j < t.S.length := by rw [HRSn.out]; exact hlt
          obtain ⟨b3', o3', eS, hb3, hrg3⟩ := (HRS.out.ext HX.out).elem int_len (k := j) hjS t.S[j] rfl
          obtain ⟨s, hs⟩ : ∃ y, t.S[j] = y := ⟨_, rfl⟩
          rw [hs] at hrg3
          have hsb := HL6.out s (hs ▸ List.getElem_mem _)
          have HMR := hid (show t.C ++ t.D ++ t.H ++ (t.S.take (j + 1)).map shSp = (t.C ++ t.D ++ t.H ++ (t.S.take j).map shSp) ++ [shSp s] by rw [List.take_succ_eq_append_getElem hjS, hs, List.map_append, ← List.append_assoc]; rfl)
          have es := hrg3 0 _ rfl
          simp only [Nat.add_zero, Nat.mul_one] at es
          have HB3U := hid (show b3' < WB.heap.size by
            obtain ⟨b4, o4, e4, hb4, _⟩ := HRS.out (by omega)
            rw [eS] at e4
            cases e4
            exact hb4)
          subst eS
          have ESC := hid es
          have hj4 : ¬ ns ≤ j := by omega
          clear hrg3 hs es hjS
          go_upto_region 12 with (fail)
          clear rl rc0 rc1 rc2 rc3 rc4
          refine wp_region_only (S := (fun i => (Value.slice A N c).ownBlock = some i)) (.rd 0 (.rd 1 (.rd 2 (.rd 3 (.rd 4 (.rd 5 (.rd 6 (.rd 7 (.rd 8 (.rd 9 (.rd 10 (.rd 11 (.rd 12 (.ac 13 (.ac 14 (.rd 15 .done)))))))))))))))) (by kernel_rfl) (by kernel_rfl) (fun _ _ d _ _ h => by cases d <;> exact h) (by simp only [Ord.map, nthOp, List.append]; rfl) ?_
          intro d1
          have hex := Ext.grow (Ext.refl wr) d1
          have HX5 := hid (HX.out.trans hex)
          have HOW5 := hid (HOW.out.ext hex)
          have hes5 := (hex.cells b3' _ hb3).trans ESC.out
          have hbl5 := Nat.lt_of_lt_of_le hb3 hex.size
          generalize Go.Proofs.Ytgldlkoohfclpaa.grow wr d1 = W5 at HX5 HOW5 hes5 hbl5 ⊢
          have hp3 := (HX5.out.cells p4 3 HR4.out.lt).trans (HR4.out.range 3 _ rfl)
          have hpl5 := Nat.lt_of_lt_of_le HR4.out.lt HX5.out.size
          have HNP := hid (show ¬ (Value.slice A N c).ownBlock = some p4 from fun e => by have := (HOW5.out.lt _ e).1; have := HBS.out; have := HR4.out.lt; omega)
          have HNB3 := hid (show ¬ (Value.slice A N c).ownBlock = some b3' from fun e => by have := (HOW5.out.lt _ e).1; have := HBS.out; have := HB3U.out; omega)
          have HBZ := hid (show BS ≤ W5.heap.size by have := HBS.out; have := HX5.out.size; omega)
          have HS0 := hid (Only.refl (fun i => (Value.slice A N c).ownBlock = some i) W5)
          have HE0 := hid (Ext.refl W5)
          clear hex
          refine only_read (by rfl) (fun K hK => ?_)
          go_big_quiet_op
          refine hK _ ?_
          clear hK K
          refine only_read (by rfl) (fun K hK => ?_)
          refine quiet_runD 71 rfl (.pointer (some ⟨p4, 3, none⟩)) (fun w => by kernel_rfl) ?_
          refine hK _ ?_
          clear hK K
          simp only [Act.put, List.setIfInBounds_toArray, List.set_cons_zero, List.set_cons_succ]
          refine only_read (by rfl) (fun K hK => ?_)
          refine quiet_load1 43 (.tmp 71) rfl (p4) (3) rfl (.slice (some ⟨b3', o3', none⟩) ns b3) _ (fun w' hw' => (hw'.cells p4 3 hpl5 HNP.out).trans hp3) Try.underlying43 rfl ?_
          refine hK _ ?_
          clear hK K
          simp only [Act.put, List.setIfInBounds_toArray, List.set_cons_zero, List.set_cons_succ]
          refine only_read (by rfl) (fun K hK => ?_)
          go_big_quiet_op
          refine hK _ ?_
          clear hK K
          refine only_read (by rfl) (fun K hK => ?_)
          refine quiet_runD 74 rfl (.pointer (some ⟨b3', o3' + j, none⟩)) (fun w => by go_simp) ?_
          refine hK _ ?_
          clear hK K
          simp only [Act.put, List.setIfInBounds_toArray, List.set_cons_zero, List.set_cons_succ]
          refine only_read (by rfl) (fun K hK => ?_)
          refine quiet_load1 3 (.tmp 74) rfl (b3') (o3' + j) rfl (.int .i64 s) _ (fun w' hw' => (hw'.cells b3' _ hbl5 HNB3.out).trans hes5) Try.underlying3 rfl ?_
          refine hK _ ?_
          clear hK K
          simp only [Act.put, List.setIfInBounds_toArray, List.set_cons_zero, List.set_cons_succ]
          refine only_read (by rfl) (fun K hK => ?_)
          refine quiet_runD 76 rfl (.pointer (some ⟨p4, 3, none⟩)) (fun w => by kernel_rfl) ?_
          refine hK _ ?_
          clear hK K
          simp only [Act.put, List.setIfInBounds_toArray, List.set_cons_zero, List.set_cons_succ]
          refine only_read (by rfl) (fun K hK => ?_)
          refine quiet_load1 43 (.tmp 76) rfl (p4) (3) rfl (.slice (some ⟨b3', o3', none⟩) ns b3) _ (fun w' hw' => (hw'.cells p4 3 hpl5 HNP.out).trans hp3) Try.underlying43 rfl ?_
          refine hK _ ?_
          clear hK K
          simp only [Act.put, List.setIfInBounds_toArray, List.set_cons_zero, List.set_cons_succ]
          refine only_read (by rfl) (fun K hK => ?_)
          go_big_quiet_op
          refine hK _ ?_
          clear hK K
          refine only_read (by rfl) (fun K hK => ?_)
          refine quiet_runD 79 rfl (.pointer (some ⟨b3', o3' + j, none⟩)) (fun w => by go_simp) ?_
          refine hK _ ?_
          clear hK K
          simp only [Act.put, List.setIfInBounds_toArray, List.set_cons_zero, List.set_cons_succ]
          refine only_read (by rfl) (fun K hK => ?_)
          refine quiet_load1 3 (.tmp 79) rfl (b3') (o3' + j) rfl (.int .i64 s) _ (fun w' hw' => (hw'.cells b3' _ hbl5 HNB3.out).trans hes5) Try.underlying3 rfl ?_
          refine hK _ ?_
          clear hK K
          simp only [Act.put, List.setIfInBounds_toArray, List.set_cons_zero, List.set_cons_succ]
          refine only_read (by rfl) (fun K hK => ?_)
          refine quiet_runD 81 rfl (.int .i64 (s + 256)) (fun w => by go_simp; exact wraps_64 _ (by omega) (by omega)) ?_
          refine hK _ ?_
          clear hK K
          simp only [Act.put, List.setIfInBounds_toArray, List.set_cons_zero, List.set_cons_succ]
          refine only_read (by rfl) (fun K hK => ?_)
          refine quiet_runD 82 rfl (.agg #[.int .i64 s, .int .i64 (s + 256)]) (fun w => by kernel_rfl) ?_
          refine hK _ ?_
          clear hK K
          simp only [Act.put, List.setIfInBounds_toArray, List.set_cons_zero, List.set_cons_succ]
          refine only_act (by rfl) (fun K hK => ?_)
          refine wp_build1 42 51 (.tmp 82) rfl #[.int .i64 s, .int .i64 (s + 256)] 2 rfl rfl (by omega) (by omega) Try.underlying42 (by kernel_rfl) (by kernel_rfl) ?_
          refine hK _ _ ⟨_, Only.refl _ _, Only.alloc HS0.out _, ?_⟩
          refine only_gen (fun W => Hid (Ext W5 W) ∧ Hid (Row W W5.heap.size 0 [.int .i64 s, .int .i64 (s + 256)])) ⟨hid ((Ext.refl _).alloc _), hid (Row.new W5 _ _)⟩ ?_
          rintro V1 ⟨hE1, hR1⟩
          have HS1 := hid (HS0.out.transExt hE1.out)
          have HE1 := hid (HE0.out.trans hE1.out)
          refine only_act (by rfl) (fun K hK => ?_)
          refine wp_app_row sp_len (by decide) sp_one Try.underlying42 info_sp (.tmp 70) (.tmp 83) rfl BS (.slice A N c) N (rowF SpF (t.C ++ t.D ++ t.H ++ (t.S.take j).map shSp)) rfl (HOW5.out.ext HE1.out) (some ⟨W5.heap.size, 0, none⟩) 1 1 [shSp s] rfl rfl (RdF.row0 (zs := [shSp s]) hR1.out) (by have := HNB.out; unfold maxLen; omega) (by have := HNB.out; omega) (by have := HBZ.out; have := HE1.out.size; omega) ?_
          intro v6 w6 hown6 hgrow hat
          obtain ⟨A6, c6, hv6, _, _⟩ := hown6.shape
          subst hv6
          have HT6 : Hid (Only (fun i => (Value.slice A N c).ownBlock = some i) V1 w6) := hid (grownOnly hgrow fun g hg => hg)
          have HS6 := hid (Only.trans' HS1.out HT6.out)
          have HOW6 := hid (show ownsAt w6 BS 51 2 (.slice A6 (N + 1) c6) (N + 1) (rowF SpF (t.C ++ t.D ++ t.H ++ (t.S.take (j + 1)).map shSp)) by rw [HMR.out, rowF_append]; exact hown6)
          refine hK _ _ ⟨_, Only.refl _ _, HS6.out, ?_⟩
          clear hK K hgrow hat hown6
          simp only [Act.put, List.setIfInBounds_toArray, List.set_cons_zero, List.set_cons_succ]
          refine only_read (by rfl) (fun K hK => ?_)
          go_big_quiet_op
          refine hK _ ?_
          clear hK K
          refine only_nil ?_
          go_wp2
          go_roundw
          case rel => exact ⟨j + 1, N + 1, _, _, by omega, by go_num, rfl, hid (by have := HNE.out; omega), hid (Ext.only HX5.out HS6.out (fun i hi => by have := (HOW5.out.lt i hi).1; have := HBS.out; omega)), HOW6⟩
          case measure => simp [intOf]; omega
        · obtain rfl : ns = j := by omega
          have hj1 : ¬ (ns : Int) < (ns : Int) := by omega
          rw [List.take_of_length_le (by rw [HRSn.out]; exact Nat.le_refl _), ← HAL.out] at HOW
          have HNA := hid (show (allS x0).length = N by rw [HAN.out, HNE.out]; omega)
          have HA := hid (show RdF SpF wr A (allS x0) from HOW.out.rdF HNA.out)
          clear HOW
          go_wp2
          clear rl rc0 rc1 rc2 rc3 rc4
          go_loopw [8] (fun i wr => ∃ (k : Nat), k ≤ N ∧ i = .int .i64 k ∧ Hid (Ext WB wr) ∧ Hid (RdF SpF wr A (allS x0))) (fun i _ => N - (intOf i).toNat)
          case atStart => exact ⟨0, Nat.zero_le _, rfl, HX, HA⟩
          case round =>
            clear HX HA
            obtain ⟨i, hi, rfl, HX, HA⟩ := hrel
            have hNb : N ≤ 100 := HNB.out
            by_cases hlt2 : i < N
            · have hi1 : (i : Int) < (N : Int) := by omega
              have hi0 : (0 : Int) ≤ (i : Int) := by omega
              have hil : i < (allS x0).length := by rw [HNA.out]; exact hlt2
              obtain ⟨s, hs⟩ : ∃ y, (allS x0)[i] = y := ⟨_, rfl⟩
              have HSI := hid (show (allS x0)[i]? = some s by rw [List.getElem?_eq_getElem hil, hs])
              obtain ⟨s1, s2, s3, s4, s5⟩ := HOK.out i s HSI.out
              obtain ⟨al, ao, eA, hal, hra⟩ := HA.out.elem sp_len hil s hs
              obtain ⟨lo, hi2⟩ := s
              dsimp only at s1 s2 s3 s4 s5
              subst eA
              have e0 := hra 0 _ rfl
              have e1 := hra 1 _ rfl
              simp only [Nat.add_zero] at e0
              have z1 : ¬ lo < 256 := by omega
              have z3 : ¬ hi2 ≤ lo := by omega
              have z4 : ¬ 256 * pg < hi2 := by omega
              clear hra hil hs
              go_upto_region 16 with (fail)
              refine wp_region_step (.rd 0 (.rd 1 (.rd 2 (.rd 3 (.rd 4 (.rd 5 (.rd 6 (.rd 7 (.rd 8 (.rd 9 (.rd 10 (.rd 11 (.rd 12 (.rd 13 (.rd 14 (.rd 15 (.rd 16 (.rd 17 (.rd 18 (.rd 19 (.rd 20 (.rd 21 (.rd 22 (.rd 23 (.rd 24 (.rd 25 (.rd 26 (.rd 27 (.rd 28 (.rd 29 (.rd 30 (.rd 31 (.rd 32 (.rd 33 (.rd 34 (.rd 35 (.rd 36 (.rd 37 (.rd 38 .done))))))))))))))))))))))))))))))))))))))) (by kernel_rfl) (by kernel_rfl) (fun _ _ d _ _ h => by cases d <;> exact h) (by simp only [Ord.map, nthOp, List.append]; rfl) ?_
              intro d0
              have HU0 := hid (Ext.grow (Ext.refl wr) d0)
              generalize Go.Proofs.Ytgldlkoohfclpaa.grow wr d0 = U0 at HU0 ⊢
              have g0 := (HU0.out.cells _ _ hal).trans e0
              have g1 := (HU0.out.cells _ _ hal).trans e1
              have hgl0 := Nat.lt_of_lt_of_le hal HU0.out.size
              have hp4l := Nat.lt_of_lt_of_le (Nat.lt_of_lt_of_le HR4.out.lt HX.out.size) HU0.out.size
              have hp44 := ((HX.out.trans HU0.out).cells p4 4 HR4.out.lt).trans (HR4.out.range 4 _ rfl)
              refine step_read (by rfl) (fun K hK => ?_)
              go_big_quiet_op
              refine hK _ ?_
              clear hK K
              refine step_read (by rfl) (fun K hK => ?_)
              go_big_quiet_op
              refine hK _ ?_
              clear hK K
              refine step_read (by rfl) (fun K hK => ?_)
              go_big_quiet_op
              refine hK _ ?_
              clear hK K
              refine step_read (by rfl) (fun K hK => ?_)
              go_big_quiet_op
              refine hK _ ?_
              clear hK K
              refine step_read (by rfl) (fun K hK => ?_)
              go_big_quiet_op
              refine hK _ ?_
              clear hK K
              refine step_read (by rfl) (fun K hK => ?_)
              refine quiet_runD 96 rfl (.bool false) (fun w => by first | (go_simp; done) | (go_simp; exact decide_eq_false z1)) ?_
              refine hK _ ?_
              clear hK K
              simp only [Act.put, List.setIfInBounds_toArray, List.set_cons_zero, List.set_cons_succ]
              refine step_read (by rfl) (fun K hK => ?_)
              go_big_quiet_op
              refine hK _ ?_
              clear hK K
              refine step_read (by rfl) (fun K hK => ?_)
              go_big_quiet_op
              refine hK _ ?_
              clear hK K
              refine step_read (by rfl) (fun K hK => ?_)
              go_big_quiet_op
              refine hK _ ?_
              clear hK K
              refine step_read (by rfl) (fun K hK => ?_)
              go_big_quiet_op
              refine hK _ ?_
              clear hK K
              refine step_read (by rfl) (fun K hK => ?_)
              go_big_quiet_op
              refine hK _ ?_
              clear hK K
              refine step_read (by rfl) (fun K hK => ?_)
              go_big_quiet_op
              refine hK _ ?_
              clear hK K
              refine step_read (by rfl) (fun K hK => ?_)
              refine quiet_runD 103 rfl (.int .i64 0) (fun w => by go_simp) ?_
              refine hK _ ?_
              clear hK K
              simp only [Act.put, List.setIfInBounds_toArray, List.set_cons_zero, List.set_cons_succ]
              refine step_read (by rfl) (fun K hK => ?_)
              refine quiet_runD 104 rfl (.bool false) (fun w => by go_simp) ?_
              refine hK _ ?_
              clear hK K
              simp only [Act.put, List.setIfInBounds_toArray, List.set_cons_zero, List.set_cons_succ]
              refine step_read (by rfl) (fun K hK => ?_)
              go_big_quiet_op
              refine hK _ ?_
              clear hK K
              refine step_read (by rfl) (fun K hK => ?_)
              go_big_quiet_op
              refine hK _ ?_
              clear hK K
              refine step_read (by rfl) (fun K hK => ?_)
              go_big_quiet_op
              refine hK _ ?_
              clear hK K
              refine step_read (by rfl) (fun K hK => ?_)
              go_big_quiet_op
              refine hK _ ?_
              clear hK K
              refine step_read (by rfl) (fun K hK => ?_)
              go_big_quiet_op
              refine hK _ ?_
              clear hK K
              refine step_read (by rfl) (fun K hK => ?_)
              go_big_quiet_op
              refine hK _ ?_
              clear hK K
              refine step_read (by rfl) (fun K hK => ?_)
              go_big_quiet_op
              refine hK _ ?_
              clear hK K
              refine step_read (by rfl) (fun K hK => ?_)
              go_big_quiet_op
              refine hK _ ?_
              clear hK K
              refine step_read (by rfl) (fun K hK => ?_)
              go_big_quiet_op
              refine hK _ ?_
              clear hK K
              refine step_read (by rfl) (fun K hK => ?_)
              go_big_quiet_op
              refine hK _ ?_
              clear hK K
              refine step_read (by rfl) (fun K hK => ?_)
              go_big_quiet_op
              refine hK _ ?_
              clear hK K
              refine step_read (by rfl) (fun K hK => ?_)
              go_big_quiet_op
              refine hK _ ?_
              clear hK K
              refine step_read (by rfl) (fun K hK => ?_)
              refine quiet_runD 117 rfl (.bool false) (fun w => by first | (go_simp; done) | (go_simp; exact decide_eq_false z3)) ?_
              refine hK _ ?_
              clear hK K
              simp only [Act.put, List.setIfInBounds_toArray, List.set_cons_zero, List.set_cons_succ]
              refine step_read (by rfl) (fun K hK => ?_)
              go_big_quiet_op
              refine hK _ ?_
              clear hK K
              refine step_read (by rfl) (fun K hK => ?_)
              go_big_quiet_op
              refine hK _ ?_
              clear hK K
              refine step_read (by rfl) (fun K hK => ?_)
              go_big_quiet_op
              refine hK _ ?_
              clear hK K
              refine step_read (by rfl) (fun K hK => ?_)
              go_big_quiet_op
              refine hK _ ?_
              clear hK K
              refine step_read (by rfl) (fun K hK => ?_)
              go_big_quiet_op
              refine hK _ ?_
              clear hK K
              refine step_read (by rfl) (fun K hK => ?_)
              go_big_quiet_op
              refine hK _ ?_
              clear hK K
              refine step_read (by rfl) (fun K hK => ?_)
              go_big_quiet_op
              refine hK _ ?_
              clear hK K
              refine step_read (by rfl) (fun K hK => ?_)
              go_big_quiet_op
              refine hK _ ?_
              clear hK K
              refine step_read (by rfl) (fun K hK => ?_)
              go_big_quiet_op
              refine hK _ ?_
              clear hK K
              refine step_read (by rfl) (fun K hK => ?_)
              refine quiet_runD 127 rfl (.int .i64 (256 * pg)) (fun w => by go_simp; exact wraps_64 _ (by omega) (by omega)) ?_
              refine hK _ ?_
              clear hK K
              simp only [Act.put, List.setIfInBounds_toArray, List.set_cons_zero, List.set_cons_succ]
              refine step_read (by rfl) (fun K hK => ?_)
              refine quiet_runD 128 rfl (.bool false) (fun w => by first | (go_simp; done) | (go_simp; exact decide_eq_false z4)) ?_
              refine hK _ ?_
              clear hK K
              simp only [Act.put, List.setIfInBounds_toArray, List.set_cons_zero, List.set_cons_succ]
              refine step_read (by rfl) (fun K hK => ?_)
              go_big_quiet_op
              refine hK _ ?_
              clear hK K
              refine step_nil ?_
              replace HX := hid (HX.out.trans HU0.out)
              replace HA := hid (HA.out.ext HU0.out)
              generalize U0 = WK at HX HA ⊢
              clear e0 e1 z1 z3 z4 s1 s2 s3 s4 s5 g0 g1 hgl0 hp4l hp44 hal
              go_wp2
              go_loopw [9] (fun z wr => ∃ (k : Nat), k ≤ i ∧ z = .int .i64 k ∧ Hid (Ext WB wr) ∧ Hid (RdF SpF wr (some ⟨al, ao, none⟩) (allS x0))) (fun z _ => i - (intOf z).toNat)
              case atStart => exact ⟨0, Nat.zero_le _, rfl, HX, HA⟩
              case round =>
                clear HX HA
                obtain ⟨k, hk, rfl, HX, HA⟩ := hrel
                by_cases hlt3 : k < i
                · have hk1 : (k : Int) < (i : Int) := by omega
                  have hk0 : (0 : Int) ≤ (k : Int) := by omega
                  have hkN : (k : Int) < (N : Int) := by omega
                  have hkl : k < (allS x0).length := by rw [HNA.out]; omega
                  obtain ⟨u, hu⟩ : ∃ y, (allS x0)[k] = y := ⟨_, rfl⟩
                  have HUK := hid (show (allS x0)[k]? = some u by rw [List.getElem?_eq_getElem hkl, hu])
                  have HNO := hid (HTW.out i k _ u HSI.out HUK.out hlt3)
                  obtain ⟨a2, o2, eA, hal, hra⟩ := HA.out.elem sp_len hkl u hu
                  cases eA
                  obtain ⟨a3, o3, eA, _, hri⟩ := HA.out.elem sp_len (k := i) (by rw [HNA.out]; exact hlt2) ⟨lo, hi2⟩ (by have h9 := HSI.out; rw [List.getElem?_eq_getElem (by rw [HNA.out]; exact hlt2)] at h9; exact Option.some.inj h9)
                  cases eA
                  obtain ⟨ul, uh⟩ := u
                  dsimp only at HNO
                  have e0 := hri 0 _ rfl
                  have e1 := hri 1 _ rfl
                  have f0 := hra 0 _ rfl
                  have f1 := hra 1 _ rfl
                  simp only [Nat.add_zero] at e0 f0
                  clear hra hri hkl hu
                  go_upto_region 21 with (fail)
                  by_cases c1 : lo < uh
                  · have c2 : ¬ ul < hi2 := fun h => HNO.out ⟨c1, h⟩
                    refine wp_region_grow (by kernel_rfl) (by kernel_rfl) (by first | (simp only [List.append]; rfl) | rfl) ?_
                    (repeat (go_big_quiet_step (fail)))
                    refine wpQuiet_nil ?_
                    intro wq hq
                    obtain ⟨dq, rfl⟩ := hq
                    replace HX := hid (HX.out.trans (Ext.grow (Ext.refl wr) dq))
                    replace HA := hid (HA.out.ext (Ext.grow (Ext.refl wr) dq))
                    go_wp2
                    go_roundw
                    case rel => exact ⟨k + 1, by omega, by go_num, HX, HA⟩
                    case measure => simp [intOf]; omega
                  · 
                    refine wp_region_grow (by kernel_rfl) (by kernel_rfl) (by first | (simp only [List.append]; rfl) | rfl) ?_
                    (repeat (go_big_quiet_step (fail)))
                    refine wpQuiet_nil ?_
                    intro wq hq
                    obtain ⟨dq, rfl⟩ := hq
                    replace HX := hid (HX.out.trans (Ext.grow (Ext.refl wr) dq))
                    replace HA := hid (HA.out.ext (Ext.grow (Ext.refl wr) dq))
                    go_wp2
                    go_roundw
                    case rel => exact ⟨k + 1, by omega, by go_num, HX, HA⟩
                    case measure => simp [intOf]; omega
                · obtain rfl : i = k := by omega
                  have hk1 : ¬ (i : Int) < (i : Int) := by omega
                  go_wp2
                  go_roundw
                  case rel => exact ⟨i + 1, by omega, by go_num, HX, HA⟩
                  case measure => simp [intOf]; omega
            · obtain rfl : N = i := by omega
              have hi1 : ¬ (N : Int) < (N : Int) := by omega
              go_wp2
              go_loopw [10] (fun z wr => ∃ (i : Nat), i ≤ nc ∧ z = .int .i64 i ∧ Hid (Ext WB wr)) (fun z _ => nc - (intOf z).toNat)
              case atStart => exact ⟨0, Nat.zero_le _, rfl, HX⟩
              case round =>
                clear HX HA
                obtain ⟨i, hin, rfl, HX⟩ := hrel
                by_cases hlt4 : i < nc
                · have hi4 : (i : Int) < (nc : Int) := by omega
                  have hi0 : (0 : Int) ≤ (i : Int) := by omega
                  have hic : i < x0.comps.length := by rw [HM.out]; exact hlt4
                  obtain ⟨f1, f2, f3, f4, ⟨f5, f6, f7, f8⟩, f9⟩ := pg_facts HRV.out hic
                  have hp64 := (rightV_ok HRV.out).1.2.1
                  obtain ⟨sC, sD, sH⟩ := HSZ.out i hic
                  obtain ⟨d, hd⟩ : ∃ y, x0.comps[i] = y := ⟨_, rfl⟩
                  rw [hd] at sC sD sH f2 f5 f6 f7 f8
                  obtain ⟨bn, hbn⟩ : ∃ y, d.bl.length = y := ⟨_, rfl⟩
                  obtain ⟨dd, hdd⟩ : ∃ y, d.data = y := ⟨_, rfl⟩
                  rw [hbn] at sC sD sH f2 f5 f6
                  rw [hdd] at sD sH f2 f7 f8
                  unfold lnPg at f2 sD sH
                  obtain ⟨pa, hpa⟩ : ∃ y, pgA x0 i * 256 = y := ⟨_, rfl⟩
                  obtain ⟨pd, hpd⟩ : ∃ y, (pgA x0 i + ((bn : Int) + 255) / 256) * 256 = y := ⟨_, rfl⟩
                  obtain ⟨ph, hph⟩ : ∃ y, (pgA x0 i + ((bn : Int) + 255) / 256 + dd) * 256 = y := ⟨_, rfl⟩
                  have eD : (pgA x0 i + ((bn : Int) + 255) / 256 + dd) * 256 = pd + 256 * dd := by omega
                  have eH : (pgA x0 i + ((bn : Int) + 255) / 256 + dd + x0.heap) * 256 = ph + 256 * x0.heap := by omega
                  rw [hpa] at sC
                  rw [eD, hpd] at sD
                  rw [eH, hph] at sH
                  have pa0 : 0 ≤ pa ∧ pa ≤ 200000 := by omega
                  have pd0 : 0 ≤ pd ∧ pd ≤ 200000 := by omega
                  have ph0 : 0 ≤ ph ∧ ph ≤ 200000 := by omega
                  obtain ⟨hiC, sC⟩ := List.getElem?_eq_some_iff.1 sC
                  obtain ⟨hiD, sD⟩ := List.getElem?_eq_some_iff.1 sD
                  obtain ⟨hiH, sH⟩ := List.getElem?_eq_some_iff.1 sH
                  obtain ⟨kab, kao, eA, kal, kar⟩ := (HRC.out.ext HX.out).elem sp_len hiC _ sC
                  obtain ⟨kbb, kbo, eB, kbl, kbr⟩ := (HRD.out.ext HX.out).elem sp_len hiD _ sD
                  obtain ⟨khb, kho, eC, khl, khr⟩ := (HRH.out.ext HX.out).elem sp_len hiH _ sH
                  obtain ⟨kcb, kco, eX, kcl, kcr⟩ := (HC.out.ext (HV.out.trans HX.out)).elem cmp_len hic d hd
                  obtain ⟨dA, dca, dbl, ddat⟩ := d
                  dsimp only at hbn hdd
                  subst hdd
                  have kcr2 : wr.rangeAt kcb (kco + i * 2) [.slice dA bn dca, .int .i64 ddat] := by rw [← hbn]; exact kcr
                  clear kcr
                  have kcr := kcr2
                  clear kcr2 hpa hpd hph eD eH sC sD sH hiC hiD hiH f1 f2 f3 f4 hd hbn hic
                  subst eA
                  subst eB
                  subst eC
                  subst eX
                  obtain ⟨pa1, pa2⟩ := pa0
                  obtain ⟨pd1, pd2⟩ := pd0
                  obtain ⟨ph1, ph2⟩ := ph0
                  go_upto_region 26 with (fail)
                  refine wp_region_step (.rd 0 (.rd 1 (.rd 2 (.rd 3 (.rd 4 (.rd 5 (.rd 6 (.rd 7 (.rd 8 (.rd 9 (.rd 10 (.rd 11 (.rd 12 (.rd 13 (.rd 14 (.rd 15 (.rd 16 (.rd 17 (.rd 18 (.rd 19 (.rd 20 (.rd 21 (.rd 22 (.rd 23 (.rd 24 (.rd 25 (.rd 26 (.rd 27 (.rd 28 (.rd 29 (.rd 30 (.rd 31 (.rd 32 (.rd 33 (.rd 34 (.rd 35 (.rd 36 (.rd 37 (.rd 38 (.rd 39 (.rd 40 (.rd 41 (.rd 42 (.rd 43 (.rd 44 (.rd 45 (.rd 46 (.rd 47 (.rd 48 (.rd 49 (.rd 50 (.rd 51 (.rd 52 (.rd 53 (.rd 54 (.rd 55 (.rd 56 (.rd 57 (.rd 58 (.rd 59 (.rd 60 (.rd 61 (.rd 62 .done))))))))))))))))))))))))))))))))))))))))))))))))))))))))))))))) (by kernel_rfl) (by kernel_rfl) (fun _ _ d _ _ h => by cases d <;> exact h) (by simp only [Ord.map, nthOp, List.append]; rfl) ?_
                  intro d0
                  have HU0 := hid (Ext.grow (Ext.refl wr) d0)
                  generalize Go.Proofs.Ytgldlkoohfclpaa.grow wr d0 = U0 at HU0 ⊢
                  have hexu := HX.out.trans HU0.out
                  have q := HR.out.ext hexu
                  have ql := q.lt
                  have qc0 := q.range 0 _ rfl
                  have qc1 := q.range 1 _ rfl
                  have qc2 := q.range 2 _ rfl
                  have qc3 := q.range 3 _ rfl
                  have qc4 := q.range 4 _ rfl
                  have qc5 := q.range 5 _ rfl
                  simp only [Nat.zero_add] at qc1 qc2 qc3 qc4 qc5
                  clear q
                  have r := HR4.out.ext hexu
                  have rl := r.lt
                  have rc0 := r.range 0 _ rfl
                  have rc1 := r.range 1 _ rfl
                  have rc2 := r.range 2 _ rfl
                  have rc3 := r.range 3 _ rfl
                  have rc4 := r.range 4 _ rfl
                  simp only [Nat.zero_add] at rc1 rc2 rc3 rc4
                  clear r
                  have ka0 := (HU0.out.cells _ _ kal).trans (kar 0 _ rfl)
                  have ka1 := (HU0.out.cells _ _ kal).trans (kar 1 _ rfl)
                  have kaz := Nat.lt_of_lt_of_le kal HU0.out.size
                  simp only [Nat.add_zero] at ka0
                  have kb0 := (HU0.out.cells _ _ kbl).trans (kbr 0 _ rfl)
                  have kb1 := (HU0.out.cells _ _ kbl).trans (kbr 1 _ rfl)
                  have kbz := Nat.lt_of_lt_of_le kbl HU0.out.size
                  simp only [Nat.add_zero] at kb0
                  have kh0 := (HU0.out.cells _ _ khl).trans (khr 0 _ rfl)
                  have kh1 := (HU0.out.cells _ _ khl).trans (khr 1 _ rfl)
                  have khz := Nat.lt_of_lt_of_le khl HU0.out.size
                  simp only [Nat.add_zero] at kh0
                  have kc0 := (HU0.out.cells _ _ kcl).trans (kcr 0 _ rfl)
                  have kc1 := (HU0.out.cells _ _ kcl).trans (kcr 1 _ rfl)
                  have kcz := Nat.lt_of_lt_of_le kcl HU0.out.size
                  simp only [Nat.add_zero] at kc0
                  clear hexu
                  refine step_read (by rfl) (fun K hK => ?_)
                  go_big_quiet_op
                  refine hK _ ?_
                  clear hK K
                  refine step_read (by rfl) (fun K hK => ?_)
                  go_big_quiet_op
                  refine hK _ ?_
                  clear hK K
                  refine step_read (by rfl) (fun K hK => ?_)
                  go_big_quiet_op
                  refine hK _ ?_
                  clear hK K
                  refine step_read (by rfl) (fun K hK => ?_)
                  go_big_quiet_op
                  refine hK _ ?_
                  clear hK K
                  refine step_read (by rfl) (fun K hK => ?_)
                  go_big_quiet_op
                  refine hK _ ?_
                  clear hK K
                  refine step_read (by rfl) (fun K hK => ?_)
                  go_big_quiet_op
                  refine hK _ ?_
                  clear hK K
                  refine step_read (by rfl) (fun K hK => ?_)
                  go_big_quiet_op
                  refine hK _ ?_
                  clear hK K
                  refine step_read (by rfl) (fun K hK => ?_)
                  go_big_quiet_op
                  refine hK _ ?_
                  clear hK K
                  refine step_read (by rfl) (fun K hK => ?_)
                  go_big_quiet_op
                  refine hK _ ?_
                  clear hK K
                  refine step_read (by rfl) (fun K hK => ?_)
                  go_big_quiet_op
                  refine hK _ ?_
                  clear hK K
                  refine step_read (by rfl) (fun K hK => ?_)
                  go_big_quiet_op
                  refine hK _ ?_
                  clear hK K
                  refine step_read (by rfl) (fun K hK => ?_)
                  go_big_quiet_op
                  refine hK _ ?_
                  clear hK K
                  refine step_read (by rfl) (fun K hK => ?_)
                  refine quiet_runD 176 rfl (.int .i64 (bn : Int)) (fun w => by go_simp; rw [wraps_64 _ (by omega) (by omega)]; omega) ?_
                  refine hK _ ?_
                  clear hK K
                  simp only [Act.put, List.setIfInBounds_toArray, List.set_cons_zero, List.set_cons_succ]
                  refine step_read (by rfl) (fun K hK => ?_)
                  go_big_quiet_op
                  refine hK _ ?_
                  clear hK K
                  refine step_read (by rfl) (fun K hK => ?_)
                  go_big_quiet_op
                  refine hK _ ?_
                  clear hK K
                  refine step_read (by rfl) (fun K hK => ?_)
                  go_big_quiet_op
                  refine hK _ ?_
                  clear hK K
                  refine step_read (by rfl) (fun K hK => ?_)
                  go_big_quiet_op
                  refine hK _ ?_
                  clear hK K
                  refine step_read (by rfl) (fun K hK => ?_)
                  go_big_quiet_op
                  refine hK _ ?_
                  clear hK K
                  refine step_read (by rfl) (fun K hK => ?_)
                  go_big_quiet_op
                  refine hK _ ?_
                  clear hK K
                  refine step_read (by rfl) (fun K hK => ?_)
                  go_big_quiet_op
                  refine hK _ ?_
                  clear hK K
                  refine step_read (by rfl) (fun K hK => ?_)
                  refine quiet_runD 184 rfl (.bool false) (fun w => by go_simp) ?_
                  refine hK _ ?_
                  clear hK K
                  simp only [Act.put, List.setIfInBounds_toArray, List.set_cons_zero, List.set_cons_succ]
                  refine step_read (by rfl) (fun K hK => ?_)
                  go_big_quiet_op
                  refine hK _ ?_
                  clear hK K
                  refine step_read (by rfl) (fun K hK => ?_)
                  go_big_quiet_op
                  refine hK _ ?_
                  clear hK K
                  refine step_read (by rfl) (fun K hK => ?_)
                  go_big_quiet_op
                  refine hK _ ?_
                  clear hK K
                  refine step_read (by rfl) (fun K hK => ?_)
                  go_big_quiet_op
                  refine hK _ ?_
                  clear hK K
                  refine step_read (by rfl) (fun K hK => ?_)
                  go_big_quiet_op
                  refine hK _ ?_
                  clear hK K
                  refine step_read (by rfl) (fun K hK => ?_)
                  go_big_quiet_op
                  refine hK _ ?_
                  clear hK K
                  refine step_read (by rfl) (fun K hK => ?_)
                  go_big_quiet_op
                  refine hK _ ?_
                  clear hK K
                  refine step_read (by rfl) (fun K hK => ?_)
                  go_big_quiet_op
                  refine hK _ ?_
                  clear hK K
                  refine step_read (by rfl) (fun K hK => ?_)
                  go_big_quiet_op
                  refine hK _ ?_
                  clear hK K
                  refine step_read (by rfl) (fun K hK => ?_)
                  go_big_quiet_op
                  refine hK _ ?_
                  clear hK K
                  refine step_read (by rfl) (fun K hK => ?_)
                  go_big_quiet_op
                  refine hK _ ?_
                  clear hK K
                  refine step_read (by rfl) (fun K hK => ?_)
                  go_big_quiet_op
                  refine hK _ ?_
                  clear hK K
                  refine step_read (by rfl) (fun K hK => ?_)
                  go_big_quiet_op
                  refine hK _ ?_
                  clear hK K
                  refine step_read (by rfl) (fun K hK => ?_)
                  refine quiet_runD 198 rfl (.int .i64 (256 * ddat)) (fun w => by go_simp; rw [wraps_64 _ (by omega) (by omega)]; omega) ?_
                  refine hK _ ?_
                  clear hK K
                  simp only [Act.put, List.setIfInBounds_toArray, List.set_cons_zero, List.set_cons_succ]
                  refine step_read (by rfl) (fun K hK => ?_)
                  go_big_quiet_op
                  refine hK _ ?_
                  clear hK K
                  refine step_read (by rfl) (fun K hK => ?_)
                  go_big_quiet_op
                  refine hK _ ?_
                  clear hK K
                  refine step_read (by rfl) (fun K hK => ?_)
                  go_big_quiet_op
                  refine hK _ ?_
                  clear hK K
                  refine step_read (by rfl) (fun K hK => ?_)
                  go_big_quiet_op
                  refine hK _ ?_
                  clear hK K
                  refine step_read (by rfl) (fun K hK => ?_)
                  go_big_quiet_op
                  refine hK _ ?_
                  clear hK K
                  refine step_read (by rfl) (fun K hK => ?_)
                  go_big_quiet_op
                  refine hK _ ?_
                  clear hK K
                  refine step_read (by rfl) (fun K hK => ?_)
                  refine quiet_runD 205 rfl (.int .i64 (256 * ddat)) (fun w => by go_simp; exact wraps_64 _ (by omega) (by omega)) ?_
                  refine hK _ ?_
                  clear hK K
                  simp only [Act.put, List.setIfInBounds_toArray, List.set_cons_zero, List.set_cons_succ]
                  refine step_read (by rfl) (fun K hK => ?_)
                  refine quiet_runD 206 rfl (.bool false) (fun w => by go_simp) ?_
                  refine hK _ ?_
                  clear hK K
                  simp only [Act.put, List.setIfInBounds_toArray, List.set_cons_zero, List.set_cons_succ]
                  refine step_read (by rfl) (fun K hK => ?_)
                  go_big_quiet_op
                  refine hK _ ?_
                  clear hK K
                  refine step_read (by rfl) (fun K hK => ?_)
                  go_big_quiet_op
                  refine hK _ ?_
                  clear hK K
                  refine step_read (by rfl) (fun K hK => ?_)
                  go_big_quiet_op
                  refine hK _ ?_
                  clear hK K
                  refine step_read (by rfl) (fun K hK => ?_)
                  go_big_quiet_op
                  refine hK _ ?_
                  clear hK K
                  refine step_read (by rfl) (fun K hK => ?_)
                  go_big_quiet_op
                  refine hK _ ?_
                  clear hK K
                  refine step_read (by rfl) (fun K hK => ?_)
                  go_big_quiet_op
                  refine hK _ ?_
                  clear hK K
                  refine step_read (by rfl) (fun K hK => ?_)
                  go_big_quiet_op
                  refine hK _ ?_
                  clear hK K
                  refine step_read (by rfl) (fun K hK => ?_)
                  go_big_quiet_op
                  refine hK _ ?_
                  clear hK K
                  refine step_read (by rfl) (fun K hK => ?_)
                  go_big_quiet_op
                  refine hK _ ?_
                  clear hK K
                  refine step_read (by rfl) (fun K hK => ?_)
                  go_big_quiet_op
                  refine hK _ ?_
                  clear hK K
                  refine step_read (by rfl) (fun K hK => ?_)
                  go_big_quiet_op
                  refine hK _ ?_
                  clear hK K
                  refine step_read (by rfl) (fun K hK => ?_)
                  go_big_quiet_op
                  refine hK _ ?_
                  clear hK K
                  refine step_read (by rfl) (fun K hK => ?_)
                  go_big_quiet_op
                  refine hK _ ?_
                  clear hK K
                  refine step_read (by rfl) (fun K hK => ?_)
                  go_big_quiet_op
                  refine hK _ ?_
                  clear hK K
                  refine step_read (by rfl) (fun K hK => ?_)
                  refine quiet_runD 221 rfl (.int .i64 (256 * x0.heap)) (fun w => by go_simp; rw [wraps_64 _ (by omega) (by omega)]; omega) ?_
                  refine hK _ ?_
                  clear hK K
                  simp only [Act.put, List.setIfInBounds_toArray, List.set_cons_zero, List.set_cons_succ]
                  refine step_read (by rfl) (fun K hK => ?_)
                  go_big_quiet_op
                  refine hK _ ?_
                  clear hK K
                  refine step_read (by rfl) (fun K hK => ?_)
                  go_big_quiet_op
                  refine hK _ ?_
                  clear hK K
                  refine step_read (by rfl) (fun K hK => ?_)
                  refine quiet_runD 224 rfl (.int .i64 (256 * x0.heap)) (fun w => by go_simp; exact wraps_64 _ (by omega) (by omega)) ?_
                  refine hK _ ?_
                  clear hK K
                  simp only [Act.put, List.setIfInBounds_toArray, List.set_cons_zero, List.set_cons_succ]
                  refine step_read (by rfl) (fun K hK => ?_)
                  refine quiet_runD 225 rfl (.bool false) (fun w => by go_simp) ?_
                  refine hK _ ?_
                  clear hK K
                  simp only [Act.put, List.setIfInBounds_toArray, List.set_cons_zero, List.set_cons_succ]
                  refine step_read (by rfl) (fun K hK => ?_)
                  go_big_quiet_op
                  refine hK _ ?_
                  clear hK K
                  refine step_nil ?_
                  replace HX := hid (HX.out.trans HU0.out)
                  go_wp2
                  go_roundw
                  case rel => exact ⟨i + 1, by omega, by go_num, HX⟩
                  case measure => simp [intOf]; omega
                · obtain rfl : nc = i := by omega
                  have hi4 : ¬ (nc : Int) < (nc : Int) := by omega
                  go_wp2
                  go_ret
                  exact ⟨rfl, HV.out.trans HX.out⟩
end imageApart

end Go.Proofs.Ytgldlkoohfclpaa
