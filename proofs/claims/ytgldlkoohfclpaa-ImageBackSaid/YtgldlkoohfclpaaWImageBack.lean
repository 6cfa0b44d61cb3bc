/- Layer 17: the walk of ImageBack. -/
import Derived.Test.YtgldlkoohfclpaaImY
import Derived.Test.YtgldlkoohfclpaaImAC
import Derived.Test.YtgldlkoohfclpaaImW
import Derived.Deep.DeepCutAuto
namespace Go.Proofs.Ytgldlkoohfclpaa
set_option linter.unusedSimpArgs false
set_option linter.unusedVariables false
open Go.RowKit

theorem gErr_cases (b : List Int) : gErr b = 0 ∨ gErr b = 1 ∨ gErr b = 151 := by
  unfold gErr
  split
  · exact .inr (.inl rfl)
  · split
    · exact .inr (.inl rfl)
    · split
      · exact .inr (.inr rfl)
      · exact .inl rfl
theorem same_z {z : Img} {W : World} (hz : ImgAt W z) (hs : z.strip = zImg) : Calls Try.prog 18 #[.agg #[.bool z.strict, .int .i64 z.heap, .int .i64 z.full, .slice z.C z.comps.length z.cc, .slice z.L z.links.length z.lc, .slice z.S z.shares.length z.sc], .agg #[.bool false, .int .i64 0, .int .i64 0, .slice none 0 0, .slice none 0 0, .slice none 0 0]] W fun e w' => e = .returned (.bool true) ∧ Ext W w' := by
  have hc : z.comps = [] := by have h1 := congrArg Img.comps hs; simpa [Img.strip, zImg] using h1
  have hl : z.links = [] := congrArg Img.links hs
  have hh : z.shares = [] := congrArg Img.shares hs
  exact same_ z zImg W hz ⟨RdF.nil _ _, (fun d hd => nomatch hd), RdF.nil _ _, RdF.nil _ _⟩ (hs.trans rfl) (by rw [hc]; intro d hd; cases hd) (by rw [hc]; exact Nat.zero_le _) (by rw [hl]; exact Nat.zero_le _) (by rw [hh]; exact Nat.zero_le _)
namespace imageBack
set_option linter.unusedSimpArgs false
set_option linter.unusedVariables false
set_option maxRecDepth 100000 in
set_option maxHeartbeats 8000000 in
theorem walk (x0 : Img) (A1 : Option Addr) (cap1 : Nat) (bl1 : List Int) (w : World) (wi0 : ImgIn w x0) (wl1 : bl1.length ≤ cap1 ∧ cap1 ≤ maxLen) (hs1 : RdB w A1 bl1) (wz1 : byteL bl1) (wn1 : A1 = none → cap1 = 0) :
    Calls Try.prog 5 #[.agg #[.bool x0.strict, .int .i64 x0.heap, .int .i64 x0.full, .slice x0.C x0.comps.length x0.cc, .slice x0.L x0.links.length x0.lc, .slice x0.S x0.shares.length x0.sc], .slice A1 bl1.length cap1] w fun e w' => e = .returned (.bool true) ∧ Ext w w' := by
  have HIN := hid wi0
  have HGT := hid (fun (W : World) (hx : Ext w W) => great17_ x0 W (wi0.at_.ext hx) wi0.nc wi0.nl wi0.ns)
  have HPT := hid (fun (h1 : x0.comps.length ≤ 900) (h2 : x0.links.length < 20000) (h3 : x0.shares.length < 20000) (W : World) (hx : Ext w W) => put_ x0 W (wi0.at_.ext hx) (by omega) (by omega) (by omega))
  have HPN := hid (fun h : rightV x0 = false => putV_no h)
  have HPO := hid (fun h : rightV x0 = true => putV_ok wi0 h)
  have HRT := hid (fun (h1 : x0.comps.length ≤ 900) (h2 : x0.links.length < 20000) (h3 : x0.shares.length < 20000) (W : World) (hx : Ext w W) => imRight_ x0 W (wi0.at_.ext hx) (by omega) (by omega) (by omega))
  have HSM := hid (fun (h : rightV x0 = true) (y : Img) (W : World) (hx : Ext w W) (hy : ImgAt W y) (he : x0.strip = y.strip) => same_ x0 y W (wi0.at_.ext hx) hy he (fun d hd => by have := ((rightV_ok h).2.1 d hd).1.1; omega) (by have := (rightV_ok h).1; omega) (by have := (rightV_ok h).1; omega) (by have := (rightV_ok h).1; omega))
  have HGB := hid (fun (h : bl1.length ≤ 20000) (W : World) (hx : Ext w W) => get_ W A1 cap1 bl1 (by_rdB ((rdB_by hs1).ext hx)) wz1 (by omega) wl1.1 wl1.2)
  have HRB := hid hs1
  have HB1 := hid wz1
  obtain ⟨nc, hm⟩ : ∃ y, x0.comps.length = y := ⟨_, rfl⟩
  obtain ⟨nl, hml⟩ : ∃ y, x0.links.length = y := ⟨_, rfl⟩
  obtain ⟨ns, hms⟩ : ∃ y, x0.shares.length = y := ⟨_, rfl⟩
  obtain ⟨Ca, hCa⟩ : ∃ y, x0.C = y := ⟨_, rfl⟩
  obtain ⟨La, hLa⟩ : ∃ y, x0.L = y := ⟨_, rfl⟩
  obtain ⟨Sa, hSa⟩ : ∃ y, x0.S = y := ⟨_, rfl⟩
  have HM := hid hm
  have HML := hid hml
  have HMS := hid hms
  rw [hm, hml, hms, hCa, hLa, hSa] at HGT HPT HRT HSM
  rw [hm, hml, hms, hCa, hLa, hSa]
  obtain ⟨bn, hbn⟩ : ∃ y, bl1.length = y := ⟨_, rfl⟩
  have HBN := hid hbn
  rw [hbn] at HGB wl1
  rw [hbn]
  clear hbn hm hml hms hCa hLa hSa wi0 hs1 wz1
  go_enter Try.func5, Try.ntmps5
  go_upto_region 1 with (fail)
  refine wp_gen (fun V => Hid (Ext w V) ∧ Hid (Row V w.heap.size 0 [.bool x0.strict, .int .i64 x0.heap, .int .i64 x0.full, .slice Ca nc x0.cc, .slice La nl x0.lc, .slice Sa ns x0.sc])) ⟨hid (by repeat (first | (with_reducible exact Ext.refl _) | (with_reducible refine Ext.undrew ?_) | (with_reducible refine Ext.grow ?_ _) | (with_reducible refine Ext.drew ?_) | (with_reducible refine Ext.drewN ?_ _) | (with_reducible refine Ext.alloc ?_ _) | (with_reducible assumption) | ((with_reducible refine Ext.setCell ?_ ?_ _); rotate_left; (first | exact Nat.le_refl _ | ((try dsimp only); (try simp only [World.size_alloc, grow_size, World.size_setCell]); omega))))), hid (Row.new w _ _)⟩ ?_
  rintro V ⟨HV, HR⟩
  obtain ⟨p, hp⟩ : ∃ y, w.heap.size = y := ⟨_, rfl⟩
  have hpw : w.heap.size ≤ p := by omega
  rw [hp] at HR ⊢
  clear hp
  go_wp2_with fail
  refine (head17_ V).mono ?_
  rintro e W1 ⟨rfl, hx⟩
  replace HV := hid (HV.out.trans hx)
  replace HR := hid (HR.out.ext hx)
  clear hx
  have q := HR.out
  have ql := q.lt
  have qc0 := q.range 0 _ rfl
  have qc1 := q.range 1 _ rfl
  have qc2 := q.range 2 _ rfl
  have qc3 := q.range 3 _ rfl
  have qc4 := q.range 4 _ rfl
  have qc5 := q.range 5 _ rfl
  simp only [Nat.zero_add] at qc1 qc2 qc3 qc4 qc5
  clear q
  go_wp2_with fail
  refine (HGT.out W1 HV.out).mono ?_
  rintro e W2 ⟨⟨b, rfl, hb⟩, hx⟩
  replace HV := hid (HV.out.trans hx.out)
  replace HR := hid (HR.out.ext hx.out)
  have HB := hid hb
  clear hx HGT hb ql qc0 qc1 qc2 qc3 qc4 qc5
  have hbc0 : (0 : Int) ≤ (bn : Int) := by omega
  cases b with
  | true =>
    go_wp2
    go_ret
    exact ⟨rfl, HV.out⟩
  | false =>
    obtain ⟨b1, b2, b3, b4⟩ := HB.out rfl
    replace HB := hid b4
    clear b4
    by_cases hbl : bn ≤ 20000
    · have hbl1 : ¬ (20000 : Int) < (bn : Int) := by omega
      replace HPT := hid (HPT.out (by have := HM.out; omega) (by have := HML.out; omega) (by have := HMS.out; omega))
      replace HRT := hid (HRT.out (by have := HM.out; omega) (by have := HML.out; omega) (by have := HMS.out; omega))
      replace HGB := hid (HGB.out hbl)
      obtain ⟨PV, hPV⟩ : ∃ y, putV x0 = y := ⟨_, rfl⟩
      rw [hPV] at HPT HPN HPO
      obtain ⟨pn, hpn⟩ : ∃ y, PV.length = y := ⟨_, rfl⟩
      have HPL := hid hpn
      rw [hpn] at HPT HPO
      clear hPV hpn
      have q := HR.out
      have ql := q.lt
      have qc0 := q.range 0 _ rfl
      have qc1 := q.range 1 _ rfl
      have qc2 := q.range 2 _ rfl
      have qc3 := q.range 3 _ rfl
      have qc4 := q.range 4 _ rfl
      have qc5 := q.range 5 _ rfl
      simp only [Nat.zero_add] at qc1 qc2 qc3 qc4 qc5
      clear q
      go_wp2_with fail
      refine (HPT.out W2 HV.out).mono ?_
      rintro e W3 ⟨A, ca, rfl, HO, hx⟩
      replace HV := hid (HV.out.trans hx.out)
      replace HR := hid (HR.out.ext hx.out)
      replace HO := hid (show ownsAt W3 W2.heap.size 5 1 (.slice A pn ca) pn (rowF byF PV) by have h9 := HO.out; unfold OwnY at h9; rwa [HPL.out] at h9)
      have HCP := hid HO.out.cap_le
      have HP := hid (show RdF byF W3 A PV from HO.out.rdF HPL.out)
      clear hx HPT HO ql qc0 qc1 qc2 qc3 qc4 qc5
      have q := HR.out
      have ql := q.lt
      have qc0 := q.range 0 _ rfl
      have qc1 := q.range 1 _ rfl
      have qc2 := q.range 2 _ rfl
      have qc3 := q.range 3 _ rfl
      have qc4 := q.range 4 _ rfl
      have qc5 := q.range 5 _ rfl
      simp only [Nat.zero_add] at qc1 qc2 qc3 qc4 qc5
      clear q
      go_wp2_with fail
      refine (HRT.out W3 HV.out).mono ?_
      rintro e W4 ⟨rfl, hx⟩
      replace HV := hid (HV.out.trans hx)
      replace HR := hid (HR.out.ext hx)
      replace HP := hid (HP.out.ext hx)
      obtain ⟨v, hv⟩ : ∃ y, rightV x0 = y := ⟨_, rfl⟩
      rw [hv] at HPN HPO HSM ⊢
      have HVR := hid (show v = true → rightV x0 = true from fun h => by rw [hv, h])
      clear hv hx HRT ql qc0 qc1 qc2 qc3 qc4 qc5
      have hpv : decide (0 < pn) = v := by
        cases v with
        | false => have h0 := HPN.out rfl; have h1 : pn = 0 := by rw [← HPL.out, h0]; rfl
                   rw [h1]; rfl
        | true => exact decide_eq_true (by have := (HPO.out rfl).2.2.2.1; omega)
      have hpw : (!decide (0 < pn) == v) = false := by rw [hpv]; cases v <;> rfl
      clear hpv
      go_upto_region 7 with (fail)
      clear hpw
      cases v with
      | false =>
        have h0 := HPN.out rfl
        have h1 : pn = 0 := by rw [← HPL.out, h0]; rfl
        subst h1
        clear HR HP HSM HPN HPO HCP
        go_wp2_with fail
        refine (HGB.out _ HV.out).mono ?_
        rintro e W8 ⟨⟨z, rfl, HZ, hgot⟩, hx⟩
        replace HV := hid (HV.out.trans hx.out)
        clear hx HGB
        go_upto_region 12 with (fail)
        refine wp_gen (fun U => Hid (Ext W8 U) ∧ Hid (Row U W8.heap.size 0 [.bool z.strict, .int .i64 z.heap, .int .i64 z.full, .slice z.C z.comps.length z.cc, .slice z.L z.links.length z.lc, .slice z.S z.shares.length z.sc])) ⟨hid ((Ext.refl _).alloc _), hid (Row.new W8 _ _)⟩ ?_
        rintro W9 ⟨hx, H9⟩
        obtain ⟨b9, hb9⟩ : ∃ y, W8.heap.size = y := ⟨_, rfl⟩
        rw [hb9] at H9 ⊢
        replace HV := hid (HV.out.trans hx.out)
        replace HZ := hid (HZ.out.ext hx.out)
        clear hx hb9
        have HGT := hid hgot.out
        clear hgot
        rcases gErr_cases bl1 with he | he | he
        · obtain ⟨g1, g2⟩ := got_put he
          have HST := hid (show z.strip = gImg (cmC bl1) bl1 by have h9 := HGT.out; unfold IsGot at h9; rwa [he, if_pos rfl] at h9)
          have z1 : rightV z = true := by rw [← rightV_strip, HST.out, g1]
          have z2 : putV z = bl1 := by rw [← putV_strip, HST.out, g2]
          have HPOS := hid (show 0 < bl1.length by rw [← z2]; unfold putV; rw [z1, if_pos rfl, List.length_append, hdB_len]; omega)
          have z3 := (rightV_ok z1).1
          have HZR := hid (fun (W : World) (hx : Ext W9 W) => imRight_ z W (HZ.out.ext hx) (by omega) (by omega) (by omega))
          have HZP := hid (fun (W : World) (hx : Ext W9 W) => put_ z W (HZ.out.ext hx) (by omega) (by omega) (by omega))
          rw [z1] at HZR
          rw [z2] at HZP
          rw [HBN.out] at HZP
          rw [he]
          clear z1 z2 z3 g1 g2 he HGT HST
          go_upto_region 14 with (fail)
          refine wp_region_step (.rd 0 (.rd 1 (.rd 2 (.ac 3 (.rd 4 (.rd 5 (.rd 6 (.rd 9 (.rd 10 (.ac 7 (.rd 8 (.rd 11 (.rd 12 (.rd 13 .done)))))))))))))) (by kernel_rfl) (by kernel_rfl) (fun _ _ d _ _ h => by cases d <;> exact h) (by simp only [Ord.map, nthOp, List.append]; rfl) ?_
          intro d0
          have HU0 := hid (Ext.grow (Ext.refl W9) d0)
          generalize Go.Proofs.Ytgldlkoohfclpaa.grow W9 d0 = U0 at HU0 ⊢
          refine step_read (by rfl) (fun K hK => ?_)
          go_big_quiet_op
          refine hK _ ?_
          clear hK K
          refine step_read (by rfl) (fun K hK => ?_)
          go_big_quiet_op
          refine hK _ ?_
          clear hK K
          refine step_read (by rfl) (fun K hK => ?_)
          refine quiet_loadC 26 (.tmp 9) rfl (b9) (0) rfl [.bool z.strict, .int .i64 z.heap, .int .i64 z.full, .slice z.C z.comps.length z.cc, .slice z.L z.links.length z.lc, .slice z.S z.shares.length z.sc] _ (fun w' hw' => (by obtain ⟨dd, rfl⟩ := hw'; exact (H9.out.ext (HU0.out.trans (Ext.grow (Ext.refl _) dd))).range)) Try.underlying26 rfl (by kernel_rfl) ?_
          refine hK _ ?_
          clear hK K
          simp only [Act.put, List.setIfInBounds_toArray, List.set_cons_zero, List.set_cons_succ]
          refine step_act (by rfl) (fun K hK => ?_)
          go_wp2_with (go_at_call 14; refine (HZR.out U0 HU0.out).mono ?_; rintro e U1 ⟨rfl, hx⟩)
          refine ⟨_, hx, Ext.refl _, ?_⟩
          have HU1 := hid (HU0.out.trans hx)
          have hxa3 := hx
          clear hx
          refine step_read (by rfl) (fun K hK => ?_)
          go_big_quiet_op
          refine hK _ ?_
          clear hK K
          refine step_read (by rfl) (fun K hK => ?_)
          go_big_quiet_op
          refine hK _ ?_
          clear hK K
          refine step_read (by rfl) (fun K hK => ?_)
          refine quiet_loadC 26 (.tmp 9) rfl (b9) (0) rfl [.bool z.strict, .int .i64 z.heap, .int .i64 z.full, .slice z.C z.comps.length z.cc, .slice z.L z.links.length z.lc, .slice z.S z.shares.length z.sc] _ (fun w' hw' => (by obtain ⟨dd, rfl⟩ := hw'; exact (H9.out.ext (HU1.out.trans (Ext.grow (Ext.refl _) dd))).range)) Try.underlying26 rfl (by kernel_rfl) ?_
          refine hK _ ?_
          clear hK K
          simp only [Act.put, List.setIfInBounds_toArray, List.set_cons_zero, List.set_cons_succ]
          refine step_read (by rfl) (fun K hK => ?_)
          go_big_quiet_op
          refine hK _ ?_
          clear hK K
          refine step_read (by rfl) (fun K hK => ?_)
          refine quiet_str 27 9 5 (.tmp 74) rfl Try.underlying27 Try.underlying5 Try.underlying9 A1 cap1 bn bl1 rfl HBN.out.symm (by_rdB ((rdB_by HRB.out).ext (HV.out.trans HU1.out))) (fun e => by have h9 := HPOS.out; rw [e] at h9; exact absurd h9 (Nat.lt_irrefl _)) ?_
          refine hK _ ?_
          clear hK K
          simp only [Act.put, List.setIfInBounds_toArray, List.set_cons_zero, List.set_cons_succ]
          refine step_act (by rfl) (fun K hK => ?_)
          go_wp2_with (go_at_call 16; refine (HZP.out U1 HU1.out).mono ?_; rintro e U2 ⟨A6, c6, rfl, HO6, hx6⟩; have hx := hx6.out; clear hx6)
          refine ⟨_, hx, Ext.refl _, ?_⟩
          have HU2 := hid (HU1.out.trans hx)
          have hxa7 := hx
          clear hx
          refine step_read (by rfl) (fun K hK => ?_)
          refine quiet_str 27 9 5 (.tmp 72) rfl Try.underlying27 Try.underlying5 Try.underlying9 A6 c6 bn bl1 rfl HBN.out.symm (by_rdB (ownsAt.rdF (show ownsAt U2 U1.heap.size 5 1 (.slice A6 bn c6) bn (rowF byF bl1) by have h9 := HO6.out; unfold OwnY at h9; rwa [HBN.out] at h9) HBN.out)) (fun e => by have h9 := HPOS.out; rw [e] at h9; exact absurd h9 (Nat.lt_irrefl _)) ?_
          refine hK _ ?_
          clear hK K
          simp only [Act.put, List.setIfInBounds_toArray, List.set_cons_zero, List.set_cons_succ]
          refine step_read (by rfl) (fun K hK => ?_)
          refine quiet_runD 76 rfl (.bool true) (fun w => by go_simp) ?_
          refine hK _ ?_
          clear hK K
          simp only [Act.put, List.setIfInBounds_toArray, List.set_cons_zero, List.set_cons_succ]
          refine step_read (by rfl) (fun K hK => ?_)
          go_big_quiet_op
          refine hK _ ?_
          clear hK K
          refine step_read (by rfl) (fun K hK => ?_)
          go_big_quiet_op
          refine hK _ ?_
          clear hK K
          refine step_nil ?_
          go_wp2
          go_ret
          exact ⟨rfl, HV.out.trans HU2.out⟩
        · have HST := hid (show z.strip = zImg by have h9 := HGT.out; unfold IsGot at h9; rwa [he, if_neg (by decide)] at h9)
          have HZS := hid (same_z HZ.out HST.out)
          rw [he]
          clear he
          have q := H9.out
          have ql := q.lt
          have qc0 := q.range 0 _ rfl
          have qc1 := q.range 1 _ rfl
          have qc2 := q.range 2 _ rfl
          have qc3 := q.range 3 _ rfl
          have qc4 := q.range 4 _ rfl
          have qc5 := q.range 5 _ rfl
          simp only [Nat.zero_add] at qc1 qc2 qc3 qc4 qc5
          clear q
          go_wp2_with fail
          refine HZS.out.mono ?_
          rintro e WA ⟨rfl, hx⟩
          have HF := hid (HV.out.trans hx)
          clear hx
          go_wp2
          go_ret
          exact ⟨rfl, HF.out⟩
        · have HST := hid (show z.strip = zImg by have h9 := HGT.out; unfold IsGot at h9; rwa [he, if_neg (by decide)] at h9)
          have HZS := hid (same_z HZ.out HST.out)
          rw [he]
          clear he
          have q := H9.out
          have ql := q.lt
          have qc0 := q.range 0 _ rfl
          have qc1 := q.range 1 _ rfl
          have qc2 := q.range 2 _ rfl
          have qc3 := q.range 3 _ rfl
          have qc4 := q.range 4 _ rfl
          have qc5 := q.range 5 _ rfl
          simp only [Nat.zero_add] at qc1 qc2 qc3 qc4 qc5
          clear q
          go_wp2_with fail
          refine HZS.out.mono ?_
          rintro e WA ⟨rfl, hx⟩
          have HF := hid (HV.out.trans hx)
          clear hx
          go_wp2
          go_ret
          exact ⟨rfl, HF.out⟩
      | true =>
        obtain ⟨o1, o2, o3, o4, o5⟩ := HPO.out rfl
        have HPE := hid o1
        have hpn0 : 0 < pn := o4
        have HG1 : Hid (Calls Try.prog 12 #[.slice A pn ca] W4 fun e w' => ∃ y : Img, e = .returned (.tuple #[.agg #[.bool y.strict, .int .i64 y.heap, .int .i64 y.full, .slice y.C y.comps.length y.cc, .slice y.L y.links.length y.lc, .slice y.S y.shares.length y.sc], .int .i64 0]) ∧ Hid (ImgAt w' y) ∧ Hid (IsGot PV y) ∧ Hid (Ext W4 w')) := hid (by
          have h1 := get_ W4 A ca PV (by_rdB HP.out) o5 (by rw [HPL.out]; omega) (by rw [HPL.out]; exact HCP.out.1) HCP.out.2
          rw [show gErr PV = 0 by rw [HPE.out]; exact put_err o2 (by have h9 := HVR.out; exact h9 rfl), HPL.out] at h1
          exact h1.mono (fun e w2 hp => by obtain ⟨⟨y, a, b, c⟩, d⟩ := hp; exact ⟨y, a, b, c, d⟩))
        have HEQ := hid (show ∀ y : Img, IsGot PV y → x0.strip = y.strip from fun y hg => by
          unfold IsGot at hg
          rw [show gErr PV = 0 by rw [HPE.out]; exact put_err o2 (by have h9 := HVR.out; exact h9 rfl), if_pos rfl, HPE.out, rd_code o2] at hg
          exact hg.symm)
        clear o1 o2 o3 o4 o5
        go_wp2_with fail
        refine HG1.out.mono ?_
        rintro e W5 ⟨y, rfl, HY, hgot, hx⟩
        have HYS := hid (HEQ.out y hgot.out)
        replace HV := hid (HV.out.trans hx.out)
        replace HR := hid (HR.out.ext hx.out)
        clear hgot hx HG1 HEQ HP
        go_upto_region 9 with (fail)
        refine wp_gen (fun U => Hid (Ext W5 U) ∧ Hid (Row U W5.heap.size 0 [.bool y.strict, .int .i64 y.heap, .int .i64 y.full, .slice y.C y.comps.length y.cc, .slice y.L y.links.length y.lc, .slice y.S y.shares.length y.sc])) ⟨hid ((Ext.refl _).alloc _), hid (Row.new W5 _ _)⟩ ?_
        rintro W6 ⟨hx, H7⟩
        replace HV := hid (HV.out.trans hx.out)
        replace HR := hid (HR.out.ext hx.out)
        replace HY := hid (HY.out.ext hx.out)
        clear hx
        have q := HR.out
        have ql := q.lt
        have qc0 := q.range 0 _ rfl
        have qc1 := q.range 1 _ rfl
        have qc2 := q.range 2 _ rfl
        have qc3 := q.range 3 _ rfl
        have qc4 := q.range 4 _ rfl
        have qc5 := q.range 5 _ rfl
        simp only [Nat.zero_add] at qc1 qc2 qc3 qc4 qc5
        clear q
        have r := H7.out
        have rl := r.lt
        have rc0 := r.range 0 _ rfl
        have rc1 := r.range 1 _ rfl
        have rc2 := r.range 2 _ rfl
        have rc3 := r.range 3 _ rfl
        have rc4 := r.range 4 _ rfl
        have rc5 := r.range 5 _ rfl
        simp only [Nat.zero_add] at rc1 rc2 rc3 rc4 rc5
        clear r
        go_wp2_with fail
        refine (HSM.out (by first | trivial | rfl) y W6 HV.out HY.out HYS.out).mono ?_
        rintro e W7 ⟨rfl, hx⟩
        replace HV := hid (HV.out.trans hx)
        clear ql qc0 qc1 qc2 qc3 qc4 qc5
        clear rl rc0 rc1 rc2 rc3 rc4 rc5
        clear hx
        clear HR HPN HPO HCP
        go_wp2_with fail
        refine (HGB.out _ HV.out).mono ?_
        rintro e W8 ⟨⟨z, rfl, HZ, hgot⟩, hx⟩
        replace HV := hid (HV.out.trans hx.out)
        clear hx HGB
        go_upto_region 12 with (fail)
        refine wp_gen (fun U => Hid (Ext W8 U) ∧ Hid (Row U W8.heap.size 0 [.bool z.strict, .int .i64 z.heap, .int .i64 z.full, .slice z.C z.comps.length z.cc, .slice z.L z.links.length z.lc, .slice z.S z.shares.length z.sc])) ⟨hid ((Ext.refl _).alloc _), hid (Row.new W8 _ _)⟩ ?_
        rintro W9 ⟨hx, H9⟩
        obtain ⟨b9, hb9⟩ : ∃ y, W8.heap.size = y := ⟨_, rfl⟩
        rw [hb9] at H9 ⊢
        replace HV := hid (HV.out.trans hx.out)
        replace HZ := hid (HZ.out.ext hx.out)
        clear hx hb9
        have HGT := hid hgot.out
        clear hgot
        rcases gErr_cases bl1 with he | he | he
        · obtain ⟨g1, g2⟩ := got_put he
          have HST := hid (show z.strip = gImg (cmC bl1) bl1 by have h9 := HGT.out; unfold IsGot at h9; rwa [he, if_pos rfl] at h9)
          have z1 : rightV z = true := by rw [← rightV_strip, HST.out, g1]
          have z2 : putV z = bl1 := by rw [← putV_strip, HST.out, g2]
          have HPOS := hid (show 0 < bl1.length by rw [← z2]; unfold putV; rw [z1, if_pos rfl, List.length_append, hdB_len]; omega)
          have z3 := (rightV_ok z1).1
          have HZR := hid (fun (W : World) (hx : Ext W9 W) => imRight_ z W (HZ.out.ext hx) (by omega) (by omega) (by omega))
          have HZP := hid (fun (W : World) (hx : Ext W9 W) => put_ z W (HZ.out.ext hx) (by omega) (by omega) (by omega))
          rw [z1] at HZR
          rw [z2] at HZP
          rw [HBN.out] at HZP
          rw [he]
          clear z1 z2 z3 g1 g2 he HGT HST
          go_upto_region 14 with (fail)
          refine wp_region_step (.rd 0 (.rd 1 (.rd 2 (.ac 3 (.rd 4 (.rd 5 (.rd 6 (.rd 9 (.rd 10 (.ac 7 (.rd 8 (.rd 11 (.rd 12 (.rd 13 .done)))))))))))))) (by kernel_rfl) (by kernel_rfl) (fun _ _ d _ _ h => by cases d <;> exact h) (by simp only [Ord.map, nthOp, List.append]; rfl) ?_
          intro d0
          have HU0 := hid (Ext.grow (Ext.refl W9) d0)
          generalize Go.Proofs.Ytgldlkoohfclpaa.grow W9 d0 = U0 at HU0 ⊢
          refine step_read (by rfl) (fun K hK => ?_)
          go_big_quiet_op
          refine hK _ ?_
          clear hK K
          refine step_read (by rfl) (fun K hK => ?_)
          go_big_quiet_op
          refine hK _ ?_
          clear hK K
          refine step_read (by rfl) (fun K hK => ?_)
          refine quiet_loadC 26 (.tmp 9) rfl (b9) (0) rfl [.bool z.strict, .int .i64 z.heap, .int .i64 z.full, .slice z.C z.comps.length z.cc, .slice z.L z.links.length z.lc, .slice z.S z.shares.length z.sc] _ (fun w' hw' => (by obtain ⟨dd, rfl⟩ := hw'; exact (H9.out.ext (HU0.out.trans (Ext.grow (Ext.refl _) dd))).range)) Try.underlying26 rfl (by kernel_rfl) ?_
          refine hK _ ?_
          clear hK K
          simp only [Act.put, List.setIfInBounds_toArray, List.set_cons_zero, List.set_cons_succ]
          refine step_act (by rfl) (fun K hK => ?_)
          go_wp2_with (go_at_call 14; refine (HZR.out U0 HU0.out).mono ?_; rintro e U1 ⟨rfl, hx⟩)
          refine ⟨_, hx, Ext.refl _, ?_⟩
          have HU1 := hid (HU0.out.trans hx)
          have hxa3 := hx
          clear hx
          refine step_read (by rfl) (fun K hK => ?_)
          go_big_quiet_op
          refine hK _ ?_
          clear hK K
          refine step_read (by rfl) (fun K hK => ?_)
          go_big_quiet_op
          refine hK _ ?_
          clear hK K
          refine step_read (by rfl) (fun K hK => ?_)
          refine quiet_loadC 26 (.tmp 9) rfl (b9) (0) rfl [.bool z.strict, .int .i64 z.heap, .int .i64 z.full, .slice z.C z.comps.length z.cc, .slice z.L z.links.length z.lc, .slice z.S z.shares.length z.sc] _ (fun w' hw' => (by obtain ⟨dd, rfl⟩ := hw'; exact (H9.out.ext (HU1.out.trans (Ext.grow (Ext.refl _) dd))).range)) Try.underlying26 rfl (by kernel_rfl) ?_
          refine hK _ ?_
          clear hK K
          simp only [Act.put, List.setIfInBounds_toArray, List.set_cons_zero, List.set_cons_succ]
          refine step_read (by rfl) (fun K hK => ?_)
          go_big_quiet_op
          refine hK _ ?_
          clear hK K
          refine step_read (by rfl) (fun K hK => ?_)
          refine quiet_str 27 9 5 (.tmp 74) rfl Try.underlying27 Try.underlying5 Try.underlying9 A1 cap1 bn bl1 rfl HBN.out.symm (by_rdB ((rdB_by HRB.out).ext (HV.out.trans HU1.out))) (fun e => by have h9 := HPOS.out; rw [e] at h9; exact absurd h9 (Nat.lt_irrefl _)) ?_
          refine hK _ ?_
          clear hK K
          simp only [Act.put, List.setIfInBounds_toArray, List.set_cons_zero, List.set_cons_succ]
          refine step_act (by rfl) (fun K hK => ?_)
          go_wp2_with (go_at_call 16; refine (HZP.out U1 HU1.out).mono ?_; rintro e U2 ⟨A6, c6, rfl, HO6, hx6⟩; have hx := hx6.out; clear hx6)
          refine ⟨_, hx, Ext.refl _, ?_⟩
          have HU2 := hid (HU1.out.trans hx)
          have hxa7 := hx
          clear hx
          refine step_read (by rfl) (fun K hK => ?_)
          refine quiet_str 27 9 5 (.tmp 72) rfl Try.underlying27 Try.underlying5 Try.underlying9 A6 c6 bn bl1 rfl HBN.out.symm (by_rdB (ownsAt.rdF (show ownsAt U2 U1.heap.size 5 1 (.slice A6 bn c6) bn (rowF byF bl1) by have h9 := HO6.out; unfold OwnY at h9; rwa [HBN.out] at h9) HBN.out)) (fun e => by have h9 := HPOS.out; rw [e] at h9; exact absurd h9 (Nat.lt_irrefl _)) ?_
          refine hK _ ?_
          clear hK K
          simp only [Act.put, List.setIfInBounds_toArray, List.set_cons_zero, List.set_cons_succ]
          refine step_read (by rfl) (fun K hK => ?_)
          refine quiet_runD 76 rfl (.bool true) (fun w => by go_simp) ?_
          refine hK _ ?_
          clear hK K
          simp only [Act.put, List.setIfInBounds_toArray, List.set_cons_zero, List.set_cons_succ]
          refine step_read (by rfl) (fun K hK => ?_)
          go_big_quiet_op
          refine hK _ ?_
          clear hK K
          refine step_read (by rfl) (fun K hK => ?_)
          go_big_quiet_op
          refine hK _ ?_
          clear hK K
          refine step_nil ?_
          go_wp2
          go_ret
          exact ⟨rfl, HV.out.trans HU2.out⟩
        · have HST := hid (show z.strip = zImg by have h9 := HGT.out; unfold IsGot at h9; rwa [he, if_neg (by decide)] at h9)
          have HZS := hid (same_z HZ.out HST.out)
          rw [he]
          clear he
          have q := H9.out
          have ql := q.lt
          have qc0 := q.range 0 _ rfl
          have qc1 := q.range 1 _ rfl
          have qc2 := q.range 2 _ rfl
          have qc3 := q.range 3 _ rfl
          have qc4 := q.range 4 _ rfl
          have qc5 := q.range 5 _ rfl
          simp only [Nat.zero_add] at qc1 qc2 qc3 qc4 qc5
          clear q
          go_wp2_with fail
          refine HZS.out.mono ?_
          rintro e WA ⟨rfl, hx⟩
          have HF := hid (HV.out.trans hx)
          clear hx
          go_wp2
          go_ret
          exact ⟨rfl, HF.out⟩
        · have HST := hid (show z.strip = zImg by have h9 := HGT.out; unfold IsGot at h9; rwa [he, if_neg (by decide)] at h9)
          have HZS := hid (same_z HZ.out HST.out)
          rw [he]
          clear he
          have q := H9.out
          have ql := q.lt
          have qc0 := q.range 0 _ rfl
          have qc1 := q.range 1 _ rfl
          have qc2 := q.range 2 _ rfl
          have qc3 := q.range 3 _ rfl
          have qc4 := q.range 4 _ rfl
          have qc5 := q.range 5 _ rfl
          simp only [Nat.zero_add] at qc1 qc2 qc3 qc4 qc5
          clear q
          go_wp2_with fail
          refine HZS.out.mono ?_
          rintro e WA ⟨rfl, hx⟩
          have HF := hid (HV.out.trans hx)
          clear hx
          go_wp2
          go_ret
          exact ⟨rfl, HF.out⟩
    · have hbl1 : (20000 : Int) < (bn : Int) := by omega
      go_wp2
      go_ret
      exact ⟨rfl, HV.out⟩
end imageBack

end Go.Proofs.Ytgldlkoohfclpaa
