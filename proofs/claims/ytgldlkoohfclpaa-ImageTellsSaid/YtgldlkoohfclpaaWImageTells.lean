/- Layer 17: the walk of ImageTells. -/
import Derived.Test.YtgldlkoohfclpaaImY
import Derived.Test.YtgldlkoohfclpaaImAA
import Derived.Test.YtgldlkoohfclpaaImAC
import Derived.Test.YtgldlkoohfclpaaImAN
import Derived.Test.YtgldlkoohfclpaaImAQ
import Derived.Test.YtgldlkoohfclpaaImP
import Derived.Test.YtgldlkoohfclpaaImW
namespace Go.Proofs.Ytgldlkoohfclpaa
set_option linter.unusedSimpArgs false
set_option linter.unusedVariables false
open Go.RowKit

theorem quiet_strY {P : Program} {o : Oper} {a : Act} {w : World} {K : Act → Prop} (src dst e : TypeId) (x : Operand) (ho : o.op = .convert src dst x) (hs : P.underlying src = some (.slice e)) (he : P.underlying e = some (.int .u8))
    (hd : P.underlying dst = some .string) (A : Option Addr) (c n : Nat) (l : List Int) (hx : a.eval x = .slice A n c) (hn : n = l.length) (hr : RdB w A l) (hA : A = none ∨ ∃ b o, A = some ⟨b, o, none⟩) (k : K (a.put o.dst (.string (strOf l)))) : o.quiet P a (Grown w) K := by
  subst hn
  refine ⟨_, fun w' hw' => ?_, k⟩
  have h1 : (convert src dst (.slice A l.length c)).run P w' = .ok (.string (strOf l)) w' := by
    rcases hA with rfl | ⟨b, o', rfl⟩
    · exact run_str_any w' src dst e hs he hd none c l (hr.ext hw'.ext) (fun _ => rfl)
    · by_cases h0 : l = []
      · subst h0
        exact run_str w' src dst e hs he hd b o' c [] (fun j hj => absurd hj (Nat.not_lt_zero _))
      · exact run_str_any w' src dst e hs he hd _ c l (hr.ext hw'.ext) (fun h => absurd h h0)
  unfold Oper.quietAt execOp
  rw [ho]
  simp [hx, h1, Sem.run_bind, Sem.run_pure, Result.andThen, Oper.quietUpon]
theorem OwnY.addr {w : World} {base n c : Nat} {A : Option Addr} {l : List Int} (h : OwnY w base (.slice A n c) l) : A = none ∨ ∃ b o, A = some ⟨b, o, none⟩ := by
  rcases h.2 with h0 | ⟨g, o, cap, cur, h1, _⟩
  · cases h0.1; exact .inl rfl
  · cases h1; exact .inr ⟨_, _, rfl⟩
theorem got_ok {bl : List Int} {y : Img} (h : IsGot bl y) : (∀ d ∈ y.comps, 0 < d.bl.length) ∧ y.comps.length ≤ 1000000 ∧ y.links.length ≤ 1000000 ∧ y.shares.length ≤ 1000000 := by
  unfold IsGot at h
  by_cases h0 : gErr bl = 0
  · rw [if_pos h0] at h
    have h1 := (got_put h0).1
    rw [← h, rightV_strip] at h1
    have h2 := rightV_ok h1
    refine ⟨fun d hd => ?_, by omega, by omega, by omega⟩
    have := (h2.2.1 d hd).1.1
    omega
  · rw [if_neg h0] at h
    have e1 : y.comps.map Cmp.strip = [] := congrArg Img.comps h
    have e2 : y.links = [] := congrArg Img.links h
    have e3 : y.shares = [] := congrArg Img.shares h
    have e4 : y.comps = [] := List.map_eq_nil_iff.1 e1
    rw [e2, e3, e4]
    simp
namespace imageTells
set_option linter.unusedSimpArgs false
set_option linter.unusedVariables false
set_option maxRecDepth 100000 in
set_option maxHeartbeats 8000000 in
theorem walk (x0 : Img) (A1 : Option Addr) (cap1 : Nat) (bl1 : List Int) (w : World) (wi0 : ImgIn w x0) (wl1 : bl1.length ≤ cap1 ∧ cap1 ≤ maxLen) (hs1 : RdB w A1 bl1) (wz1 : byteL bl1) (wn1 : A1 = none → cap1 = 0) :
    Calls Try.prog 3 #[.agg #[.bool x0.strict, .int .i64 x0.heap, .int .i64 x0.full, .slice x0.C x0.comps.length x0.cc, .slice x0.L x0.links.length x0.lc, .slice x0.S x0.shares.length x0.sc], .slice A1 bl1.length cap1] w fun e w' => e = .returned (.bool true) ∧ Ext w w' := by
  have HIN := hid wi0
  have HGT := hid (fun (W : World) (hx : Ext w W) => great17_ x0 W (wi0.at_.ext hx) wi0.nc wi0.nl wi0.ns)
  have HRT := hid (fun (h1 : x0.comps.length ≤ 900) (h2 : x0.links.length < 20000) (h3 : x0.shares.length < 20000) (W : World) (hx : Ext w W) => imRight_ x0 W (wi0.at_.ext hx) (by omega) (by omega) (by omega))
  have HRR := hid (fun (h1 : x0.comps.length ≤ 900) (h2 : x0.links.length < 20000) (h3 : x0.shares.length < 20000) (W : World) (hx : Ext w W) => rright_ x0 W (wi0.at_.ext hx) (by omega) (by omega) (by omega) (fun s hs => (wi0.ws s hs).2))
  have HPT := hid (fun (h1 : x0.comps.length ≤ 900) (h2 : x0.links.length < 20000) (h3 : x0.shares.length < 20000) (W : World) (hx : Ext w W) => put_ x0 W (wi0.at_.ext hx) (by omega) (by omega) (by omega))
  have HRP := hid (fun (h1 : x0.comps.length ≤ 900) (h2 : x0.links.length < 20000) (h3 : x0.shares.length < 20000) (W : World) (hx : Ext w W) => rput_ x0 W (wi0.at_.ext hx) (by omega) (by omega) (by omega) (fun s hs => (wi0.ws s hs).2))
  have HGB := hid (fun (h : bl1.length ≤ 20000) (W : World) (hx : Ext w W) => get_ W A1 cap1 bl1 (by_rdB ((rdB_by hs1).ext hx)) wz1 (by omega) wl1.1 wl1.2)
  have HRG := hid (fun (h : bl1.length ≤ 20000) (W : World) (hx : Ext w W) => rget_ W A1 cap1 bl1 (by_rdB ((rdB_by hs1).ext hx)) wz1 (by omega) wl1.1 wl1.2)
  obtain ⟨nc, hm⟩ : ∃ y, x0.comps.length = y := ⟨_, rfl⟩
  obtain ⟨nl, hml⟩ : ∃ y, x0.links.length = y := ⟨_, rfl⟩
  obtain ⟨ns, hms⟩ : ∃ y, x0.shares.length = y := ⟨_, rfl⟩
  obtain ⟨Ca, hCa⟩ : ∃ y, x0.C = y := ⟨_, rfl⟩
  obtain ⟨La, hLa⟩ : ∃ y, x0.L = y := ⟨_, rfl⟩
  obtain ⟨Sa, hSa⟩ : ∃ y, x0.S = y := ⟨_, rfl⟩
  have HM := hid hm
  have HML := hid hml
  have HMS := hid hms
  rw [hm, hml, hms, hCa, hLa, hSa] at HGT HRT HRR HPT HRP
  rw [hm, hml, hms, hCa, hLa, hSa]
  obtain ⟨bn, hbn⟩ : ∃ y, bl1.length = y := ⟨_, rfl⟩
  rw [hbn] at HGB HRG wl1
  rw [hbn]
  clear hbn hm hml hms hCa hLa hSa wi0 hs1 wz1
  go_enter Try.func3, Try.ntmps3
  go_upto_region 1 with (fail)
  refine wp_gen (fun V => Hid (Ext w V) ∧ Hid (Row V w.heap.size 0 [.bool x0.strict, .int .i64 x0.heap, .int .i64 x0.full, .slice Ca nc x0.cc, .slice La nl x0.lc, .slice Sa ns x0.sc])) ⟨hid (by repeat (first | (with_reducible exact Ext.refl _) | (with_reducible refine Ext.undrew ?_) | (with_reducible refine Ext.grow ?_ _) | (with_reducible refine Ext.drew ?_) | (with_reducible refine Ext.drewN ?_ _) | (with_reducible refine Ext.alloc ?_ _) | (with_reducible assumption) | ((with_reducible refine Ext.setCell ?_ ?_ _); rotate_left; (first | exact Nat.le_refl _ | ((try dsimp only); (try simp only [World.size_alloc, grow_size, World.size_setCell]); omega))))), hid (Row.new w _ _)⟩ ?_
  rintro V ⟨HV, HR⟩
  obtain ⟨p, hp⟩ : ∃ y, w.heap.size = y := ⟨_, rfl⟩
  have hpw : w.heap.size ≤ p := by omega
  rw [hp] at HR ⊢
  clear hp
  go_wp2_with fail
  refine (head17_ V).mono ?_
  rintro e W1 ⟨rfl, hx⟩
  replace HV := hid (HV.out.trans hx)
  replace HR := hid (HR.out.ext hx)
  clear hx
  have q := HR.out
  have ql := q.lt
  have qc0 := q.range 0 _ rfl
  have qc1 := q.range 1 _ rfl
  have qc2 := q.range 2 _ rfl
  have qc3 := q.range 3 _ rfl
  have qc4 := q.range 4 _ rfl
  have qc5 := q.range 5 _ rfl
  simp only [Nat.zero_add] at qc1 qc2 qc3 qc4 qc5
  clear q
  go_wp2_with fail
  refine (HGT.out W1 HV.out).mono ?_
  rintro e W2 ⟨⟨b, rfl, hb⟩, hx⟩
  replace HV := hid (HV.out.trans hx.out)
  replace HR := hid (HR.out.ext hx.out)
  have HB := hid hb
  clear hx HGT hb ql qc0 qc1 qc2 qc3 qc4 qc5
  have hbc0 : (0 : Int) ≤ (bn : Int) := by omega
  cases b with
  | true =>
    go_wp2
    go_ret
    exact ⟨rfl, HV.out⟩
  | false =>
    obtain ⟨b1, b2, b3, b4⟩ := HB.out rfl
    replace HB := hid b4
    clear b4
    by_cases hbl : bn ≤ 20000
    · have hbl1 : ¬ (20000 : Int) < (bn : Int) := by omega
      replace HRT := hid (HRT.out (by have := HM.out; omega) (by have := HML.out; omega) (by have := HMS.out; omega))
      replace HRR := hid (HRR.out (by have := HM.out; omega) (by have := HML.out; omega) (by have := HMS.out; omega))
      replace HPT := hid (HPT.out (by have := HM.out; omega) (by have := HML.out; omega) (by have := HMS.out; omega))
      replace HRP := hid (HRP.out (by have := HM.out; omega) (by have := HML.out; omega) (by have := HMS.out; omega))
      replace HGB := hid (HGB.out hbl)
      replace HRG := hid (HRG.out hbl)
      obtain ⟨PV, hPV⟩ : ∃ y, putV x0 = y := ⟨_, rfl⟩
      rw [hPV] at HPT HRP
      obtain ⟨pn, hpn⟩ : ∃ y, PV.length = y := ⟨_, rfl⟩
      have HPL := hid hpn
      rw [hpn] at HPT HRP
      clear hPV hpn
      obtain ⟨rv, hrv⟩ : ∃ y, rightV x0 = y := ⟨_, rfl⟩
      rw [hrv] at HRT HRR
      clear hrv
      obtain ⟨er, her⟩ : ∃ y, gErr bl1 = y := ⟨_, rfl⟩
      rw [her] at HGB HRG
      clear her
      go_wp2_with fail
      refine (HGB.out W2 HV.out).mono ?_
      rintro e W3 ⟨⟨y, rfl, HY, HGY⟩, hx⟩
      replace HV := hid (HV.out.trans hx.out)
      replace HR := hid (HR.out.ext hx.out)
      clear hx HGB
      go_upto_region 5 with (fail)
      refine wp_gen (fun W => Hid (Ext W3 W) ∧ Hid (Row W W3.heap.size 0 [.bool y.strict, .int .i64 y.heap, .int .i64 y.full, .slice y.C y.comps.length y.cc, .slice y.L y.links.length y.lc, .slice y.S y.shares.length y.sc])) ⟨hid ((Ext.refl _).alloc _), hid (Row.new W3 _ _)⟩ ?_
      rintro W4 ⟨hx, H6⟩
      replace HV := hid (HV.out.trans hx.out)
      replace HR := hid (HR.out.ext hx.out)
      replace HY := hid (HY.out.ext hx.out)
      obtain ⟨b6, hb6⟩ : ∃ y, W3.heap.size = y := ⟨_, rfl⟩
      rw [hb6] at H6 ⊢
      clear hx hb6
      go_wp2_with fail
      refine (HRG.out W4 HV.out).mono ?_
      rintro e W5 ⟨⟨z, rfl, HZ, HGZ⟩, hx⟩
      replace HV := hid (HV.out.trans hx.out)
      replace HR := hid (HR.out.ext hx.out)
      replace HY := hid (HY.out.ext hx.out)
      replace H6 := hid (H6.out.ext hx.out)
      clear hx HRG
      go_upto_region 6 with (fail)
      refine wp_gen (fun W => Hid (Ext W5 W) ∧ Hid (Row W W5.heap.size 0 [.bool z.strict, .int .i64 z.heap, .int .i64 z.full, .slice z.C z.comps.length z.cc, .slice z.L z.links.length z.lc, .slice z.S z.shares.length z.sc])) ⟨hid ((Ext.refl _).alloc _), hid (Row.new W5 _ _)⟩ ?_
      rintro W6 ⟨hx, H8⟩
      replace HV := hid (HV.out.trans hx.out)
      replace HR := hid (HR.out.ext hx.out)
      replace HZ := hid (HZ.out.ext hx.out)
      replace HY := hid (HY.out.ext hx.out)
      replace H6 := hid (H6.out.ext hx.out)
      obtain ⟨b8, hb8⟩ : ∃ y, W5.heap.size = y := ⟨_, rfl⟩
      rw [hb8] at H8 ⊢
      clear hx hb8
      have HYZ := hid (show y.strip = z.strip by have h1 := HGY.out; have h2 := HGZ.out; unfold IsGot at h1 h2; rw [h1, h2])
      have HOK := hid (got_ok HGY.out)
      clear HGY HGZ
      refine wp_region_step (.rd 0 (.rd 1 (.rd 2 (.rd 4 (.ac 3 (.ac 5 (.rd 6 (.rd 7 (.rd 8 (.rd 9 (.rd 12 (.ac 10 (.rd 11 (.ac 13 (.rd 14 (.rd 15 (.rd 16 (.rd 17 (.rd 18 (.rd 19 (.ac 20 (.rd 21 (.rd 22 (.rd 23 (.rd 24 (.rd 25 (.rd 26 (.rd 27 .done)))))))))))))))))))))))))))) (by kernel_rfl) (by kernel_rfl) (fun _ _ d _ _ h => by cases d <;> exact h) (by simp only [Ord.map, nthOp, List.append]; rfl) ?_
      intro d0
      have HU0 := hid (Ext.grow (Ext.refl W6) d0)
      generalize Go.Proofs.Ytgldlkoohfclpaa.grow W6 d0 = U0 at HU0 ⊢
      refine step_read (by rfl) (fun K hK => ?_)
      go_big_quiet_op
      refine hK _ ?_
      clear hK K
      refine step_read (by rfl) (fun K hK => ?_)
      go_big_quiet_op
      refine hK _ ?_
      clear hK K
      refine step_read (by rfl) (fun K hK => ?_)
      refine quiet_loadC 26 (.tmp 2) rfl (p) (0) rfl [.bool x0.strict, .int .i64 x0.heap, .int .i64 x0.full, .slice Ca nc x0.cc, .slice La nl x0.lc, .slice Sa ns x0.sc] _ (fun w' hw' => (by obtain ⟨dd, rfl⟩ := hw'; exact (HR.out.ext (HU0.out.trans (Ext.grow (Ext.refl _) dd))).range)) Try.underlying26 rfl (by kernel_rfl) ?_
      refine hK _ ?_
      clear hK K
      simp only [Act.put, List.setIfInBounds_toArray, List.set_cons_zero, List.set_cons_succ]
      refine step_read (by rfl) (fun K hK => ?_)
      refine quiet_loadC 26 (.tmp 2) rfl (p) (0) rfl [.bool x0.strict, .int .i64 x0.heap, .int .i64 x0.full, .slice Ca nc x0.cc, .slice La nl x0.lc, .slice Sa ns x0.sc] _ (fun w' hw' => (by obtain ⟨dd, rfl⟩ := hw'; exact (HR.out.ext (HU0.out.trans (Ext.grow (Ext.refl _) dd))).range)) Try.underlying26 rfl (by kernel_rfl) ?_
      refine hK _ ?_
      clear hK K
      simp only [Act.put, List.setIfInBounds_toArray, List.set_cons_zero, List.set_cons_succ]
      refine step_act (by rfl) (fun K hK => ?_)
      go_wp2_with (go_at_call 14; refine (HRT.out U0 (HV.out.trans HU0.out)).mono ?_; rintro e U1 ⟨rfl, hx⟩)
      refine ⟨_, hx, Ext.refl _, ?_⟩
      have HU1 := hid (HU0.out.trans hx)
      have hxa3 := hx
      clear hx
      refine step_act (by rfl) (fun K hK => ?_)
      go_wp2_with (go_at_call 15; refine (HRR.out U1 (HV.out.trans HU1.out)).mono ?_; rintro e U2 ⟨rfl, hx⟩)
      refine ⟨_, hx, Ext.refl _, ?_⟩
      have HU2 := hid (HU1.out.trans hx)
      have hxa5 := hx
      clear hx
      refine step_read (by rfl) (fun K hK => ?_)
      refine quiet_runD 35 rfl (.bool true) (fun w => by go_simp) ?_
      refine hK _ ?_
      clear hK K
      simp only [Act.put, List.setIfInBounds_toArray, List.set_cons_zero, List.set_cons_succ]
      refine step_read (by rfl) (fun K hK => ?_)
      go_big_quiet_op
      refine hK _ ?_
      clear hK K
      refine step_read (by rfl) (fun K hK => ?_)
      go_big_quiet_op
      refine hK _ ?_
      clear hK K
      refine step_read (by rfl) (fun K hK => ?_)
      refine quiet_loadC 26 (.tmp 2) rfl (p) (0) rfl [.bool x0.strict, .int .i64 x0.heap, .int .i64 x0.full, .slice Ca nc x0.cc, .slice La nl x0.lc, .slice Sa ns x0.sc] _ (fun w' hw' => (by obtain ⟨dd, rfl⟩ := hw'; exact (HR.out.ext (HU2.out.trans (Ext.grow (Ext.refl _) dd))).range)) Try.underlying26 rfl (by kernel_rfl) ?_
      refine hK _ ?_
      clear hK K
      simp only [Act.put, List.setIfInBounds_toArray, List.set_cons_zero, List.set_cons_succ]
      refine step_read (by rfl) (fun K hK => ?_)
      refine quiet_loadC 26 (.tmp 2) rfl (p) (0) rfl [.bool x0.strict, .int .i64 x0.heap, .int .i64 x0.full, .slice Ca nc x0.cc, .slice La nl x0.lc, .slice Sa ns x0.sc] _ (fun w' hw' => (by obtain ⟨dd, rfl⟩ := hw'; exact (HR.out.ext (HU2.out.trans (Ext.grow (Ext.refl _) dd))).range)) Try.underlying26 rfl (by kernel_rfl) ?_
      refine hK _ ?_
      clear hK K
      simp only [Act.put, List.setIfInBounds_toArray, List.set_cons_zero, List.set_cons_succ]
      refine step_act (by rfl) (fun K hK => ?_)
      go_wp2_with (go_at_call 16; refine (HPT.out U2 (HV.out.trans HU2.out)).mono ?_; rintro e U3 ⟨A6, c6, rfl, HO6, hx6⟩; have hx := hx6.out; clear hx6)
      refine ⟨_, hx, Ext.refl _, ?_⟩
      have HU3 := hid (HU2.out.trans hx)
      have hxa10 := hx
      clear hx
      refine step_read (by rfl) (fun K hK => ?_)
      refine quiet_strY 27 9 5 (.tmp 39) rfl Try.underlying27 Try.underlying5 Try.underlying9 A6 c6 pn PV rfl HPL.out.symm (by_rdB (ownsAt.rdF (show ownsAt U3 _ 5 1 (.slice A6 pn c6) pn (rowF byF PV) by have h9 := HO6.out; unfold OwnY at h9; rwa [HPL.out] at h9) HPL.out)) HO6.out.addr ?_
      refine hK _ ?_
      clear hK K
      simp only [Act.put, List.setIfInBounds_toArray, List.set_cons_zero, List.set_cons_succ]
      refine step_act (by rfl) (fun K hK => ?_)
      go_wp2_with (go_at_call 17; refine (HRP.out U3 (HV.out.trans HU3.out)).mono ?_; rintro e U4 ⟨A7, c7, rfl, HO7, hx7⟩; have hx := hx7.out; clear hx7)
      refine ⟨_, hx, Ext.refl _, ?_⟩
      have HU4 := hid (HU3.out.trans hx)
      have hxa13 := hx
      clear hx
      refine step_read (by rfl) (fun K hK => ?_)
      refine quiet_strY 27 9 5 (.tmp 42) rfl Try.underlying27 Try.underlying5 Try.underlying9 A7 c7 pn PV rfl HPL.out.symm (by_rdB (ownsAt.rdF (show ownsAt U4 _ 5 1 (.slice A7 pn c7) pn (rowF byF PV) by have h9 := HO7.out; unfold OwnY at h9; rwa [HPL.out] at h9) HPL.out)) HO7.out.addr ?_
      refine hK _ ?_
      clear hK K
      simp only [Act.put, List.setIfInBounds_toArray, List.set_cons_zero, List.set_cons_succ]
      refine step_read (by rfl) (fun K hK => ?_)
      refine quiet_runD 44 rfl (.bool true) (fun w => by go_simp) ?_
      refine hK _ ?_
      clear hK K
      simp only [Act.put, List.setIfInBounds_toArray, List.set_cons_zero, List.set_cons_succ]
      refine step_read (by rfl) (fun K hK => ?_)
      go_big_quiet_op
      refine hK _ ?_
      clear hK K
      refine step_read (by rfl) (fun K hK => ?_)
      go_big_quiet_op
      refine hK _ ?_
      clear hK K
      refine step_read (by rfl) (fun K hK => ?_)
      refine quiet_loadC 26 (.tmp 6) rfl (b6) (0) rfl [.bool y.strict, .int .i64 y.heap, .int .i64 y.full, .slice y.C y.comps.length y.cc, .slice y.L y.links.length y.lc, .slice y.S y.shares.length y.sc] _ (fun w' hw' => (by obtain ⟨dd, rfl⟩ := hw'; exact (H6.out.ext (HU4.out.trans (Ext.grow (Ext.refl _) dd))).range)) Try.underlying26 rfl (by kernel_rfl) ?_
      refine hK _ ?_
      clear hK K
      simp only [Act.put, List.setIfInBounds_toArray, List.set_cons_zero, List.set_cons_succ]
      refine step_read (by rfl) (fun K hK => ?_)
      refine quiet_loadC 26 (.tmp 8) rfl (b8) (0) rfl [.bool z.strict, .int .i64 z.heap, .int .i64 z.full, .slice z.C z.comps.length z.cc, .slice z.L z.links.length z.lc, .slice z.S z.shares.length z.sc] _ (fun w' hw' => (by obtain ⟨dd, rfl⟩ := hw'; exact (H8.out.ext (HU4.out.trans (Ext.grow (Ext.refl _) dd))).range)) Try.underlying26 rfl (by kernel_rfl) ?_
      refine hK _ ?_
      clear hK K
      simp only [Act.put, List.setIfInBounds_toArray, List.set_cons_zero, List.set_cons_succ]
      refine step_act (by rfl) (fun K hK => ?_)
      go_wp2_with (go_at_call 18; refine (same_ y z U4 (HY.out.ext HU4.out) (HZ.out.ext HU4.out) HYZ.out HOK.out.1 HOK.out.2.1 HOK.out.2.2.1 HOK.out.2.2.2).mono ?_; rintro e U5 ⟨rfl, hx⟩)
      refine ⟨_, hx, Ext.refl _, ?_⟩
      have HU5 := hid (HU4.out.trans hx)
      have hxa20 := hx
      clear hx
      refine step_read (by rfl) (fun K hK => ?_)
      go_big_quiet_op
      refine hK _ ?_
      clear hK K
      refine step_read (by rfl) (fun K hK => ?_)
      go_big_quiet_op
      refine hK _ ?_
      clear hK K
      refine step_read (by rfl) (fun K hK => ?_)
      go_big_quiet_op
      refine hK _ ?_
      clear hK K
      refine step_read (by rfl) (fun K hK => ?_)
      go_big_quiet_op
      refine hK _ ?_
      clear hK K
      refine step_read (by rfl) (fun K hK => ?_)
      refine quiet_runD 54 rfl (.bool true) (fun w => by go_simp) ?_
      refine hK _ ?_
      clear hK K
      simp only [Act.put, List.setIfInBounds_toArray, List.set_cons_zero, List.set_cons_succ]
      refine step_read (by rfl) (fun K hK => ?_)
      go_big_quiet_op
      refine hK _ ?_
      clear hK K
      refine step_read (by rfl) (fun K hK => ?_)
      go_big_quiet_op
      refine hK _ ?_
      clear hK K
      refine step_nil ?_
      go_wp2
      go_ret
      exact ⟨rfl, HV.out.trans HU5.out⟩
    · have hbl1 : (20000 : Int) < (bn : Int) := by omega
      go_wp2
      go_ret
      exact ⟨rfl, HV.out⟩
end imageTells

end Go.Proofs.Ytgldlkoohfclpaa
