/- Layer 6: the walk of ClosTells. -/
import Derived.Test.YtlapemeoffpmgaaCloLw
import Derived.Test.YtlapemeoffpmgaaCloRn
import Derived.Test.YtlapemeoffpmgaaCloRp
import Derived.Test.YtlapemeoffpmgaaCloU
import Derived.Test.YtlapemeoffpmgaaCloTr
namespace Go.Proofs.Ytlapemeoffpmgaa
set_option linter.unusedSimpArgs false
set_option linter.unusedVariables false
open Go.RowKit

theorem hv_ref {l O : List Cap} (h : ∀ x, x ∈ O ↔ Opn (grantsC l) x) (c : Cap) : hasS (grantsC l) O c = hv l c := by
  unfold hv
  have h2 : ∀ x, x ∈ O ↔ x ∈ foundC (grantsC l) := fun x => (h x).trans (found_iff (grants_ty l) x).symm
  exact has_any (any_same h2 _) (any_same h2 _)
theorem ty_ref {l O out : List Cap} (h : ∀ x, x ∈ O ↔ Opn (grantsC l) x) (hg : GrtL (Opn (grantsC l)) out) (p : Int) : tyN O p = tyN out p := by
  have h2 : ∀ x, x ∈ O ↔ x ∈ foundC (grantsC l) := fun x => (h x).trans (found_iff (grants_ty l) x).symm
  rw [ty_grt (setV l).nrm (grt_found hg) p]
  exact ty_any fun k => any_same h2 _
namespace closTells
set_option linter.unusedSimpArgs false
set_option linter.unusedVariables false
set_option maxRecDepth 100000 in
set_option maxHeartbeats 8000000 in
theorem walk (A0 : Option Addr) (cap0 : Nat) (zs0 : List Cap) (t1 : Bool) (b1 tp1 at1 pm1 ty1 : Int) (a2 : Int) (w : World) (wl0 : zs0.length ≤ maxLen) (hs0 : SlAtN w A0 6 (zs0.map Cap.cells)) (wz0 : ∀ z ∈ zs0, wfC z) (wb1 : (Lit.int .i64 b1).wf = true) (wtp1 : (Lit.int .i64 tp1).wf = true) (wat1 : (Lit.int .i64 at1).wf = true) (wpm1 : (Lit.int .i64 pm1).wf = true) (wty1 : (Lit.int .i64 ty1).wf = true) (w2 : (Lit.int .i64 a2).wf = true) :
    Calls Try.prog 3 #[.slice A0 zs0.length cap0, .agg #[.bool t1, .int .i64 b1, .int .i64 tp1, .int .i64 at1, .int .i64 pm1, .int .i64 ty1], .int .i64 a2] w fun e w' => e = .returned (.bool true) ∧ Ext w w' := by
  have HA := hid (rdF_of cap_len (by decide) hs0)
  clear hs0
  obtain ⟨m, hm⟩ : ∃ x, zs0.length = x := ⟨_, rfl⟩
  rw [hm]
  have HM := hid hm
  clear hm wl0
  by_cases hb : 40 < m
  · have hb1 : (40 : Int) < (m : Int) := by omega
    go_enter Try.func3, Try.ntmps3
    go_upto_region 1 with (fail)
    refine wp_gen (fun V => Hid (Ext w V) ∧ Hid (Row V (w.heap.size) 0 (Cap.cells (Cap.mk t1 b1 tp1 at1 pm1 ty1)))) ⟨hid (by repeat (first | (with_reducible exact Ext.refl _) | (with_reducible refine Ext.undrew ?_) | (with_reducible refine Ext.grow ?_ _) | (with_reducible refine Ext.drew ?_) | (with_reducible refine Ext.drewN ?_ _) | (with_reducible refine Ext.alloc ?_ _) | (with_reducible assumption) | ((with_reducible refine Ext.setCell ?_ ?_ _); rotate_left; (first | exact Nat.le_refl _ | ((try dsimp only); (try simp only [World.size_alloc, grow_size, World.size_setCell]); omega))))), hid (by have h9 := (Row.new w #[.bool t1, .int .i64 b1, .int .i64 tp1, .int .i64 at1, .int .i64 pm1, .int .i64 ty1] 24); exact h9)⟩ ?_
    rintro V ⟨HB, HR1⟩
    generalize w.heap.size = x1 at HR1 ⊢
    go_wp2_with fail
    refine (head_ _).mono ?_
    rintro e W1 ⟨rfl, hx⟩
    go_wp2
    go_ret
    exact ⟨rfl, HB.out.trans hx⟩
  · have hb1 : ¬ (40 : Int) < (m : Int) := by omega
    go_enter Try.func3, Try.ntmps3
    go_upto_region 1 with (fail)
    refine wp_gen (fun V => Hid (Ext w V) ∧ Hid (Row V (w.heap.size) 0 (Cap.cells (Cap.mk t1 b1 tp1 at1 pm1 ty1)))) ⟨hid (by repeat (first | (with_reducible exact Ext.refl _) | (with_reducible refine Ext.undrew ?_) | (with_reducible refine Ext.grow ?_ _) | (with_reducible refine Ext.drew ?_) | (with_reducible refine Ext.drewN ?_ _) | (with_reducible refine Ext.alloc ?_ _) | (with_reducible assumption) | ((with_reducible refine Ext.setCell ?_ ?_ _); rotate_left; (first | exact Nat.le_refl _ | ((try dsimp only); (try simp only [World.size_alloc, grow_size, World.size_setCell]); omega))))), hid (by have h9 := (Row.new w #[.bool t1, .int .i64 b1, .int .i64 tp1, .int .i64 at1, .int .i64 pm1, .int .i64 ty1] 24); exact h9)⟩ ?_
    rintro V ⟨HB, HR1⟩
    generalize w.heap.size = x1 at HR1 ⊢
    go_wp2_with fail
    refine (head_ _).mono ?_
    rintro e W1 ⟨rfl, hx1⟩
    go_wp2_with fail
    refine (sNew A0 m cap0 zs0 _ (HA.out.ext (HB.out.trans hx1)) HM.out (by omega)).mono ?_
    rintro e W2 ⟨s, out, rfl, HS, HG, hx2⟩
    have HE2 := hid (hx1.trans hx2)
    clear hx1 hx2
    go_wp2_with fail
    refine (rnew_ m cap0 A0 zs0 _ (HA.out.ext (HB.out.trans HE2.out)) HM.out (by omega)).mono ?_
    rintro e W3 ⟨r, Ar, cr, Br, cor, O, rfl, HCr, HOi, HON, HOL, HX3⟩
    have HS3 := hid (HS.out.ext HX3.out)
    have HE3 := hid (HE2.out.trans HX3.out)
    have HRb := hid (HR1.out.ext HE3.out)
    have HNR := hid (show ∀ x ∈ O, NrmC x from fun x hx => opn_nrm (fun g hg => (grantsC_mem hg).2) ((HOi.out x).1 hx))
    have HTY := hid (ty_ref HOi.out HG.out a2)
    have HGn := hid (show (grantsC zs0).length ≤ 40 by have := grantsC_len zs0; have := HM.out; omega)
    have HSM := hid (hv_ref HOi.out (Cap.mk t1 b1 tp1 at1 pm1 ty1))
    clear HS HX3 HE2 HR1
    obtain ⟨v, hvv⟩ : ∃ v, hv zs0 (Cap.mk t1 b1 tp1 at1 pm1 ty1) = v := ⟨_, rfl⟩
    have HH1 : Hid (∀ W, Ext W3 W → Calls Try.prog 13 #[.pointer (some ⟨s, 0, none⟩), .agg #[.bool t1, .int .i64 b1, .int .i64 tp1, .int .i64 at1, .int .i64 pm1, .int .i64 ty1]] W fun e w' => e = .returned (.bool v) ∧ Ext W w') := hid (fun W hxx => by rw [← hvv]; exact sHas t1 b1 tp1 at1 pm1 ty1 W (HS3.out.ext hxx))
    have HH2 : Hid (∀ W, Ext W3 W → Calls Try.prog 14 #[.pointer (some ⟨r, 0, none⟩), .agg #[.bool t1, .int .i64 b1, .int .i64 tp1, .int .i64 at1, .int .i64 pm1, .int .i64 ty1]] W fun e w' => e = .returned (.bool v) ∧ Ext W w') := hid (fun W hxx => by rw [← hvv, ← HSM.out]; exact rHas_ t1 b1 tp1 at1 pm1 ty1 r Ar cr _ Br cor O W (HCr.out.ext hxx) (by have := HGn.out; omega) (by have := HOL.out; omega))
    clear hvv HSM
    go_upto_region 8 with (fail)
    refine wp_region_step (.rd 0 (.rd 1 (.rd 2 (.rd 3 (.rd 5 (.rd 6 (.ac 4 (.ac 7 (.rd 8 (.rd 9 (.rd 10 (.rd 11 (.rd 13 (.ac 12 (.ac 14 (.ac 15 (.rd 16 (.rd 17 (.rd 18 (.rd 19 (.rd 21 (.rd 22 (.ac 20 (.ac 23 (.ac 24 (.rd 25 (.rd 26 .done))))))))))))))))))))))))))) (by kernel_rfl) (by kernel_rfl) (fun _ _ d _ _ h => by cases d <;> exact h) (by simp only [Ord.map, nthOp, List.append]; rfl) ?_
    intro d0
    have HU0 := hid (Ext.grow (Ext.refl W3) d0)
    generalize Go.Proofs.Ytlapemeoffpmgaa.grow W3 d0 = U0 at HU0 ⊢
    obtain ⟨p0, p1, p2, p3, p4, p5, p6⟩ := Row.six (c := (Cap.mk t1 b1 tp1 at1 pm1 ty1)) (HRb.out.ext HU0.out)
    simp only [Nat.zero_add] at p2 p3 p4 p5 p6
    cases v
    all_goals
      refine step_read (by rfl) (fun K hK => ?_)
      go_big_quiet_op
      refine hK _ ?_
      clear hK K
      refine step_read (by rfl) (fun K hK => ?_)
      go_big_quiet_op
      refine hK _ ?_
      clear hK K
      refine step_read (by rfl) (fun K hK => ?_)
      go_big_quiet_op
      refine hK _ ?_
      clear hK K
      refine step_read (by rfl) (fun K hK => ?_)
      go_big_quiet_op
      refine hK _ ?_
      clear hK K
      refine step_read (by rfl) (fun K hK => ?_)
      go_big_quiet_op
      refine hK _ ?_
      clear hK K
      refine step_read (by rfl) (fun K hK => ?_)
      go_big_quiet_op
      refine hK _ ?_
      clear hK K
      refine step_act (by rfl) (fun K hK => ?_)
      go_wp2_with (go_at_call 13; refine (HH1.out _ HU0.out).mono ?_; rintro e U1 ⟨rfl, hx⟩)
      refine ⟨_, hx, Ext.refl _, ?_⟩
      have HU1 := hid (HU0.out.trans hx)
      have hx4 := hx
      clear hx HU0
      refine step_act (by rfl) (fun K hK => ?_)
      go_wp2_with (go_at_call 14; refine (HH2.out _ HU1.out).mono ?_; rintro e U2 ⟨rfl, hx⟩)
      refine ⟨_, hx, Ext.refl _, ?_⟩
      have HU2 := hid (HU1.out.trans hx)
      have hx7 := hx
      clear hx HU1
      refine step_read (by rfl) (fun K hK => ?_)
      go_big_quiet_op
      refine hK _ ?_
      clear hK K
      refine step_read (by rfl) (fun K hK => ?_)
      go_big_quiet_op
      refine hK _ ?_
      clear hK K
      refine step_read (by rfl) (fun K hK => ?_)
      go_big_quiet_op
      refine hK _ ?_
      clear hK K
      refine step_read (by rfl) (fun K hK => ?_)
      go_big_quiet_op
      refine hK _ ?_
      clear hK K
      refine step_read (by rfl) (fun K hK => ?_)
      go_big_quiet_op
      refine hK _ ?_
      clear hK K
      refine step_act (by rfl) (fun K hK => ?_)
      go_wp2_with (go_at_call 16; refine (sOpen _ (HS3.out.ext HU2.out)).mono ?_; rintro e U3 ⟨Ao1, co1, rfl, HR1o, HL1o, hx⟩)
      refine ⟨_, hx, Ext.refl _, ?_⟩
      have HU3 := hid (HU2.out.trans hx)
      have hx12 := hx
      clear hx HU2
      refine step_act (by rfl) (fun K hK => ?_)
      go_wp2_with (go_at_call 17; refine (ropen_ r Ar cr _ Br cor O _ (HCr.out.ext HU3.out) HON.out HNR.out (by have := HOL.out; omega)).mono ?_; rintro e U4 ⟨Ao2, co2, out2, rfl, HG2, HR2o, _, HY⟩; have hx := HY.out; clear HY; obtain rfl := HG.out.unique (HG2.out.congr HOi.out))
      refine ⟨_, hx, Ext.refl _, ?_⟩
      have HU4 := hid (HU3.out.trans hx)
      have hx14 := hx
      clear hx HU3
      refine step_act (by rfl) (fun K hK => ?_)
      go_wp2_with (go_at_call 15; refine (rsame6_ Ao1 _ co1 out Ao2 _ co2 out _ (HR1o.out.ext hx14) rfl HR2o.out rfl (by have := HL1o.out; have := HM.out; omega) (by have := HL1o.out; have := HM.out; omega)).mono ?_; rintro e U5 ⟨he, hx⟩; rw [decide_eq_true rfl] at he; subst he)
      refine ⟨_, hx, Ext.refl _, ?_⟩
      have HU5 := hid (HU4.out.trans hx)
      have hx15 := hx
      clear hx HU4
      refine step_read (by rfl) (fun K hK => ?_)
      go_big_quiet_op
      refine hK _ ?_
      clear hK K
      refine step_read (by rfl) (fun K hK => ?_)
      go_big_quiet_op
      refine hK _ ?_
      clear hK K
      refine step_read (by rfl) (fun K hK => ?_)
      go_big_quiet_op
      refine hK _ ?_
      clear hK K
      refine step_read (by rfl) (fun K hK => ?_)
      go_big_quiet_op
      refine hK _ ?_
      clear hK K
      refine step_read (by rfl) (fun K hK => ?_)
      go_big_quiet_op
      refine hK _ ?_
      clear hK K
      refine step_read (by rfl) (fun K hK => ?_)
      go_big_quiet_op
      refine hK _ ?_
      clear hK K
      refine step_act (by rfl) (fun K hK => ?_)
      go_wp2_with (go_at_call 19; refine (sTypes a2 _ (HS3.out.ext HU5.out)).mono ?_; rintro e U6 ⟨At1, ct1, mt1, rfl, hm1, HR1t, hx⟩)
      refine ⟨_, hx, Ext.refl _, ?_⟩
      have HU6 := hid (HU5.out.trans hx)
      have hx20 := hx
      clear hx HU5
      refine step_act (by rfl) (fun K hK => ?_)
      go_wp2_with (go_at_call 20; refine (rtypes_ r Ar cr _ Br cor O a2 _ (HCr.out.ext HU6.out) (by have := HOL.out; omega)).mono ?_; rintro e U7 ⟨At2, ct2, mt2, rfl, hm2, HR2t, HY⟩; have hx := HY.out; clear HY; rw [HTY.out] at hm2 HR2t; obtain rfl : mt2 = mt1 := hm2.symm.trans hm1)
      refine ⟨_, hx, Ext.refl _, ?_⟩
      have HU7 := hid (HU6.out.trans hx)
      have hx23 := hx
      clear hx HU6
      refine step_act (by rfl) (fun K hK => ?_)
      go_wp2_with (go_at_call 18; refine (csameints_ At1 At2 _ ct1 ct2 (tyN out a2) _ (HR1t.out.ext hx23) HR2t.out hm1 (by have := tyN_len out a2; omega)).mono ?_; rintro e U8 ⟨rfl, hx⟩)
      refine ⟨_, hx, Ext.refl _, ?_⟩
      have HU8 := hid (HU7.out.trans hx)
      have hx24 := hx
      clear hx HU7
      refine step_read (by rfl) (fun K hK => ?_)
      go_big_quiet_op
      refine hK _ ?_
      clear hK K
      refine step_read (by rfl) (fun K hK => ?_)
      go_big_quiet_op
      refine hK _ ?_
      clear hK K
      refine step_nil ?_
      go_wp2
      go_ret
      exact ⟨rfl, HB.out.trans (HE3.out.trans HU8.out)⟩
end closTells

end Go.Proofs.Ytlapemeoffpmgaa
