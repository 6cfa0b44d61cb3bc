/- Layer 17: the walk of ImageWhere. -/
import Derived.Test.YtgldlkoohfclpaaImY
import Derived.Test.YtgldlkoohfclpaaImAA
import Derived.Test.YtgldlkoohfclpaaImZ
import Derived.Test.YtgldlkoohfclpaaImAL
import Derived.Test.YtgldlkoohfclpaaImAM
import Derived.Test.YtgldlkoohfclpaaImAE
namespace Go.Proofs.Ytgldlkoohfclpaa
set_option linter.unusedSimpArgs false
set_option linter.unusedVariables false
open Go.RowKit

structure LayR where
  A0 : Option Addr
  A1 : Option Addr
  A2 : Option Addr
  A3 : Option Addr
  c0 : Nat
  c1 : Nat
  c2 : Nat
  c3 : Nat
structure LayRd (w : World) (y : LayR) (t : LayS) : Prop where
  r0 : RdF SpF w y.A0 t.C
  r1 : RdF SpF w y.A1 t.D
  r2 : RdF SpF w y.A2 t.H
  r3 : RdF intF w y.A3 t.S
def layZ (x : Img) : LayS := if rightV x = true then layV x else ⟨[], [], [], [], 0⟩
theorem layZ_len (x : Img) : (layZ x).C.length ≤ 1000000 ∧ (layZ x).D.length ≤ 1000000 ∧ (layZ x).H.length ≤ 1000000 ∧ (layZ x).S.length ≤ 1000000 := by
  unfold layZ
  split
  · next h =>
    have h1 := layV_ok h
    have h2 := (rightV_ok h).1
    omega
  · simp
theorem toZ {x : Img} {e : Ending} {w' : World} (h : (rightV x = false ∧ e = .returned (.agg #[.slice none 0 0, .slice none 0 0, .slice none 0 0, .slice none 0 0, .int .i64 0])) ∨ (rightV x = true ∧ ∃ y : LayC, e = .returned (.agg #[y.vc, y.vd, y.vh, y.vs, .int .i64 (layV x).pg]) ∧ Hid (LayB w' y.q y.base y.vc y.vd y.vh y.vs (layV x)))) : ∃ y : LayR, e = .returned (.agg #[.slice y.A0 (layZ x).C.length y.c0, .slice y.A1 (layZ x).D.length y.c1, .slice y.A2 (layZ x).H.length y.c2, .slice y.A3 (layZ x).S.length y.c3, .int .i64 (layZ x).pg]) ∧ Hid (LayRd w' y (layZ x)) := by
  unfold layZ
  rcases h with ⟨h, rfl⟩ | ⟨h, y, rfl, HY⟩
  · rw [if_neg (by rw [h]; simp)]
    exact ⟨⟨none, none, none, none, 0, 0, 0, 0⟩, rfl, hid ⟨RdF.nil _ _, RdF.nil _ _, RdF.nil _ _, RdF.nil _ _⟩⟩
  · rw [if_pos h]
    obtain ⟨q, base, vc, vd, vh, vs⟩ := y
    obtain ⟨B0, b0, rfl, _, _⟩ := HY.out.o0.shape
    obtain ⟨B1, b1, rfl, _, _⟩ := HY.out.o1.shape
    obtain ⟨B2, b2, rfl, _, _⟩ := HY.out.o2.shape
    obtain ⟨B3, b3, rfl, _, _⟩ := HY.out.o3.shape
    exact ⟨⟨B0, B1, B2, B3, b0, b1, b2, b3⟩, rfl, hid ⟨HY.out.o0.rdF rfl, HY.out.o1.rdF rfl, HY.out.o2.rdF rfl, HY.out.o3.rdF rfl⟩⟩
namespace imageWhere
set_option linter.unusedSimpArgs false
set_option linter.unusedVariables false
set_option maxRecDepth 100000 in
set_option maxHeartbeats 8000000 in
theorem walk (x0 : Img) (a1 : Int) (w : World) (wi0 : ImgIn w x0) (w1 : (Lit.int .i64 a1).wf = true) :
    Calls Try.prog 4 #[.agg #[.bool x0.strict, .int .i64 x0.heap, .int .i64 x0.full, .slice x0.C x0.comps.length x0.cc, .slice x0.L x0.links.length x0.lc, .slice x0.S x0.shares.length x0.sc], .int .i64 a1] w fun e w' => e = .returned (.bool true) ∧ Ext w w' := by
  have HIN := hid wi0
  have HGT := hid (fun (W : World) (hx : Ext w W) => great17_ x0 W (wi0.at_.ext hx) wi0.nc wi0.nl wi0.ns)
  have HPA := hid (fun (h1 : x0.comps.length ≤ 900) (h2 : x0.links.length < 20000) (h3 : x0.shares.length < 20000) (W : World) (hx : Ext w W) => pairs_ x0 a1 W (wi0.at_.ext hx) (by omega) (by omega) (by omega))
  have HRP := hid (fun (h1 : x0.comps.length ≤ 900) (h2 : x0.links.length < 20000) (h3 : x0.shares.length < 20000) (W : World) (hx : Ext w W) => rpairs_ x0 a1 W (wi0.at_.ext hx) (by omega) (by omega) (by omega) (fun s hs => (wi0.ws s hs).2))
  have HGR := hid (fun (h1 : x0.comps.length ≤ 900) (h2 : x0.links.length < 20000) (h3 : x0.shares.length < 20000) (W : World) (hx : Ext w W) => grants_ x0 a1 W (wi0.at_.ext hx) (by omega) (by omega) (by omega) (fun s hs => (wi0.ws s hs).2))
  have HRG := hid (fun (h1 : x0.comps.length ≤ 900) (h2 : x0.links.length < 20000) (h3 : x0.shares.length < 20000) (W : World) (hx : Ext w W) => rgrants_ x0 a1 W (wi0.at_.ext hx) (by omega) (by omega) (by omega) (fun s hs => (wi0.ws s hs).2))
  have HWH : Hid (x0.comps.length ≤ 900 → x0.links.length < 20000 → x0.shares.length < 20000 → ∀ W, Ext w W → Calls Try.prog 22 #[.agg #[.bool x0.strict, .int .i64 x0.heap, .int .i64 x0.full, .slice x0.C x0.comps.length x0.cc, .slice x0.L x0.links.length x0.lc, .slice x0.S x0.shares.length x0.sc]] W fun e w' => ∃ y : LayR, e = .returned (.agg #[.slice y.A0 (layZ x0).C.length y.c0, .slice y.A1 (layZ x0).D.length y.c1, .slice y.A2 (layZ x0).H.length y.c2, .slice y.A3 (layZ x0).S.length y.c3, .int .i64 (layZ x0).pg]) ∧ Hid (LayRd w' y (layZ x0)) ∧ Hid (Ext W w')) := hid (fun h1 h2 h3 W hx => (where_ x0 W (wi0.at_.ext hx) (by omega) (by omega) (by omega)).mono fun e w' ⟨h4, h5⟩ => by obtain ⟨y, h6, h7⟩ := toZ h4; exact ⟨y, h6, h7, h5⟩)
  have HRW : Hid (x0.comps.length ≤ 900 → x0.links.length < 20000 → x0.shares.length < 20000 → ∀ W, Ext w W → Calls Try.prog 23 #[.agg #[.bool x0.strict, .int .i64 x0.heap, .int .i64 x0.full, .slice x0.C x0.comps.length x0.cc, .slice x0.L x0.links.length x0.lc, .slice x0.S x0.shares.length x0.sc]] W fun e w' => ∃ y : LayR, e = .returned (.agg #[.slice y.A0 (layZ x0).C.length y.c0, .slice y.A1 (layZ x0).D.length y.c1, .slice y.A2 (layZ x0).H.length y.c2, .slice y.A3 (layZ x0).S.length y.c3, .int .i64 (layZ x0).pg]) ∧ Hid (LayRd w' y (layZ x0)) ∧ Hid (Ext W w')) := hid (fun h1 h2 h3 W hx => (rwhere_ x0 W (wi0.at_.ext hx) (by omega) (by omega) (by omega) (fun s hs => (wi0.ws s hs).2)).mono fun e w' ⟨h4, h5⟩ => by obtain ⟨y, h6, h7⟩ := toZ h4; exact ⟨y, h6, h7, h5⟩)
  obtain ⟨nc, hm⟩ : ∃ y, x0.comps.length = y := ⟨_, rfl⟩
  obtain ⟨nl, hml⟩ : ∃ y, x0.links.length = y := ⟨_, rfl⟩
  obtain ⟨ns, hms⟩ : ∃ y, x0.shares.length = y := ⟨_, rfl⟩
  obtain ⟨Ca, hCa⟩ : ∃ y, x0.C = y := ⟨_, rfl⟩
  obtain ⟨La, hLa⟩ : ∃ y, x0.L = y := ⟨_, rfl⟩
  obtain ⟨Sa, hSa⟩ : ∃ y, x0.S = y := ⟨_, rfl⟩
  have HM := hid hm
  have HML := hid hml
  have HMS := hid hms
  rw [hm, hml, hms, hCa, hLa, hSa] at HGT HPA HRP HGR HRG HWH HRW
  rw [hm, hml, hms, hCa, hLa, hSa]
  clear hm hml hms hCa hLa hSa wi0
  go_enter Try.func4, Try.ntmps4
  go_upto_region 1 with (fail)
  refine wp_gen (fun V => Hid (Ext w V) ∧ Hid (Row V w.heap.size 0 [.bool x0.strict, .int .i64 x0.heap, .int .i64 x0.full, .slice Ca nc x0.cc, .slice La nl x0.lc, .slice Sa ns x0.sc])) ⟨hid (by repeat (first | (with_reducible exact Ext.refl _) | (with_reducible refine Ext.undrew ?_) | (with_reducible refine Ext.grow ?_ _) | (with_reducible refine Ext.drew ?_) | (with_reducible refine Ext.drewN ?_ _) | (with_reducible refine Ext.alloc ?_ _) | (with_reducible assumption) | ((with_reducible refine Ext.setCell ?_ ?_ _); rotate_left; (first | exact Nat.le_refl _ | ((try dsimp only); (try simp only [World.size_alloc, grow_size, World.size_setCell]); omega))))), hid (Row.new w _ _)⟩ ?_
  rintro V ⟨HV, HR⟩
  obtain ⟨p, hp⟩ : ∃ y, w.heap.size = y := ⟨_, rfl⟩
  have hpw : w.heap.size ≤ p := by omega
  rw [hp] at HR ⊢
  clear hp
  go_wp2_with fail
  refine (head17_ V).mono ?_
  rintro e W1 ⟨rfl, hx⟩
  replace HV := hid (HV.out.trans hx)
  replace HR := hid (HR.out.ext hx)
  clear hx
  have q := HR.out
  have ql := q.lt
  have qc0 := q.range 0 _ rfl
  have qc1 := q.range 1 _ rfl
  have qc2 := q.range 2 _ rfl
  have qc3 := q.range 3 _ rfl
  have qc4 := q.range 4 _ rfl
  have qc5 := q.range 5 _ rfl
  simp only [Nat.zero_add] at qc1 qc2 qc3 qc4 qc5
  clear q
  go_wp2_with fail
  refine (HGT.out W1 HV.out).mono ?_
  rintro e W2 ⟨⟨b, rfl, hb⟩, hx⟩
  replace HV := hid (HV.out.trans hx.out)
  replace HR := hid (HR.out.ext hx.out)
  have HB := hid hb
  clear hx HGT hb ql qc0 qc1 qc2 qc3 qc4 qc5
  cases b with
  | true =>
    go_wp2
    go_ret
    exact ⟨rfl, HV.out⟩
  | false =>
    obtain ⟨b1, b2, b3, b4⟩ := HB.out rfl
    replace HB := hid b4
    clear b4
    replace HPA := hid (HPA.out (by have := HM.out; omega) (by have := HML.out; omega) (by have := HMS.out; omega))
    replace HRP := hid (HRP.out (by have := HM.out; omega) (by have := HML.out; omega) (by have := HMS.out; omega))
    replace HGR := hid (HGR.out (by have := HM.out; omega) (by have := HML.out; omega) (by have := HMS.out; omega))
    replace HRG := hid (HRG.out (by have := HM.out; omega) (by have := HML.out; omega) (by have := HMS.out; omega))
    replace HWH := hid (HWH.out (by have := HM.out; omega) (by have := HML.out; omega) (by have := HMS.out; omega))
    replace HRW := hid (HRW.out (by have := HM.out; omega) (by have := HML.out; omega) (by have := HMS.out; omega))
    have HZL := hid (layZ_len x0)
    obtain ⟨t, ht⟩ : ∃ y, layZ x0 = y := ⟨_, rfl⟩
    rw [ht] at HWH HRW HZL
    obtain ⟨Pp, hPp⟩ : ∃ y, pairV x0 a1 = y := ⟨_, rfl⟩
    rw [hPp] at HPA HRP
    obtain ⟨G, hG⟩ : ∃ y, grantV x0 a1 = y := ⟨_, rfl⟩
    rw [hG] at HGR HRG
    have hgb : G.length ≤ 1000000 := by
      rw [← hG]
      unfold grantV
      split
      · next h =>
        rw [Bool.and_eq_true, Bool.not_eq_true'] at h
        have h2 := outB_no h.2
        have h1 := grant_max h.1 (i := a1.toNat) (by omega)
        rw [Int.toNat_of_nonneg h2.1] at h1
        unfold grantV at h1
        rw [if_pos (by rw [h.1, h.2]; rfl)] at h1
        omega
      · simp
    have hpb : Pp.length ≤ 1000000 := by
      rw [← hPp]
      unfold pairV
      split
      · next h =>
        rw [Bool.and_eq_true, Bool.not_eq_true'] at h
        have h1 := (rightV_ok h.1).1
        have h2 := lf_len x0.links a1
        rw [List.length_map]
        omega
      · simp
    obtain ⟨pn, hpn⟩ : ∃ y, Pp.length = y := ⟨_, rfl⟩
    obtain ⟨gn, hgn⟩ : ∃ y, G.length = y := ⟨_, rfl⟩
    have HPN := hid hpn
    have HGN := hid hgn
    rw [hpn] at HPA HRP hpb
    rw [hgn] at HGR HRG hgb
    have HPB := hid hpb
    have HGB := hid hgb
    clear ht hPp hG hpn hgn hpb hgb
    have q := HR.out
    have ql := q.lt
    have qc0 := q.range 0 _ rfl
    have qc1 := q.range 1 _ rfl
    have qc2 := q.range 2 _ rfl
    have qc3 := q.range 3 _ rfl
    have qc4 := q.range 4 _ rfl
    have qc5 := q.range 5 _ rfl
    simp only [Nat.zero_add] at qc1 qc2 qc3 qc4 qc5
    clear q
    go_wp2_with fail
    refine (HPA.out W2 HV.out).mono ?_
    rintro e W3 ⟨PA, pca, rfl, HPO, hx⟩
    have HPR := hid (show RdF PrF W3 PA Pp from HPO.out.rdF HPN.out)
    replace HV := hid (HV.out.trans hx.out)
    replace HR := hid (HR.out.ext hx.out)
    clear hx HPA HPO ql qc0 qc1 qc2 qc3 qc4 qc5
    have q := HR.out
    have ql := q.lt
    have qc0 := q.range 0 _ rfl
    have qc1 := q.range 1 _ rfl
    have qc2 := q.range 2 _ rfl
    have qc3 := q.range 3 _ rfl
    have qc4 := q.range 4 _ rfl
    have qc5 := q.range 5 _ rfl
    simp only [Nat.zero_add] at qc1 qc2 qc3 qc4 qc5
    clear q
    go_wp2_with fail
    refine (HRP.out W3 HV.out).mono ?_
    rintro e W4 ⟨QA, qca, rfl, HQR, hx⟩
    replace HPR := hid (HPR.out.ext hx.out)
    replace HV := hid (HV.out.trans hx.out)
    replace HR := hid (HR.out.ext hx.out)
    clear hx HRP ql qc0 qc1 qc2 qc3 qc4 qc5
    go_wp2
    go_loopw [8] (fun i wr => ∃ (j : Nat), j ≤ pn ∧ i = .int .i64 j ∧ Hid (Ext W4 wr)) (fun i _ => pn - (intOf i).toNat)
    case atStart => exact ⟨0, Nat.zero_le _, rfl, hid (Ext.refl _)⟩
    case round =>
      obtain ⟨j, hj, rfl, HX⟩ := hrel
      have hpnb : pn ≤ 1000000 := HPB.out
      by_cases hlt : j < pn
      · have hj1 : (j : Int) < (pn : Int) := by omega
        have hj0 : (0 : Int) ≤ (j : Int) := by omega
        have hjl : j < Pp.length := by rw [HPN.out]; exact hlt
        obtain ⟨pp, hpp⟩ : ∃ y, Pp[j] = y := ⟨_, rfl⟩
        obtain ⟨c1, d1, eA, hb1, hr1⟩ := (HPR.out.ext HX.out).elem pr_len hjl pp hpp
        obtain ⟨c2, d2, eB, hb2, hr2⟩ := (HQR.out.ext HX.out).elem pr_len hjl pp hpp
        subst eA
        subst eB
        clear hjl hpp
        go_upto_region 11 with (fail)
        refine wp_region_step (.rd 0 (.rd 1 (.rd 2 (.rd 3 (.rd 4 (.rd 5 (.rd 6 (.rd 7 (.rd 8 .done))))))))) (by kernel_rfl) (by kernel_rfl) (fun _ _ d _ _ h => by cases d <;> exact h) (by simp only [Ord.map, nthOp, List.append]; rfl) ?_
        intro d0
        have HU0 := hid (Ext.grow (Ext.refl wr) d0)
        generalize Go.Proofs.Ytgldlkoohfclpaa.grow wr d0 = U0 at HU0 ⊢
        refine step_read (by rfl) (fun K hK => ?_)
        go_big_quiet_op
        refine hK _ ?_
        clear hK K
        refine step_read (by rfl) (fun K hK => ?_)
        go_big_quiet_op
        refine hK _ ?_
        clear hK K
        refine step_read (by rfl) (fun K hK => ?_)
        go_big_quiet_op
        refine hK _ ?_
        clear hK K
        refine step_read (by rfl) (fun K hK => ?_)
        refine quiet_loadC 40 (.tmp 32) rfl (c1) ((d1 + j * 12)) rfl (PrF pp) _ (fun w' hw' => (by obtain ⟨dd, rfl⟩ := hw'; exact (fun q u hq => ((HU0.out.trans (Ext.grow (Ext.refl _) dd)).cells _ _ hb1).trans (hr1 q u hq)))) Try.underlying40 rfl (by kernel_rfl) ?_
        refine hK _ ?_
        clear hK K
        simp only [Act.put, List.setIfInBounds_toArray, List.set_cons_zero, List.set_cons_succ]
        refine step_read (by rfl) (fun K hK => ?_)
        go_big_quiet_op
        refine hK _ ?_
        clear hK K
        refine step_read (by rfl) (fun K hK => ?_)
        go_big_quiet_op
        refine hK _ ?_
        clear hK K
        refine step_read (by rfl) (fun K hK => ?_)
        go_big_quiet_op
        refine hK _ ?_
        clear hK K
        refine step_read (by rfl) (fun K hK => ?_)
        refine quiet_loadC 40 (.tmp 36) rfl (c2) ((d2 + j * 12)) rfl (PrF pp) _ (fun w' hw' => (by obtain ⟨dd, rfl⟩ := hw'; exact (fun q u hq => ((HU0.out.trans (Ext.grow (Ext.refl _) dd)).cells _ _ hb2).trans (hr2 q u hq)))) Try.underlying40 rfl (by kernel_rfl) ?_
        refine hK _ ?_
        clear hK K
        simp only [Act.put, List.setIfInBounds_toArray, List.set_cons_zero, List.set_cons_succ]
        refine step_read (by rfl) (fun K hK => ?_)
        refine quiet_runD 38 rfl (.bool false) (fun w => by exact pair_ne pp _ _ _ _ _ rfl rfl rfl w) ?_
        refine hK _ ?_
        clear hK K
        simp only [Act.put, List.setIfInBounds_toArray, List.set_cons_zero, List.set_cons_succ]
        refine step_nil ?_
        replace HX := hid (HX.out.trans HU0.out)
        go_wp2
        go_roundw
        case rel => exact ⟨j + 1, by omega, by go_num, HX⟩
        case measure => simp [intOf]; omega
      · obtain rfl : pn = j := by omega
        have hj1 : ¬ (pn : Int) < (pn : Int) := by omega
        have HVW := hid (HV.out.trans HX.out)
        obtain ⟨l0, l1, l2, l3⟩ := HZL.out
        go_upto_region 13 with (fail)
        refine wp_region_step (.rd 0 (.rd 1 (.rd 2 (.rd 4 (.ac 3 (.ac 5 (.ac 6 (.rd 7 (.rd 8 (.rd 9 (.rd 10 (.rd 12 (.rd 13 (.ac 11 (.ac 14 (.ac 15 (.rd 16 (.rd 17 .done)))))))))))))))))) (by kernel_rfl) (by kernel_rfl) (fun _ _ d _ _ h => by cases d <;> exact h) (by simp only [Ord.map, nthOp, List.append]; rfl) ?_
        intro d0
        have HU0 := hid (Ext.grow (Ext.refl wr) d0)
        generalize Go.Proofs.Ytgldlkoohfclpaa.grow wr d0 = U0 at HU0 ⊢
        have HBX := hid (HR.out.ext (HX.out.trans HU0.out))
        have q := HBX.out
        have ql := q.lt
        have qc0 := q.range 0 _ rfl
        have qc1 := q.range 1 _ rfl
        have qc2 := q.range 2 _ rfl
        have qc3 := q.range 3 _ rfl
        have qc4 := q.range 4 _ rfl
        have qc5 := q.range 5 _ rfl
        simp only [Nat.zero_add] at qc1 qc2 qc3 qc4 qc5
        clear q
        refine step_read (by rfl) (fun K hK => ?_)
        go_big_quiet_op
        refine hK _ ?_
        clear hK K
        refine step_read (by rfl) (fun K hK => ?_)
        go_big_quiet_op
        refine hK _ ?_
        clear hK K
        refine step_read (by rfl) (fun K hK => ?_)
        go_big_quiet_op
        refine hK _ ?_
        clear hK K
        refine step_read (by rfl) (fun K hK => ?_)
        go_big_quiet_op
        refine hK _ ?_
        clear hK K
        clear ql qc0 qc1 qc2 qc3 qc4 qc5
        refine step_act (by rfl) (fun K hK => ?_)
        go_wp2_with (go_at_call 22; refine (HWH.out U0 (HVW.out.trans HU0.out)).mono ?_; rintro e U1 ⟨y1, rfl, HY1, hx0⟩; have hx := hx0.out; clear hx0)
        refine ⟨_, hx, Ext.refl _, ?_⟩
        have HU1 := hid (HU0.out.trans hx)
        have hxa3 := hx
        clear hx
        replace HBX := hid (HBX.out.ext hxa3)
        refine step_act (by rfl) (fun K hK => ?_)
        go_wp2_with (go_at_call 23; refine (HRW.out U1 (HVW.out.trans HU1.out)).mono ?_; rintro e U2 ⟨y2, rfl, HY2, hx0⟩; have hx := hx0.out; clear hx0)
        refine ⟨_, hx, Ext.refl _, ?_⟩
        have HU2 := hid (HU1.out.trans hx)
        have hxa5 := hx
        clear hx
        replace HBX := hid (HBX.out.ext hxa5)
        refine step_act (by rfl) (fun K hK => ?_)
        go_wp2_with (go_at_call 21; refine (rsamew_ y1.A0 y1.A1 y1.A2 y1.A3 y2.A0 y2.A1 y2.A2 y2.A3 y1.c0 y1.c1 y1.c2 y1.c3 y2.c0 y2.c1 y2.c2 y2.c3 _ _ _ _ t.C t.D t.H t.S t.pg U2 rfl rfl rfl rfl l0 l1 l2 l3 (HY1.out.r0.ext hxa5) (HY1.out.r1.ext hxa5) (HY1.out.r2.ext hxa5) (HY1.out.r3.ext hxa5) HY2.out.r0 HY2.out.r1 HY2.out.r2 HY2.out.r3).mono ?_; rintro e U3 ⟨rfl, hx⟩)
        refine ⟨_, hx, Ext.refl _, ?_⟩
        have HU3 := hid (HU2.out.trans hx)
        have hxa6 := hx
        clear hx
        replace HBX := hid (HBX.out.ext hxa6)
        have q := HBX.out
        have ql := q.lt
        have qc0 := q.range 0 _ rfl
        have qc1 := q.range 1 _ rfl
        have qc2 := q.range 2 _ rfl
        have qc3 := q.range 3 _ rfl
        have qc4 := q.range 4 _ rfl
        have qc5 := q.range 5 _ rfl
        simp only [Nat.zero_add] at qc1 qc2 qc3 qc4 qc5
        clear q
        refine step_read (by rfl) (fun K hK => ?_)
        go_big_quiet_op
        refine hK _ ?_
        clear hK K
        refine step_read (by rfl) (fun K hK => ?_)
        go_big_quiet_op
        refine hK _ ?_
        clear hK K
        refine step_read (by rfl) (fun K hK => ?_)
        go_big_quiet_op
        refine hK _ ?_
        clear hK K
        refine step_read (by rfl) (fun K hK => ?_)
        go_big_quiet_op
        refine hK _ ?_
        clear hK K
        refine step_read (by rfl) (fun K hK => ?_)
        go_big_quiet_op
        refine hK _ ?_
        clear hK K
        refine step_read (by rfl) (fun K hK => ?_)
        go_big_quiet_op
        refine hK _ ?_
        clear hK K
        clear ql qc0 qc1 qc2 qc3 qc4 qc5
        refine step_act (by rfl) (fun K hK => ?_)
        go_wp2_with (go_at_call 25; refine (HGR.out U3 (HVW.out.trans HU3.out)).mono ?_; rintro e U4 ⟨GA, gca, rfl, HGO, hx0⟩; have hx := hx0.out; clear hx0)
        refine ⟨_, hx, Ext.refl _, ?_⟩
        have HU4 := hid (HU3.out.trans hx)
        have hxa11 := hx
        clear hx
        refine step_act (by rfl) (fun K hK => ?_)
        go_wp2_with (go_at_call 26; refine (HRG.out U4 (HVW.out.trans HU4.out)).mono ?_; rintro e U5 ⟨HA, hca, rfl, HHO, hx0⟩; have hx := hx0.out; clear hx0)
        refine ⟨_, hx, Ext.refl _, ?_⟩
        have HU5 := hid (HU4.out.trans hx)
        have hxa14 := hx
        clear hx
        refine step_act (by rfl) (fun K hK => ?_)
        go_wp2_with (go_at_call 24; refine (rsameC_ GA HA gca hca _ G U5 HGN.out ((HGO.out.rdF HGN.out).ext hxa14) HHO.out HGB.out).mono ?_; rintro e U6 ⟨rfl, hx⟩)
        refine ⟨_, hx, Ext.refl _, ?_⟩
        have HU6 := hid (HU5.out.trans hx)
        have hxa15 := hx
        clear hx
        refine step_read (by rfl) (fun K hK => ?_)
        go_big_quiet_op
        refine hK _ ?_
        clear hK K
        refine step_read (by rfl) (fun K hK => ?_)
        go_big_quiet_op
        refine hK _ ?_
        clear hK K
        refine step_nil ?_
        go_wp2
        go_ret
        exact ⟨rfl, HVW.out.trans HU6.out⟩
end imageWhere

end Go.Proofs.Ytgldlkoohfclpaa
