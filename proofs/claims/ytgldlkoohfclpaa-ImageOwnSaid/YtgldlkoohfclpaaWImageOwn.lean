/- Layer 17: the walk of ImageOwn. -/
import Derived.Test.YtgldlkoohfclpaaImY
import Derived.Test.YtgldlkoohfclpaaImAC
import Derived.Test.YtgldlkoohfclpaaImAE
namespace Go.Proofs.Ytgldlkoohfclpaa
set_option linter.unusedSimpArgs false
set_option linter.unusedVariables false
open Go.RowKit

namespace imageOwn
set_option linter.unusedSimpArgs false
set_option linter.unusedVariables false
set_option maxRecDepth 100000 in
set_option maxHeartbeats 8000000 in
theorem walk (x0 : Img) (a1 : Int) (a2 : Int) (w : World) (wi0 : ImgIn w x0) (w1 : (Lit.int .u8 a1).wf = true) (w2 : (Lit.int .u8 a2).wf = true) :
    Calls Try.prog 7 #[.agg #[.bool x0.strict, .int .i64 x0.heap, .int .i64 x0.full, .slice x0.C x0.comps.length x0.cc, .slice x0.L x0.links.length x0.lc, .slice x0.S x0.shares.length x0.sc], .int .u8 a1, .int .u8 a2] w fun e w' => e = .returned (.bool true) ∧ Ext w w' := by
  have HIN := hid wi0
  have HGT := hid (fun (W : World) (hx : Ext w W) => great17_ x0 W (wi0.at_.ext hx) wi0.nc wi0.nl wi0.ns)
  have HRT := hid (fun (h1 : x0.comps.length ≤ 900) (h2 : x0.links.length < 20000) (h3 : x0.shares.length < 20000) (W : World) (hx : Ext w W) => imRight_ x0 W (wi0.at_.ext hx) (by omega) (by omega) (by omega))
  have HGR := hid (fun (h1 : x0.comps.length ≤ 900) (h2 : x0.links.length < 20000) (h3 : x0.shares.length < 20000) (n : Nat) (W : World) (hx : Ext w W) => grants_ x0 (n : Int) W (wi0.at_.ext hx) (by omega) (by omega) (by omega) (fun s hs => (wi0.ws s hs).2))
  have HPA := hid (fun (h1 : x0.comps.length ≤ 900) (h2 : x0.links.length < 20000) (h3 : x0.shares.length < 20000) (n : Nat) (W : World) (hx : Ext w W) => pairs_ x0 (n : Int) W (wi0.at_.ext hx) (by omega) (by omega) (by omega))
  obtain ⟨nc, hm⟩ : ∃ y, x0.comps.length = y := ⟨_, rfl⟩
  obtain ⟨nl, hml⟩ : ∃ y, x0.links.length = y := ⟨_, rfl⟩
  obtain ⟨ns, hms⟩ : ∃ y, x0.shares.length = y := ⟨_, rfl⟩
  obtain ⟨Ca, hCa⟩ : ∃ y, x0.C = y := ⟨_, rfl⟩
  obtain ⟨La, hLa⟩ : ∃ y, x0.L = y := ⟨_, rfl⟩
  obtain ⟨Sa, hSa⟩ : ∃ y, x0.S = y := ⟨_, rfl⟩
  have HM := hid hm
  have HML := hid hml
  have HMS := hid hms
  rw [hm, hml, hms, hCa, hLa, hSa] at HGT HRT HGR HPA
  rw [hm, hml, hms, hCa, hLa, hSa]
  clear hm hml hms hCa hLa hSa wi0
  go_enter Try.func7, Try.ntmps7
  go_upto_region 1 with (fail)
  refine wp_gen (fun V => Hid (Ext w V) ∧ Hid (Row V w.heap.size 0 [.bool x0.strict, .int .i64 x0.heap, .int .i64 x0.full, .slice Ca nc x0.cc, .slice La nl x0.lc, .slice Sa ns x0.sc])) ⟨hid (by repeat (first | (with_reducible exact Ext.refl _) | (with_reducible refine Ext.undrew ?_) | (with_reducible refine Ext.grow ?_ _) | (with_reducible refine Ext.drew ?_) | (with_reducible refine Ext.drewN ?_ _) | (with_reducible refine Ext.alloc ?_ _) | (with_reducible assumption) | ((with_reducible refine Ext.setCell ?_ ?_ _); rotate_left; (first | exact Nat.le_refl _ | ((try dsimp only); (try simp only [World.size_alloc, grow_size, World.size_setCell]); omega))))), hid (Row.new w _ _)⟩ ?_
  rintro V ⟨HV, HR⟩
  obtain ⟨p, hp⟩ : ∃ y, w.heap.size = y := ⟨_, rfl⟩
  have hpw : w.heap.size ≤ p := by omega
  rw [hp] at HR ⊢
  clear hp
  go_wp2_with fail
  refine (head17_ V).mono ?_
  rintro e W1 ⟨rfl, hx⟩
  replace HV := hid (HV.out.trans hx)
  replace HR := hid (HR.out.ext hx)
  clear hx
  have q := HR.out
  have ql := q.lt
  have qc0 := q.range 0 _ rfl
  have qc1 := q.range 1 _ rfl
  have qc2 := q.range 2 _ rfl
  have qc3 := q.range 3 _ rfl
  have qc4 := q.range 4 _ rfl
  have qc5 := q.range 5 _ rfl
  simp only [Nat.zero_add] at qc1 qc2 qc3 qc4 qc5
  clear q
  go_wp2_with fail
  refine (HGT.out W1 HV.out).mono ?_
  rintro e W2 ⟨⟨b, rfl, hb⟩, hx⟩
  replace HV := hid (HV.out.trans hx.out)
  replace HR := hid (HR.out.ext hx.out)
  have HB := hid hb
  clear hx HGT hb ql qc0 qc1 qc2 qc3 qc4 qc5
  cases b with
  | true =>
    go_wp2
    go_ret
    exact ⟨rfl, HV.out⟩
  | false =>
    obtain ⟨b1, b2, b3, b4⟩ := HB.out rfl
    replace HB := hid b4
    clear b4
    replace HRT := hid (HRT.out (by have := HM.out; omega) (by have := HML.out; omega) (by have := HMS.out; omega))
    replace HGR := hid (HGR.out (by have := HM.out; omega) (by have := HML.out; omega) (by have := HMS.out; omega))
    replace HPA := hid (HPA.out (by have := HM.out; omega) (by have := HML.out; omega) (by have := HMS.out; omega))
    have q := HR.out
    have ql := q.lt
    have qc0 := q.range 0 _ rfl
    have qc1 := q.range 1 _ rfl
    have qc2 := q.range 2 _ rfl
    have qc3 := q.range 3 _ rfl
    have qc4 := q.range 4 _ rfl
    have qc5 := q.range 5 _ rfl
    simp only [Nat.zero_add] at qc1 qc2 qc3 qc4 qc5
    clear q
    go_wp2_with fail
    refine (HRT.out W2 HV.out).mono ?_
    rintro e W3 ⟨rfl, hx⟩
    replace HV := hid (HV.out.trans hx)
    replace HR := hid (HR.out.ext hx)
    clear hx HRT ql qc0 qc1 qc2 qc3 qc4 qc5
    obtain ⟨v, hv⟩ : ∃ y, rightV x0 = y := ⟨_, rfl⟩
    rw [hv]
    cases v with
    | false =>
      go_wp2
      go_ret
      exact ⟨rfl, HV.out⟩
    | true =>
      have HRV := hid hv
      have hn5 := (rightV_ok hv).1
      have hnc1 : 1 ≤ nc := by have := HM.out; omega
      have hnc4 : nc ≤ 4 := by have := HM.out; omega
      clear hv hn5
      have hw1 : (0 : Int) ≤ a1 ∧ a1 ≤ 255 := by simpa [Lit.wf, IntKind.min, IntKind.max, IntKind.signed, IntKind.bits] using w1
      have hw2 : (0 : Int) ≤ a2 ∧ a2 ≤ 255 := by simpa [Lit.wf, IntKind.min, IntKind.max, IntKind.signed, IntKind.bits] using w2
      obtain ⟨hw10, hw11⟩ := hw1
      obtain ⟨hw20, hw21⟩ := hw2
      clear w1 w2
      obtain ⟨ii, hii, hin⟩ : ∃ m : Nat, a1.tmod (nc : Int) = (m : Int) ∧ m < nc := by
        rw [Int.tmod_eq_emod_of_nonneg hw10]
        have h2 := Int.emod_nonneg a1 (show (nc : Int) ≠ 0 by omega)
        have h3 := Int.emod_lt_of_pos a1 (show (0 : Int) < (nc : Int) by omega)
        exact ⟨(a1 % (nc : Int)).toNat, by omega, by omega⟩
      obtain ⟨kk, hkk, hkn⟩ : ∃ m : Nat, a2.tmod (nc : Int) = (m : Int) ∧ m < nc := by
        rw [Int.tmod_eq_emod_of_nonneg hw20]
        have h2 := Int.emod_nonneg a2 (show (nc : Int) ≠ 0 by omega)
        have h3 := Int.emod_lt_of_pos a2 (show (0 : Int) < (nc : Int) by omega)
        exact ⟨(a2 % (nc : Int)).toNat, by omega, by omega⟩
      have hnc0 : ¬ (nc : Int) = 0 := by omega
      have HI1 := hid (show ii < x0.comps.length by rw [HM.out]; exact hin)
      have HK1 := hid (show kk < x0.comps.length by rw [HM.out]; exact hkn)
      have HG := hid (HGR.out ii)
      have HH := hid (HGR.out kk)
      replace HPA := hid (HPA.out ii)
      obtain ⟨G, hG⟩ : ∃ y, grantV x0 (ii : Int) = y := ⟨_, rfl⟩
      obtain ⟨Hh, hH⟩ : ∃ y, grantV x0 (kk : Int) = y := ⟨_, rfl⟩
      obtain ⟨Pp, hPp⟩ : ∃ y, pairV x0 (ii : Int) = y := ⟨_, rfl⟩
      rw [hG] at HG
      rw [hH] at HH
      rw [hPp] at HPA
      have HGE := hid hG
      have HHE := hid hH
      have HPE := hid hPp
      have hg3 := grant_len HRV.out HI1.out
      have hh3 := grant_len HRV.out HK1.out
      rw [hG] at hg3
      rw [hH] at hh3
      obtain ⟨gn, hgn⟩ : ∃ y, G.length = y := ⟨_, rfl⟩
      obtain ⟨hn, hhn⟩ : ∃ y, Hh.length = y := ⟨_, rfl⟩
      obtain ⟨pn, hpn⟩ : ∃ y, Pp.length = y := ⟨_, rfl⟩
      have HGN := hid hgn
      have HHN := hid hhn
      have HPN := hid hpn
      rw [hgn] at HG hg3
      rw [hhn] at HH hh3
      rw [hpn] at HPA
      have HGB := hid (show gn ≤ 9 by rw [← HGN.out, ← HGE.out]; exact grant_max HRV.out HI1.out)
      have HHB := hid (show hn ≤ 9 by rw [← HHN.out, ← HHE.out]; exact grant_max HRV.out HK1.out)
      have HPB := hid (show pn ≤ 16 by rw [← HPN.out, ← HPE.out]; exact pair_max HRV.out _)
      clear hG hH hPp hgn hhn hpn HGR
      have q := HR.out
      have ql := q.lt
      have qc0 := q.range 0 _ rfl
      have qc1 := q.range 1 _ rfl
      have qc2 := q.range 2 _ rfl
      have qc3 := q.range 3 _ rfl
      have qc4 := q.range 4 _ rfl
      have qc5 := q.range 5 _ rfl
      simp only [Nat.zero_add] at qc1 qc2 qc3 qc4 qc5
      clear q
      go_wp2_with fail
      refine (HG.out W3 HV.out).mono ?_
      rintro e W4 ⟨GA, gca, rfl, HGO, hx⟩
      have HGR := hid (show RdF Cap.cells W4 GA G from HGO.out.rdF HGN.out)
      replace HV := hid (HV.out.trans hx.out)
      replace HR := hid (HR.out.ext hx.out)
      clear hx HG HGO ql qc0 qc1 qc2 qc3 qc4 qc5
      have q := HR.out
      have ql := q.lt
      have qc0 := q.range 0 _ rfl
      have qc1 := q.range 1 _ rfl
      have qc2 := q.range 2 _ rfl
      have qc3 := q.range 3 _ rfl
      have qc4 := q.range 4 _ rfl
      have qc5 := q.range 5 _ rfl
      simp only [Nat.zero_add] at qc1 qc2 qc3 qc4 qc5
      clear q
      go_wp2_with fail
      refine (HH.out W4 HV.out).mono ?_
      rintro e W5 ⟨HA, hca, rfl, HHO, hx⟩
      have HHR := hid (show RdF Cap.cells W5 HA Hh from HHO.out.rdF HHN.out)
      replace HGR := hid (HGR.out.ext hx.out)
      replace HV := hid (HV.out.trans hx.out)
      replace HR := hid (HR.out.ext hx.out)
      clear hx HH HHO ql qc0 qc1 qc2 qc3 qc4 qc5
      have q := HR.out
      have ql := q.lt
      have qc0 := q.range 0 _ rfl
      have qc1 := q.range 1 _ rfl
      have qc2 := q.range 2 _ rfl
      have qc3 := q.range 3 _ rfl
      have qc4 := q.range 4 _ rfl
      have qc5 := q.range 5 _ rfl
      simp only [Nat.zero_add] at qc1 qc2 qc3 qc4 qc5
      clear q
      go_wp2_with fail
      refine (HPA.out W5 HV.out).mono ?_
      rintro e W6 ⟨PA, pca, rfl, HPO, hx⟩
      have HPR := hid (show RdF PrF W6 PA Pp from HPO.out.rdF HPN.out)
      replace HGR := hid (HGR.out.ext hx.out)
      replace HHR := hid (HHR.out.ext hx.out)
      replace HV := hid (HV.out.trans hx.out)
      clear hx HPA HPO HR ql qc0 qc1 qc2 qc3 qc4 qc5 hii hkk hw10 hw11 hw20 hw21
      have hg3i : ¬ (gn : Int) < 3 := by omega
      have hh3i : ¬ (hn : Int) < 3 := by omega
      have hg0 : (0 : Int) ≤ (gn : Int) := by omega
      have hh0 : (0 : Int) ≤ (hn : Int) := by omega
      go_wp2
      go_loopw [14] (fun i wr => ∃ (j : Nat), j ≤ gn ∧ i = .int .i64 j ∧ Hid (Ext W6 wr)) (fun i _ => gn - (intOf i).toNat)
      case atStart => exact ⟨0, Nat.zero_le _, rfl, hid (Ext.refl _)⟩
      case round =>
        obtain ⟨j, hj, rfl, HW⟩ := hrel
        have hgnb : gn ≤ 9 := HGB.out
        have hhnb : hn ≤ 9 := HHB.out
        by_cases hlt : j < gn
        · have hj1 : (j : Int) < (gn : Int) := by omega
          have hj0 : (0 : Int) ≤ (j : Int) := by omega
          have hjl : j < G.length := by rw [HGN.out]; exact hlt
          obtain ⟨g, hgg⟩ : ∃ y, G[j] = y := ⟨_, rfl⟩
          have HGJ := hid (show (grantV x0 (ii : Int))[j]? = some g by rw [HGE.out, List.getElem?_eq_getElem hjl, hgg])
          obtain ⟨r1, r2, r3, r4⟩ := grant_cap HRV.out HI1.out (List.mem_of_getElem? HGJ.out)
          obtain ⟨gb, go, eA, hgl, hgr⟩ := (HGR.out.ext HW.out).elem cap_len hjl g hgg
          obtain ⟨gtag, gb0, gt0, ga0, gp0, gty⟩ := g
          dsimp only at r2 r3 r4
          subst r2
          subst r3
          obtain rfl : gb0 = ga0 := r4.symm
          have HRC := hid r1
          have HGEL := hid hgg
          subst eA
          clear hgg r1
          go_upto_region 15 with (fail)
          refine wp_region_step (.rd 0 (.rd 1 (.rd 2 (.rd 3 (.ac 4 (.rd 5 (.rd 6 (.rd 7 (.rd 8 (.rd 9 (.rd 10 (.rd 11 (.rd 12 (.rd 13 (.rd 14 (.rd 15 (.rd 16 (.rd 17 (.rd 18 (.rd 19 (.rd 20 (.rd 21 (.rd 22 (.rd 23 (.rd 24 (.rd 25 (.rd 26 (.rd 27 (.rd 28 (.rd 29 (.rd 30 (.rd 31 (.rd 32 (.rd 33 (.rd 34 .done))))))))))))))))))))))))))))))))))) (by kernel_rfl) (by kernel_rfl) (fun _ _ d _ _ h => by cases d <;> exact h) (by simp only [Ord.map, nthOp, List.append]; rfl) ?_
          intro d0
          have HU0 := hid (Ext.grow (Ext.refl wr) d0)
          generalize Go.Proofs.Ytgldlkoohfclpaa.grow wr d0 = U0 at HU0 ⊢
          have g0 := (HU0.out.cells _ _ hgl).trans (hgr 0 _ rfl)
          have g1 := (HU0.out.cells _ _ hgl).trans (hgr 1 _ rfl)
          have g2 := (HU0.out.cells _ _ hgl).trans (hgr 2 _ rfl)
          have g3 := (HU0.out.cells _ _ hgl).trans (hgr 3 _ rfl)
          have g4 := (HU0.out.cells _ _ hgl).trans (hgr 4 _ rfl)
          have g5 := (HU0.out.cells _ _ hgl).trans (hgr 5 _ rfl)
          simp only [Nat.add_zero] at g0
          have hgl0 := Nat.lt_of_lt_of_le hgl HU0.out.size
          refine step_read (by rfl) (fun K hK => ?_)
          go_big_quiet_op
          refine hK _ ?_
          clear hK K
          refine step_read (by rfl) (fun K hK => ?_)
          go_big_quiet_op
          refine hK _ ?_
          clear hK K
          refine step_read (by rfl) (fun K hK => ?_)
          go_big_quiet_op
          refine hK _ ?_
          clear hK K
          refine step_read (by rfl) (fun K hK => ?_)
          refine quiet_loadC 39 (.tmp 64) rfl (gb) (go + j * 6) rfl [.bool true, .int .i64 gb0, .int .i64 gt0, .int .i64 gb0, .int .i64 gp0, .int .i64 0] _ (fun w' hw' => (by obtain ⟨dd, rfl⟩ := hw'; exact (fun q u hq => ((HU0.out.trans (Ext.grow (Ext.refl _) dd)).cells _ _ hgl).trans (hgr q u hq)))) Try.underlying39 rfl (by kernel_rfl) ?_
          refine hK _ ?_
          clear hK K
          simp only [Act.put, List.setIfInBounds_toArray, List.set_cons_zero, List.set_cons_succ]
          refine step_act (by rfl) (fun K hK => ?_)
          go_wp2_with (go_at_call 27; refine (rcapRight true gb0 gt0 gb0 gp0 0 U0).mono ?_; rintro e U1 ⟨he, hx⟩; rw [HRC.out] at he; subst he)
          refine ⟨_, hx, Ext.refl _, ?_⟩
          have HU1 := hid (HU0.out.trans hx)
          have hxa4 := hx
          clear hx
          replace g0 := (HU1.out.cells _ _ hgl).trans (hgr 0 _ rfl)
          replace g1 := (HU1.out.cells _ _ hgl).trans (hgr 1 _ rfl)
          replace g2 := (HU1.out.cells _ _ hgl).trans (hgr 2 _ rfl)
          replace g3 := (HU1.out.cells _ _ hgl).trans (hgr 3 _ rfl)
          replace g4 := (HU1.out.cells _ _ hgl).trans (hgr 4 _ rfl)
          replace g5 := (HU1.out.cells _ _ hgl).trans (hgr 5 _ rfl)
          simp only [Nat.add_zero] at g0
          replace hgl0 := Nat.lt_of_lt_of_le hgl HU1.out.size
          refine step_read (by rfl) (fun K hK => ?_)
          go_big_quiet_op
          refine hK _ ?_
          clear hK K
          refine step_read (by rfl) (fun K hK => ?_)
          go_big_quiet_op
          refine hK _ ?_
          clear hK K
          refine step_read (by rfl) (fun K hK => ?_)
          go_big_quiet_op
          refine hK _ ?_
          clear hK K
          refine step_read (by rfl) (fun K hK => ?_)
          go_big_quiet_op
          refine hK _ ?_
          clear hK K
          refine step_read (by rfl) (fun K hK => ?_)
          go_big_quiet_op
          refine hK _ ?_
          clear hK K
          refine step_read (by rfl) (fun K hK => ?_)
          go_big_quiet_op
          refine hK _ ?_
          clear hK K
          refine step_read (by rfl) (fun K hK => ?_)
          go_big_quiet_op
          refine hK _ ?_
          clear hK K
          refine step_read (by rfl) (fun K hK => ?_)
          go_big_quiet_op
          refine hK _ ?_
          clear hK K
          refine step_read (by rfl) (fun K hK => ?_)
          go_big_quiet_op
          refine hK _ ?_
          clear hK K
          refine step_read (by rfl) (fun K hK => ?_)
          go_big_quiet_op
          refine hK _ ?_
          clear hK K
          refine step_read (by rfl) (fun K hK => ?_)
          go_big_quiet_op
          refine hK _ ?_
          clear hK K
          refine step_read (by rfl) (fun K hK => ?_)
          go_big_quiet_op
          refine hK _ ?_
          clear hK K
          refine step_read (by rfl) (fun K hK => ?_)
          go_big_quiet_op
          refine hK _ ?_
          clear hK K
          refine step_read (by rfl) (fun K hK => ?_)
          go_big_quiet_op
          refine hK _ ?_
          clear hK K
          refine step_read (by rfl) (fun K hK => ?_)
          go_big_quiet_op
          refine hK _ ?_
          clear hK K
          refine step_read (by rfl) (fun K hK => ?_)
          go_big_quiet_op
          refine hK _ ?_
          clear hK K
          refine step_read (by rfl) (fun K hK => ?_)
          go_big_quiet_op
          refine hK _ ?_
          clear hK K
          refine step_read (by rfl) (fun K hK => ?_)
          go_big_quiet_op
          refine hK _ ?_
          clear hK K
          refine step_read (by rfl) (fun K hK => ?_)
          go_big_quiet_op
          refine hK _ ?_
          clear hK K
          refine step_read (by rfl) (fun K hK => ?_)
          go_big_quiet_op
          refine hK _ ?_
          clear hK K
          refine step_read (by rfl) (fun K hK => ?_)
          go_big_quiet_op
          refine hK _ ?_
          clear hK K
          refine step_read (by rfl) (fun K hK => ?_)
          go_big_quiet_op
          refine hK _ ?_
          clear hK K
          refine step_read (by rfl) (fun K hK => ?_)
          go_big_quiet_op
          refine hK _ ?_
          clear hK K
          refine step_read (by rfl) (fun K hK => ?_)
          go_big_quiet_op
          refine hK _ ?_
          clear hK K
          refine step_read (by rfl) (fun K hK => ?_)
          go_big_quiet_op
          refine hK _ ?_
          clear hK K
          refine step_read (by rfl) (fun K hK => ?_)
          go_big_quiet_op
          refine hK _ ?_
          clear hK K
          refine step_read (by rfl) (fun K hK => ?_)
          go_big_quiet_op
          refine hK _ ?_
          clear hK K
          refine step_read (by rfl) (fun K hK => ?_)
          go_big_quiet_op
          refine hK _ ?_
          clear hK K
          refine step_read (by rfl) (fun K hK => ?_)
          go_big_quiet_op
          refine hK _ ?_
          clear hK K
          refine step_read (by rfl) (fun K hK => ?_)
          go_big_quiet_op
          refine hK _ ?_
          clear hK K
          refine step_nil ?_
          replace HW := hid (HW.out.trans HU1.out)
          generalize U1 = WJ at HW ⊢
          clear HRC hgl hgr hgl0 g0 g1 g2 g3 g4 g5
          go_wp2
          go_loopw [15] (fun i wr => ∃ (l : Nat), l ≤ hn ∧ i = .int .i64 l ∧ Hid (Ext W6 wr)) (fun i _ => hn - (intOf i).toNat)
          case atStart => exact ⟨0, Nat.zero_le _, rfl, HW⟩
          case round =>
            clear HW
            obtain ⟨l, hl, rfl, HW⟩ := hrel
            by_cases hlt2 : l < hn
            · have hl1 : (l : Int) < (hn : Int) := by omega
              have hl0 : (0 : Int) ≤ (l : Int) := by omega
              by_cases hik : ii = kk
              · have hike : (ii : Int) = (kk : Int) := by omega
                go_wp2
                go_roundw
                case rel => exact ⟨j + 1, by omega, by go_num, HW⟩
                case measure => simp [intOf]; omega
              · have hikn : ¬ (ii : Int) = (kk : Int) := by omega
                have hll : l < Hh.length := by rw [HHN.out]; exact hlt2
                obtain ⟨h, hhh⟩ : ∃ y, Hh[l] = y := ⟨_, rfl⟩
                have HHJ := hid (show (grantV x0 (kk : Int))[l]? = some h by rw [HHE.out, List.getElem?_eq_getElem hll, hhh])
                have HAP := hid (fun hj => grant_apart HRV.out HI1.out HK1.out hik HGJ.out HHJ.out hj)
                obtain ⟨gb2, go2, eA2, hgl2, hgr2⟩ := (HGR.out.ext HW.out).elem cap_len (k := j) (by rw [HGN.out]; exact hlt) _ HGEL.out
                cases eA2
                obtain ⟨hb, ho, eB, hhl, hhr⟩ := (HHR.out.ext HW.out).elem cap_len hll h hhh
                obtain ⟨htag, hb0, ht0, ha0, hp0, hty⟩ := h
                subst eB
                dsimp only at HAP
                have g1 := hgr2 1 _ rfl
                have g2 := hgr2 2 _ rfl
                have h1 := hhr 1 _ rfl
                have h2 := hhr 2 _ rfl
                clear hgr2 hhr hll hhh
                go_upto_region 20 with (fail)
                by_cases c1 : gb0 < ht0
                · by_cases c2 : hb0 < gt0
                  · have c3 : ¬ j < 3 := fun h => HAP.out (.inl h) ⟨c1, c2⟩
                    have c4 : ¬ l < 3 := fun h => HAP.out (.inr h) ⟨c1, c2⟩
                    have c3i : ¬ (j : Int) < 3 := by omega
                    have c4i : ¬ (l : Int) < 3 := by omega
                    refine wp_region_grow (by kernel_rfl) (by kernel_rfl) (by first | (simp only [List.append]; rfl) | rfl) ?_
                    (repeat (go_big_quiet_step (fail)))
                    refine wpQuiet_nil ?_
                    intro wq hq
                    obtain ⟨dq, rfl⟩ := hq
                    replace HW := hid (HW.out.trans (Ext.grow (Ext.refl wr) dq))
                    go_wp2
                    go_roundw
                    case rel => exact ⟨l + 1, by omega, by go_num, HW⟩
                    case measure => simp [intOf]; omega
                  · 
                    refine wp_region_grow (by kernel_rfl) (by kernel_rfl) (by first | (simp only [List.append]; rfl) | rfl) ?_
                    (repeat (go_big_quiet_step (fail)))
                    refine wpQuiet_nil ?_
                    intro wq hq
                    obtain ⟨dq, rfl⟩ := hq
                    replace HW := hid (HW.out.trans (Ext.grow (Ext.refl wr) dq))
                    go_wp2
                    go_roundw
                    case rel => exact ⟨l + 1, by omega, by go_num, HW⟩
                    case measure => simp [intOf]; omega
                · 
                  refine wp_region_grow (by kernel_rfl) (by kernel_rfl) (by first | (simp only [List.append]; rfl) | rfl) ?_
                  (repeat (go_big_quiet_step (fail)))
                  refine wpQuiet_nil ?_
                  intro wq hq
                  obtain ⟨dq, rfl⟩ := hq
                  replace HW := hid (HW.out.trans (Ext.grow (Ext.refl wr) dq))
                  go_wp2
                  go_roundw
                  case rel => exact ⟨l + 1, by omega, by go_num, HW⟩
                  case measure => simp [intOf]; omega
            · obtain rfl : hn = l := by omega
              have hl1 : ¬ (hn : Int) < (hn : Int) := by omega
              go_wp2
              go_roundw
              case rel => exact ⟨j + 1, by omega, by go_num, HW⟩
              case measure => simp [intOf]; omega
        · obtain rfl : gn = j := by omega
          have hj1 : ¬ (gn : Int) < (gn : Int) := by omega
          go_wp2
          go_loopw [16] (fun i wr => ∃ (j : Nat), j ≤ pn ∧ i = .int .i64 j ∧ Hid (Ext W6 wr)) (fun i _ => pn - (intOf i).toNat)
          case atStart => exact ⟨0, Nat.zero_le _, rfl, HW⟩
          case round =>
            clear HW
            obtain ⟨j, hjp, rfl, HW⟩ := hrel
            have hpnb : pn ≤ 16 := HPB.out
            by_cases hlt3 : j < pn
            · have hj3 : (j : Int) < (pn : Int) := by omega
              have hj0 : (0 : Int) ≤ (j : Int) := by omega
              have hjl : j < Pp.length := by rw [HPN.out]; exact hlt3
              obtain ⟨pp, hpp⟩ : ∃ y, Pp[j] = y := ⟨_, rfl⟩
              obtain ⟨r1, r2, r3, r4, r5, r6, r7⟩ := pair_mem HRV.out (i := ii) (p := pp) (by rw [HPE.out, ← hpp]; exact List.getElem_mem _)
              obtain ⟨pb, po, eA, hpl, hpa⟩ := (HPR.out.ext HW.out).elem pr_len hjl pp hpp
              obtain ⟨⟨pt, pb0, pq0, pa0, pp0, pty⟩, ⟨qt, qb0, qq0, qa0, qp0, qty⟩⟩ := pp
              dsimp only at r3 r4 r5 r6 r7
              obtain rfl : pty = qty := r5.symm
              have HR1 := hid r1
              have HR2 := hid r2
              have HIN4 := hid r7
              subst eA
              have hpr : wr.rangeAt pb (po + j * 12) [.bool pt, .int .i64 pb0, .int .i64 pq0, .int .i64 pa0, .int .i64 pp0, .int .i64 pty] := fun t u ht => hpa t u (by rw [show PrF (⟨pt, pb0, pq0, pa0, pp0, pty⟩, ⟨qt, qb0, qq0, qa0, qp0, pty⟩) = [.bool pt, .int .i64 pb0, .int .i64 pq0, .int .i64 pa0, .int .i64 pp0, .int .i64 pty] ++ [.bool qt, .int .i64 qb0, .int .i64 qq0, .int .i64 qa0, .int .i64 qp0, .int .i64 pty] from rfl, List.getElem?_append_left (List.getElem?_eq_some_iff.1 ht).1]; exact ht)
              have hpr2 : wr.rangeAt pb (po + j * 12 + 6) [.bool qt, .int .i64 qb0, .int .i64 qq0, .int .i64 qa0, .int .i64 qp0, .int .i64 pty] := fun t u ht => by
                have h9 := hpa (6 + t) u (by rw [show PrF (⟨pt, pb0, pq0, pa0, pp0, pty⟩, ⟨qt, qb0, qq0, qa0, qp0, pty⟩) = [.bool pt, .int .i64 pb0, .int .i64 pq0, .int .i64 pa0, .int .i64 pp0, .int .i64 pty] ++ [.bool qt, .int .i64 qb0, .int .i64 qq0, .int .i64 qa0, .int .i64 qp0, .int .i64 pty] from rfl, List.getElem?_append_right (Nat.le_add_right 6 t), show 6 + t - ([.bool pt, .int .i64 pb0, .int .i64 pq0, .int .i64 pa0, .int .i64 pp0, .int .i64 pty] : List Value).length = t from Nat.add_sub_cancel_left 6 t]; exact ht)
                rwa [← Nat.add_assoc] at h9
              have z2 : ¬ pty < 2 := by omega
              have z5 : ¬ 5 < pty := by omega
              have z32 : ¬ 32 ≤ qp0 := by omega
              have k5 := hpa 5 _ rfl
              clear hjl hpp r1 r2 r5 r7
              go_upto_region 26 with (fail)
              clear k5
              refine wp_region_step (.rd 0 (.rd 1 (.rd 2 (.rd 3 (.rd 4 (.ac 5 (.rd 6 (.rd 7 (.rd 8 (.rd 9 (.rd 10 (.rd 11 (.rd 12 (.ac 13 (.rd 14 (.rd 15 (.rd 16 (.rd 17 (.rd 18 (.rd 19 (.rd 20 (.rd 21 (.rd 22 (.rd 23 (.rd 24 (.rd 25 (.rd 26 (.rd 27 (.rd 28 (.rd 29 (.rd 30 (.rd 31 (.rd 32 (.rd 33 (.rd 34 (.rd 35 (.rd 36 (.rd 37 (.rd 38 (.rd 39 (.rd 40 (.rd 41 (.rd 42 (.rd 43 (.rd 44 (.rd 45 (.rd 46 (.rd 47 (.rd 48 (.rd 49 (.rd 50 (.rd 51 (.rd 52 (.rd 53 (.rd 54 (.ac 55 (.rd 56 (.rd 57 .done)))))))))))))))))))))))))))))))))))))))))))))))))))))))))) (by kernel_rfl) (by kernel_rfl) (fun _ _ d _ _ h => by cases d <;> exact h) (by simp only [Ord.map, nthOp, List.append]; rfl) ?_
              intro d0
              have HU0 := hid (Ext.grow (Ext.refl wr) d0)
              generalize Go.Proofs.Ytgldlkoohfclpaa.grow wr d0 = U0 at HU0 ⊢
              have k0 := (HU0.out.cells _ _ hpl).trans (hpa 0 _ rfl)
              have k1 := (HU0.out.cells _ _ hpl).trans (hpa 1 _ rfl)
              have k2 := (HU0.out.cells _ _ hpl).trans (hpa 2 _ rfl)
              have k3 := (HU0.out.cells _ _ hpl).trans (hpa 3 _ rfl)
              have k4 := (HU0.out.cells _ _ hpl).trans (hpa 4 _ rfl)
              have k5 := (HU0.out.cells _ _ hpl).trans (hpa 5 _ rfl)
              have k6 := (HU0.out.cells _ _ hpl).trans (hpa 6 _ rfl)
              have k7 := (HU0.out.cells _ _ hpl).trans (hpa 7 _ rfl)
              have k8 := (HU0.out.cells _ _ hpl).trans (hpa 8 _ rfl)
              have k9 := (HU0.out.cells _ _ hpl).trans (hpa 9 _ rfl)
              have k10 := (HU0.out.cells _ _ hpl).trans (hpa 10 _ rfl)
              have k11 := (HU0.out.cells _ _ hpl).trans (hpa 11 _ rfl)
              simp only [Nat.add_zero] at k0
              have hpl0 := Nat.lt_of_lt_of_le hpl HU0.out.size
              refine step_read (by rfl) (fun K hK => ?_)
              go_big_quiet_op
              refine hK _ ?_
              clear hK K
              refine step_read (by rfl) (fun K hK => ?_)
              go_big_quiet_op
              refine hK _ ?_
              clear hK K
              refine step_read (by rfl) (fun K hK => ?_)
              go_big_quiet_op
              refine hK _ ?_
              clear hK K
              refine step_read (by rfl) (fun K hK => ?_)
              go_big_quiet_op
              refine hK _ ?_
              clear hK K
              refine step_read (by rfl) (fun K hK => ?_)
              refine quiet_loadC 39 (.tmp 155) rfl (pb) (po + j * 12) rfl [.bool pt, .int .i64 pb0, .int .i64 pq0, .int .i64 pa0, .int .i64 pp0, .int .i64 pty] _ (fun w' hw' => (by obtain ⟨dd, rfl⟩ := hw'; exact (fun q u hq => ((HU0.out.trans (Ext.grow (Ext.refl _) dd)).cells _ _ hpl).trans (hpr q u hq)))) Try.underlying39 rfl (by kernel_rfl) ?_
              refine hK _ ?_
              clear hK K
              simp only [Act.put, List.setIfInBounds_toArray, List.set_cons_zero, List.set_cons_succ]
              refine step_act (by rfl) (fun K hK => ?_)
              go_wp2_with (go_at_call 27; refine (rcapRight pt pb0 pq0 pa0 pp0 pty U0).mono ?_; rintro e U1 ⟨he, hx⟩; rw [HR1.out] at he; subst he)
              refine ⟨_, hx, Ext.refl _, ?_⟩
              have HU1 := hid (HU0.out.trans hx)
              have hxa5 := hx
              clear hx
              replace k0 := (HU1.out.cells _ _ hpl).trans (hpa 0 _ rfl)
              replace k1 := (HU1.out.cells _ _ hpl).trans (hpa 1 _ rfl)
              replace k2 := (HU1.out.cells _ _ hpl).trans (hpa 2 _ rfl)
              replace k3 := (HU1.out.cells _ _ hpl).trans (hpa 3 _ rfl)
              replace k4 := (HU1.out.cells _ _ hpl).trans (hpa 4 _ rfl)
              replace k5 := (HU1.out.cells _ _ hpl).trans (hpa 5 _ rfl)
              replace k6 := (HU1.out.cells _ _ hpl).trans (hpa 6 _ rfl)
              replace k7 := (HU1.out.cells _ _ hpl).trans (hpa 7 _ rfl)
              replace k8 := (HU1.out.cells _ _ hpl).trans (hpa 8 _ rfl)
              replace k9 := (HU1.out.cells _ _ hpl).trans (hpa 9 _ rfl)
              replace k10 := (HU1.out.cells _ _ hpl).trans (hpa 10 _ rfl)
              replace k11 := (HU1.out.cells _ _ hpl).trans (hpa 11 _ rfl)
              simp only [Nat.add_zero] at k0
              replace hpl0 := Nat.lt_of_lt_of_le hpl HU1.out.size
              refine step_read (by rfl) (fun K hK => ?_)
              go_big_quiet_op
              refine hK _ ?_
              clear hK K
              refine step_read (by rfl) (fun K hK => ?_)
              go_big_quiet_op
              refine hK _ ?_
              clear hK K
              refine step_read (by rfl) (fun K hK => ?_)
              go_big_quiet_op
              refine hK _ ?_
              clear hK K
              refine step_read (by rfl) (fun K hK => ?_)
              go_big_quiet_op
              refine hK _ ?_
              clear hK K
              refine step_read (by rfl) (fun K hK => ?_)
              go_big_quiet_op
              refine hK _ ?_
              clear hK K
              refine step_read (by rfl) (fun K hK => ?_)
              go_big_quiet_op
              refine hK _ ?_
              clear hK K
              refine step_read (by rfl) (fun K hK => ?_)
              refine quiet_loadC 39 (.tmp 163) rfl (pb) (po + j * 12 + 6) rfl [.bool qt, .int .i64 qb0, .int .i64 qq0, .int .i64 qa0, .int .i64 qp0, .int .i64 pty] _ (fun w' hw' => (by obtain ⟨dd, rfl⟩ := hw'; exact (fun q u hq => ((HU1.out.trans (Ext.grow (Ext.refl _) dd)).cells _ _ hpl).trans (hpr2 q u hq)))) Try.underlying39 rfl (by kernel_rfl) ?_
              refine hK _ ?_
              clear hK K
              simp only [Act.put, List.setIfInBounds_toArray, List.set_cons_zero, List.set_cons_succ]
              refine step_act (by rfl) (fun K hK => ?_)
              go_wp2_with (go_at_call 27; refine (rcapRight qt qb0 qq0 qa0 qp0 pty U1).mono ?_; rintro e U2 ⟨he, hx⟩; rw [HR2.out] at he; subst he)
              refine ⟨_, hx, Ext.refl _, ?_⟩
              have HU2 := hid (HU1.out.trans hx)
              have hxa13 := hx
              clear hx
              replace k0 := (HU2.out.cells _ _ hpl).trans (hpa 0 _ rfl)
              replace k1 := (HU2.out.cells _ _ hpl).trans (hpa 1 _ rfl)
              replace k2 := (HU2.out.cells _ _ hpl).trans (hpa 2 _ rfl)
              replace k3 := (HU2.out.cells _ _ hpl).trans (hpa 3 _ rfl)
              replace k4 := (HU2.out.cells _ _ hpl).trans (hpa 4 _ rfl)
              replace k5 := (HU2.out.cells _ _ hpl).trans (hpa 5 _ rfl)
              replace k6 := (HU2.out.cells _ _ hpl).trans (hpa 6 _ rfl)
              replace k7 := (HU2.out.cells _ _ hpl).trans (hpa 7 _ rfl)
              replace k8 := (HU2.out.cells _ _ hpl).trans (hpa 8 _ rfl)
              replace k9 := (HU2.out.cells _ _ hpl).trans (hpa 9 _ rfl)
              replace k10 := (HU2.out.cells _ _ hpl).trans (hpa 10 _ rfl)
              replace k11 := (HU2.out.cells _ _ hpl).trans (hpa 11 _ rfl)
              simp only [Nat.add_zero] at k0
              replace hpl0 := Nat.lt_of_lt_of_le hpl HU2.out.size
              refine step_read (by rfl) (fun K hK => ?_)
              go_big_quiet_op
              refine hK _ ?_
              clear hK K
              refine step_read (by rfl) (fun K hK => ?_)
              go_big_quiet_op
              refine hK _ ?_
              clear hK K
              refine step_read (by rfl) (fun K hK => ?_)
              go_big_quiet_op
              refine hK _ ?_
              clear hK K
              refine step_read (by rfl) (fun K hK => ?_)
              go_big_quiet_op
              refine hK _ ?_
              clear hK K
              refine step_read (by rfl) (fun K hK => ?_)
              refine quiet_runD 170 rfl (.bool false) (fun w => by first | (go_simp; done) | (go_simp; exact decide_eq_false z2)) ?_
              refine hK _ ?_
              clear hK K
              simp only [Act.put, List.setIfInBounds_toArray, List.set_cons_zero, List.set_cons_succ]
              refine step_read (by rfl) (fun K hK => ?_)
              go_big_quiet_op
              refine hK _ ?_
              clear hK K
              refine step_read (by rfl) (fun K hK => ?_)
              go_big_quiet_op
              refine hK _ ?_
              clear hK K
              refine step_read (by rfl) (fun K hK => ?_)
              go_big_quiet_op
              refine hK _ ?_
              clear hK K
              refine step_read (by rfl) (fun K hK => ?_)
              refine quiet_runD 174 rfl (.bool false) (fun w => by first | (go_simp; done) | (go_simp; exact decide_eq_false z5)) ?_
              refine hK _ ?_
              clear hK K
              simp only [Act.put, List.setIfInBounds_toArray, List.set_cons_zero, List.set_cons_succ]
              refine step_read (by rfl) (fun K hK => ?_)
              go_big_quiet_op
              refine hK _ ?_
              clear hK K
              refine step_read (by rfl) (fun K hK => ?_)
              go_big_quiet_op
              refine hK _ ?_
              clear hK K
              refine step_read (by rfl) (fun K hK => ?_)
              go_big_quiet_op
              refine hK _ ?_
              clear hK K
              refine step_read (by rfl) (fun K hK => ?_)
              go_big_quiet_op
              refine hK _ ?_
              clear hK K
              refine step_read (by rfl) (fun K hK => ?_)
              go_big_quiet_op
              refine hK _ ?_
              clear hK K
              refine step_read (by rfl) (fun K hK => ?_)
              go_big_quiet_op
              refine hK _ ?_
              clear hK K
              refine step_read (by rfl) (fun K hK => ?_)
              go_big_quiet_op
              refine hK _ ?_
              clear hK K
              refine step_read (by rfl) (fun K hK => ?_)
              go_big_quiet_op
              refine hK _ ?_
              clear hK K
              refine step_read (by rfl) (fun K hK => ?_)
              go_big_quiet_op
              refine hK _ ?_
              clear hK K
              refine step_read (by rfl) (fun K hK => ?_)
              refine quiet_runD 184 rfl (.bool false) (fun w => by go_simp) ?_
              refine hK _ ?_
              clear hK K
              simp only [Act.put, List.setIfInBounds_toArray, List.set_cons_zero, List.set_cons_succ]
              refine step_read (by rfl) (fun K hK => ?_)
              go_big_quiet_op
              refine hK _ ?_
              clear hK K
              refine step_read (by rfl) (fun K hK => ?_)
              go_big_quiet_op
              refine hK _ ?_
              clear hK K
              refine step_read (by rfl) (fun K hK => ?_)
              go_big_quiet_op
              refine hK _ ?_
              clear hK K
              refine step_read (by rfl) (fun K hK => ?_)
              go_big_quiet_op
              refine hK _ ?_
              clear hK K
              refine step_read (by rfl) (fun K hK => ?_)
              go_big_quiet_op
              refine hK _ ?_
              clear hK K
              refine step_read (by rfl) (fun K hK => ?_)
              go_big_quiet_op
              refine hK _ ?_
              clear hK K
              refine step_read (by rfl) (fun K hK => ?_)
              go_big_quiet_op
              refine hK _ ?_
              clear hK K
              refine step_read (by rfl) (fun K hK => ?_)
              go_big_quiet_op
              refine hK _ ?_
              clear hK K
              refine step_read (by rfl) (fun K hK => ?_)
              refine quiet_runD 193 rfl (.bool false) (fun w => by first | (go_simp; done) | (go_simp; exact decide_eq_false z32)) ?_
              refine hK _ ?_
              clear hK K
              simp only [Act.put, List.setIfInBounds_toArray, List.set_cons_zero, List.set_cons_succ]
              refine step_read (by rfl) (fun K hK => ?_)
              go_big_quiet_op
              refine hK _ ?_
              clear hK K
              refine step_read (by rfl) (fun K hK => ?_)
              go_big_quiet_op
              refine hK _ ?_
              clear hK K
              refine step_read (by rfl) (fun K hK => ?_)
              go_big_quiet_op
              refine hK _ ?_
              clear hK K
              refine step_read (by rfl) (fun K hK => ?_)
              go_big_quiet_op
              refine hK _ ?_
              clear hK K
              refine step_read (by rfl) (fun K hK => ?_)
              go_big_quiet_op
              refine hK _ ?_
              clear hK K
              refine step_read (by rfl) (fun K hK => ?_)
              go_big_quiet_op
              refine hK _ ?_
              clear hK K
              refine step_read (by rfl) (fun K hK => ?_)
              refine quiet_loadC 39 (.tmp 199) rfl (pb) (po + j * 12) rfl [.bool pt, .int .i64 pb0, .int .i64 pq0, .int .i64 pa0, .int .i64 pp0, .int .i64 pty] _ (fun w' hw' => (by obtain ⟨dd, rfl⟩ := hw'; exact (fun q u hq => ((HU2.out.trans (Ext.grow (Ext.refl _) dd)).cells _ _ hpl).trans (hpr q u hq)))) Try.underlying39 rfl (by kernel_rfl) ?_
              refine hK _ ?_
              clear hK K
              simp only [Act.put, List.setIfInBounds_toArray, List.set_cons_zero, List.set_cons_succ]
              refine step_read (by rfl) (fun K hK => ?_)
              go_big_quiet_op
              refine hK _ ?_
              clear hK K
              refine step_read (by rfl) (fun K hK => ?_)
              go_big_quiet_op
              refine hK _ ?_
              clear hK K
              refine step_read (by rfl) (fun K hK => ?_)
              go_big_quiet_op
              refine hK _ ?_
              clear hK K
              refine step_read (by rfl) (fun K hK => ?_)
              go_big_quiet_op
              refine hK _ ?_
              clear hK K
              refine step_read (by rfl) (fun K hK => ?_)
              go_big_quiet_op
              refine hK _ ?_
              clear hK K
              refine step_read (by rfl) (fun K hK => ?_)
              go_big_quiet_op
              refine hK _ ?_
              clear hK K
              refine step_act (by rfl) (fun K hK => ?_)
              go_wp2_with (go_at_call 28; refine (rcapIn pt pb0 pq0 pa0 pp0 pty pa0 4 U2).mono ?_; rintro e U3 ⟨he, hx⟩; rw [HIN4.out] at he; subst he)
              refine ⟨_, hx, Ext.refl _, ?_⟩
              have HU3 := hid (HU2.out.trans hx)
              have hxa55 := hx
              clear hx
              replace k0 := (HU3.out.cells _ _ hpl).trans (hpa 0 _ rfl)
              replace k1 := (HU3.out.cells _ _ hpl).trans (hpa 1 _ rfl)
              replace k2 := (HU3.out.cells _ _ hpl).trans (hpa 2 _ rfl)
              replace k3 := (HU3.out.cells _ _ hpl).trans (hpa 3 _ rfl)
              replace k4 := (HU3.out.cells _ _ hpl).trans (hpa 4 _ rfl)
              replace k5 := (HU3.out.cells _ _ hpl).trans (hpa 5 _ rfl)
              replace k6 := (HU3.out.cells _ _ hpl).trans (hpa 6 _ rfl)
              replace k7 := (HU3.out.cells _ _ hpl).trans (hpa 7 _ rfl)
              replace k8 := (HU3.out.cells _ _ hpl).trans (hpa 8 _ rfl)
              replace k9 := (HU3.out.cells _ _ hpl).trans (hpa 9 _ rfl)
              replace k10 := (HU3.out.cells _ _ hpl).trans (hpa 10 _ rfl)
              replace k11 := (HU3.out.cells _ _ hpl).trans (hpa 11 _ rfl)
              simp only [Nat.add_zero] at k0
              replace hpl0 := Nat.lt_of_lt_of_le hpl HU3.out.size
              refine step_read (by rfl) (fun K hK => ?_)
              go_big_quiet_op
              refine hK _ ?_
              clear hK K
              refine step_read (by rfl) (fun K hK => ?_)
              go_big_quiet_op
              refine hK _ ?_
              clear hK K
              refine step_nil ?_
              replace HW := hid (HW.out.trans HU3.out)
              generalize U3 = WP at HW ⊢
              clear HR1 HR2 HIN4 hpl hpa hpr hpr2 hpl0 k0 k1 k2 k3 k4 k5 k6 k7 k8 k9 k10 k11 z2 z5 z32 r6
              go_wp2
              go_loopw [18] (fun i wr => ∃ (l : Nat), l ≤ hn ∧ i = .int .i64 l ∧ Hid (Ext W6 wr)) (fun i _ => hn - (intOf i).toNat)
              case atStart => exact ⟨0, Nat.zero_le _, rfl, HW⟩
              case round =>
                clear HW
                obtain ⟨l, hl, rfl, HW⟩ := hrel
                by_cases hlt2 : l < hn
                · have hl1 : (l : Int) < (hn : Int) := by omega
                  have hl0 : (0 : Int) ≤ (l : Int) := by omega
                  have hll : l < Hh.length := by rw [HHN.out]; exact hlt2
                  obtain ⟨h, hhh⟩ : ∃ y, Hh[l] = y := ⟨_, rfl⟩
                  have HSL := hid (grant_seal HRV.out HK1.out (c := h) (by rw [HHE.out, ← hhh]; exact List.getElem_mem _) r4)
                  obtain ⟨hb, ho, eB, hhl, hhr⟩ := (HHR.out.ext HW.out).elem cap_len hll h hhh
                  obtain ⟨htag, hb0, ht0, ha0, hp0, hty⟩ := h
                  subst eB
                  dsimp only at HSL
                  have h0 := hhr 0 _ rfl
                  have h1 := hhr 1 _ rfl
                  have h2 := hhr 2 _ rfl
                  have h3 := hhr 3 _ rfl
                  have h4 := hhr 4 _ rfl
                  have h5 := hhr 5 _ rfl
                  simp only [Nat.add_zero] at h0
                  clear hhr hll hhh
                  by_cases c1 : 32 ≤ hp0
                  · have HSF := hid (HSL.out c1)
                    go_wp2_with fail
                    refine (rcapIn htag hb0 ht0 ha0 hp0 hty pty 1 wr).mono ?_
                    rintro e WQ ⟨he, hx⟩
                    rw [HSF.out] at he
                    subst he
                    replace HW := hid (HW.out.trans hx)
                    clear hx HSF h0 h1 h2 h3 h4 h5 hhl
                    go_wp2
                    go_roundw
                    case rel => exact ⟨l + 1, by omega, by go_num, HW⟩
                    case measure => simp [intOf]; omega
                  · go_wp2
                    go_roundw
                    case rel => exact ⟨l + 1, by omega, by go_num, HW⟩
                    case measure => simp [intOf]; omega
                · obtain rfl : hn = l := by omega
                  have hl1 : ¬ (hn : Int) < (hn : Int) := by omega
                  go_wp2
                  go_roundw
                  case rel => exact ⟨j + 1, by omega, by go_num, HW⟩
                  case measure => simp [intOf]; omega
            · obtain rfl : pn = j := by omega
              have hj3 : ¬ (pn : Int) < (pn : Int) := by omega
              go_wp2
              go_ret
              exact ⟨rfl, HV.out.trans HW.out⟩
end imageOwn

end Go.Proofs.Ytgldlkoohfclpaa
