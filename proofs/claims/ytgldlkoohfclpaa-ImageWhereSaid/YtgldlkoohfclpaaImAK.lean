/- Layer 17: the document: Grants. -/
import Derived.Test.YtgldlkoohfclpaaImAJ
import Derived.Test.YtgldlkoohfclpaaImN
namespace Go.Proofs.Ytgldlkoohfclpaa
set_option linter.unusedSimpArgs false
set_option linter.unusedVariables false
open Go.RowKit

set_option maxRecDepth 100000 in
set_option maxHeartbeats 4000000 in
theorem rgrants_ (x : Img) (n : Int) (w : World) (h : ImgAt w x) (hc : x.comps.length ≤ 100000) (hl : x.links.length ≤ 100000) (hs : x.shares.length ≤ 100000) (hw : ∀ s ∈ x.shares, -9223372036854775808 ≤ s.wr_ ∧ s.wr_ ≤ 9223372036854775807) : Calls Try.prog 26 #[.agg #[.bool x.strict, .int .i64 x.heap, .int .i64 x.full, .slice x.C x.comps.length x.cc, .slice x.L x.links.length x.lc, .slice x.S x.shares.length x.sc], .int .i64 n] w fun e w' => ∃ A ca, e = .returned (.slice A (grantV x n).length ca) ∧ Hid (RdF Cap.cells w' A (grantV x n)) ∧ Hid (Ext w w') := by
  have HRT := hid (show ∀ W, Ext w W → Calls Try.prog 15 #[.agg #[.bool x.strict, .int .i64 x.heap, .int .i64 x.full, .slice x.C x.comps.length x.cc, .slice x.L x.links.length x.lc, .slice x.S x.shares.length x.sc]] W fun e w' => e = .returned (.bool (rightV x)) ∧ Ext W w' from fun W hx => rright_ x W (h.ext hx) hc hl hs hw)
  have HWH := hid (show ∀ W, Ext w W → _ from fun W hx => rwhere_ x W (h.ext hx) hc hl hs hw)
  have HPV := hid (show grantV x n = if (rightV x && !outB n 0 ((x.comps.length : Int) - 1)) = true then _ else [] from rfl)
  have HOT := hid (show (!outB n 0 ((x.comps.length : Int) - 1)) = (!decide (n < 0) && !decide (n ≥ (x.comps.length : Int))) by
    unfold outB
    rw [Bool.not_or]
    congr 2
    exact decide_eq_decide.2 (by omega))
  have HSH := hid (show rightV x = true → ∀ s ∈ x.shares, 0 ≤ s.rd ∧ s.rd ≤ 15 ∧ 0 ≤ s.wr_ ∧ s.wr_ ≤ 15 from fun hvt s hm => by
    obtain ⟨hn5, _, _, hsh⟩ := rightV_ok hvt
    have h1 := hsh s hm
    unfold shOk at h1
    simp only [List.any_cons, List.any_nil, id, Bool.not_eq_true', Bool.or_eq_false_iff, Bool.or_false] at h1
    obtain ⟨h2, h3⟩ := h1
    have h4 := outB_no h2
    have h5 : (2 : Int) ^ x.comps.length - 1 ≤ 15 := by
      rcases (show x.comps.length = 1 ∨ x.comps.length = 2 ∨ x.comps.length = 3 ∨ x.comps.length = 4 by omega) with e | e | e | e <;> rw [e] <;> decide
    have h6 : bits .andNot .i64 s.wr_ s.rd = 0 := by simpa using h3
    have h7 := andNot_le (hw s hm) ⟨h4.1, by omega⟩ h6
    exact ⟨h4.1, by omega, h7.1, h7.2⟩)
  have HLO := hid (show rightV x = true → _ from fun hvt => layV_ok hvt)
  have HM4 := hid (show rightV x = true → x.comps.length ≤ 4 ∧ x.shares.length ≤ 4 from fun hvt => by have := (rightV_ok hvt).1; omega)
  have HSS := hid h.s
  obtain ⟨t, ht⟩ : ∃ y, layV x = y := ⟨_, rfl⟩
  rw [ht] at HWH HPV HLO
  obtain ⟨PV, hPV⟩ : ∃ y, grantV x n = y := ⟨_, rfl⟩
  rw [hPV] at HPV ⊢
  obtain ⟨v, hv⟩ : ∃ y, rightV x = y := ⟨_, rfl⟩
  rw [hv] at HRT HWH HPV HLO HM4 HSH
  obtain ⟨m, hm⟩ : ∃ y, x.comps.length = y := ⟨_, rfl⟩
  obtain ⟨ml, hml⟩ : ∃ y, x.links.length = y := ⟨_, rfl⟩
  obtain ⟨ms, hms⟩ : ∃ y, x.shares.length = y := ⟨_, rfl⟩
  obtain ⟨Ca, hCa⟩ : ∃ y, x.C = y := ⟨_, rfl⟩
  obtain ⟨La, hLa⟩ : ∃ y, x.L = y := ⟨_, rfl⟩
  obtain ⟨Sa, hSa⟩ : ∃ y, x.S = y := ⟨_, rfl⟩
  rw [hm, hml, hms, hCa, hLa, hSa] at HRT HWH
  rw [hm] at HPV HLO HM4 HOT
  rw [hms] at HLO HM4
  rw [hSa] at HSS
  have HMS := hid hms
  rw [HOT.out] at HPV
  rw [hm, hml, hms, hCa, hLa, hSa]
  clear hm hml hms hCa hLa hSa h hl hs hc hv hPV ht hw HOT
  go_enter Try.func26, Try.ntmps26
  go_upto_region 1 with (fail)
  refine wp_gen (fun V => Hid (Ext w V) ∧ Hid (Row V w.heap.size 0 [.bool x.strict, .int .i64 x.heap, .int .i64 x.full, .slice Ca m x.cc, .slice La ml x.lc, .slice Sa ms x.sc])) ⟨hid (by repeat (first | (with_reducible exact Ext.refl _) | (with_reducible refine Ext.undrew ?_) | (with_reducible refine Ext.grow ?_ _) | (with_reducible refine Ext.drew ?_) | (with_reducible refine Ext.drewN ?_ _) | (with_reducible refine Ext.alloc ?_ _) | (with_reducible assumption) | ((with_reducible refine Ext.setCell ?_ ?_ _); rotate_left; (first | exact Nat.le_refl _ | ((try dsimp only); (try simp only [World.size_alloc, grow_size, World.size_setCell]); omega))))), hid (Row.new w _ _)⟩ ?_
  rintro V ⟨HV, HR0⟩
  obtain ⟨p, hp0⟩ : ∃ y, w.heap.size = y := ⟨_, rfl⟩
  rw [hp0] at HR0 ⊢
  clear hp0
  have q := HR0.out
  have ql := q.lt
  have qc0 := q.range 0 _ rfl
  have qc1 := q.range 1 _ rfl
  have qc2 := q.range 2 _ rfl
  have qc3 := q.range 3 _ rfl
  have qc4 := q.range 4 _ rfl
  have qc5 := q.range 5 _ rfl
  simp only [Nat.zero_add] at qc1 qc2 qc3 qc4 qc5
  clear q
  go_wp2_with fail
  refine (HRT.out V HV.out).mono ?_
  rintro e W1 ⟨rfl, hx⟩
  have HE := hid (HV.out.trans hx)
  replace HR0 := hid (HR0.out.ext hx)
  clear hx HRT ql qc0 qc1 qc2 qc3 qc4 qc5
  have q := HR0.out
  have ql := q.lt
  have qc0 := q.range 0 _ rfl
  have qc1 := q.range 1 _ rfl
  have qc2 := q.range 2 _ rfl
  have qc3 := q.range 3 _ rfl
  have qc4 := q.range 4 _ rfl
  have qc5 := q.range 5 _ rfl
  simp only [Nat.zero_add] at qc1 qc2 qc3 qc4 qc5
  clear q
  cases v with
  | false =>
    replace HPV := hid (HPV.out.trans (if_neg (by simp)))
    go_wp2
    go_ret
    exact ⟨none, 0, by rw [HPV.out]; rfl, hid (by rw [HPV.out]; exact RdF.nil _ _), HE⟩
  | true =>
    by_cases hn0 : n < 0
    · replace HPV := hid (HPV.out.trans (if_neg (by simp [hn0])))
      go_wp2
      go_ret
      exact ⟨none, 0, by rw [HPV.out]; rfl, hid (by rw [HPV.out]; exact RdF.nil _ _), HE⟩
    · by_cases hnm : n ≥ (m : Int)
      · replace HPV := hid (HPV.out.trans (if_neg (by simp [hnm])))
        go_wp2
        go_ret
        exact ⟨none, 0, by rw [HPV.out]; rfl, hid (by rw [HPV.out]; exact RdF.nil _ _), HE⟩
      · replace HPV := hid (HPV.out.trans (if_pos (by simp [hn0, hnm])))
        obtain ⟨k, rfl⟩ := Int.eq_ofNat_of_zero_le (show 0 ≤ n by omega)
        rw [Int.toNat_natCast] at HPV
        have hk0 : (0 : Int) ≤ (k : Int) := by omega
        have hkm : k < m := by omega
        obtain ⟨q0, q1, q2, q3, HC9, HS9⟩ := HLO.out rfl
        replace HC9 := hid HC9
        replace HS9 := hid HS9
        replace HSH := hid (HSH.out rfl)
        obtain ⟨hm4, hs4⟩ := HM4.out rfl
        clear HLO HM4
        go_wp2_with fail
        refine (HWH.out W1 HE.out).mono ?_
        rintro e W2 ⟨h9, hx⟩
        rcases h9 with ⟨h9, _⟩ | ⟨_, y, rfl, HY⟩
        · cases h9
        obtain ⟨q', base, vc, vd, vh, vs⟩ := y
        obtain ⟨B0, b0, rfl, _, _⟩ := HY.out.o0.shape
        obtain ⟨B1, b1, rfl, _, _⟩ := HY.out.o1.shape
        obtain ⟨B2, b2, rfl, _, _⟩ := HY.out.o2.shape
        obtain ⟨B3, b3, rfl, _, _⟩ := HY.out.o3.shape
        have HRC := hid (HY.out.o0.rdF rfl)
        have HRD := hid (HY.out.o1.rdF rfl)
        have HRS := hid (HY.out.o3.rdF rfl)
        have HE2 := hid (HE.out.trans hx.out)
        replace HR0 := hid (HR0.out.ext hx.out)
        obtain ⟨n0, hn0'⟩ : ∃ y, t.C.length = y := ⟨_, rfl⟩
        obtain ⟨n1, hn1'⟩ : ∃ y, t.D.length = y := ⟨_, rfl⟩
        obtain ⟨n2, hn2'⟩ : ∃ y, t.H.length = y := ⟨_, rfl⟩
        obtain ⟨n3, hn3'⟩ : ∃ y, t.S.length = y := ⟨_, rfl⟩
        have HN3 := hid hn3'
        have hk0l : k < t.C.length := by omega
        have hk1l : k < t.D.length := by omega
        have hki0 : (k : Int) < (n0 : Int) := by omega
        have hki1 : (k : Int) < (n1 : Int) := by omega
        rw [hn0', hn1', hn2', hn3']
        rw [hn3'] at q3
        have Q3 := hid q3
        clear hx HY HWH ql qc0 qc1 qc2 qc3 qc4 qc5 hn0' hn1' hn2' hn3' q0 q1 q2 q3 HE
        go_upto_region 4 with (fail)
        refine wp_gen (fun W => Hid (Ext W2 W) ∧ Hid (Row W W2.heap.size 0 [.slice B0 n0 b0, .slice B1 n1 b1, .slice B2 n2 b2, .slice B3 n3 b3, .int .i64 t.pg])) ⟨hid ((Ext.refl _).alloc _), hid (Row.new W2 _ _)⟩ ?_
        rintro W4 ⟨hx4, HR5⟩
        replace HRC := hid (HRC.out.ext hx4.out)
        replace HRD := hid (HRD.out.ext hx4.out)
        replace HRS := hid (HRS.out.ext hx4.out)
        replace HR0 := hid (HR0.out.ext hx4.out)
        have HE4 := hid (HE2.out.trans hx4.out)
        obtain ⟨p5, hp5⟩ : ∃ y, W2.heap.size = y := ⟨_, rfl⟩
        rw [hp5] at HR5 ⊢
        clear hx4 hp5 HE2
        obtain ⟨a, ha⟩ : ∃ y, t.C[k] = y := ⟨_, rfl⟩
        obtain ⟨b, hb⟩ : ∃ y, t.D[k] = y := ⟨_, rfl⟩
        have HPO := hid (show rowF Cap.cells (ownC t k) = [.bool true, .int .i64 a.lo, .int .i64 a.hi, .int .i64 a.lo, .int .i64 5, .int .i64 0, .bool true, .int .i64 b.lo, .int .i64 b.hi, .int .i64 b.lo, .int .i64 27, .int .i64 0, .bool true, .int .i64 (16 + (k : Int)), .int .i64 (17 + (k : Int)), .int .i64 (16 + (k : Int)), .int .i64 96, .int .i64 0] by
          unfold ownC
          rw [List.getD_eq_getElem?_getD, List.getD_eq_getElem?_getD, List.getElem?_eq_getElem hk0l, List.getElem?_eq_getElem hk1l, ha, hb, show (16 : Int) + (k : Int) + 1 = 17 + (k : Int) by omega]
          rfl)
        obtain ⟨c0', d0', eC, hb0l, hr0⟩ := HRC.out.elem sp_len hk0l a ha
        obtain ⟨c1', d1', eD, hb1l, hr1⟩ := HRD.out.elem sp_len hk1l b hb
        have ea0 := hr0 0 _ rfl
        have ea1 := hr0 1 _ rfl
        have eb0 := hr1 0 _ rfl
        have eb1 := hr1 1 _ rfl
        simp only [Nat.add_zero] at ea0 eb0
        subst eC
        subst eD
        clear hr0 hr1 ha hb hk0l hk1l HRC HRD
        have r := HR5.out
        have rl := r.lt
        have rc0 := r.range 0 _ rfl
        have rc1 := r.range 1 _ rfl
        have rc2 := r.range 2 _ rfl
        have rc3 := r.range 3 _ rfl
        have rc4 := r.range 4 _ rfl
        simp only [Nat.zero_add] at rc1 rc2 rc3 rc4
        clear r
        go_upto_region 4 with (fail)
        refine wp_region_step (.rd 0 (.rd 1 (.rd 2 (.rd 3 (.rd 4 (.rd 5 (.rd 6 (.rd 7 (.rd 8 (.rd 9 (.rd 10 (.rd 11 (.rd 13 (.rd 14 (.rd 15 (.rd 16 (.rd 17 (.rd 18 (.rd 19 (.rd 20 (.rd 21 (.rd 22 (.rd 23 (.rd 24 (.rd 26 (.rd 27 (.rd 28 (.rd 29 (.ac 12 (.ac 25 (.ac 30 (.ac 31 (.rd 32 .done))))))))))))))))))))))))))))))))) (by kernel_rfl) (by kernel_rfl) (fun _ _ d _ _ h => by cases d <;> exact h) (by simp only [Ord.map, nthOp, List.append]; rfl) ?_
        intro d0
        have HU0 := hid (Ext.grow (Ext.refl W4) d0)
        generalize Go.Proofs.Ytgldlkoohfclpaa.grow W4 d0 = U0 at HU0 ⊢
        have hcl := Nat.lt_of_lt_of_le hb0l HU0.out.size
        have ca0 := (HU0.out.cells _ _ hb0l).trans ea0
        have ca1 := (HU0.out.cells _ _ hb0l).trans ea1
        have hdl := Nat.lt_of_lt_of_le hb1l HU0.out.size
        have cb0 := (HU0.out.cells _ _ hb1l).trans eb0
        have cb1 := (HU0.out.cells _ _ hb1l).trans eb1
        have h5l := Nat.lt_of_lt_of_le rl HU0.out.size
        have h50 := (HU0.out.cells _ _ rl).trans rc0
        have h51 := (HU0.out.cells _ _ rl).trans rc1
        clear rl rc0 rc1 rc2 rc3 rc4
        refine step_read (by rfl) (fun K hK => ?_)
        go_big_quiet_op
        refine hK _ ?_
        clear hK K
        refine step_read (by rfl) (fun K hK => ?_)
        go_big_quiet_op
        refine hK _ ?_
        clear hK K
        refine step_read (by rfl) (fun K hK => ?_)
        go_big_quiet_op
        refine hK _ ?_
        clear hK K
        refine step_read (by rfl) (fun K hK => ?_)
        go_big_quiet_op
        refine hK _ ?_
        clear hK K
        refine step_read (by rfl) (fun K hK => ?_)
        go_big_quiet_op
        refine hK _ ?_
        clear hK K
        refine step_read (by rfl) (fun K hK => ?_)
        go_big_quiet_op
        refine hK _ ?_
        clear hK K
        refine step_read (by rfl) (fun K hK => ?_)
        go_big_quiet_op
        refine hK _ ?_
        clear hK K
        refine step_read (by rfl) (fun K hK => ?_)
        go_big_quiet_op
        refine hK _ ?_
        clear hK K
        refine step_read (by rfl) (fun K hK => ?_)
        go_big_quiet_op
        refine hK _ ?_
        clear hK K
        refine step_read (by rfl) (fun K hK => ?_)
        go_big_quiet_op
        refine hK _ ?_
        clear hK K
        refine step_read (by rfl) (fun K hK => ?_)
        go_big_quiet_op
        refine hK _ ?_
        clear hK K
        refine step_read (by rfl) (fun K hK => ?_)
        go_big_quiet_op
        refine hK _ ?_
        clear hK K
        refine step_read (by rfl) (fun K hK => ?_)
        go_big_quiet_op
        refine hK _ ?_
        clear hK K
        refine step_read (by rfl) (fun K hK => ?_)
        go_big_quiet_op
        refine hK _ ?_
        clear hK K
        refine step_read (by rfl) (fun K hK => ?_)
        go_big_quiet_op
        refine hK _ ?_
        clear hK K
        refine step_read (by rfl) (fun K hK => ?_)
        go_big_quiet_op
        refine hK _ ?_
        clear hK K
        refine step_read (by rfl) (fun K hK => ?_)
        go_big_quiet_op
        refine hK _ ?_
        clear hK K
        refine step_read (by rfl) (fun K hK => ?_)
        go_big_quiet_op
        refine hK _ ?_
        clear hK K
        refine step_read (by rfl) (fun K hK => ?_)
        go_big_quiet_op
        refine hK _ ?_
        clear hK K
        refine step_read (by rfl) (fun K hK => ?_)
        go_big_quiet_op
        refine hK _ ?_
        clear hK K
        refine step_read (by rfl) (fun K hK => ?_)
        go_big_quiet_op
        refine hK _ ?_
        clear hK K
        refine step_read (by rfl) (fun K hK => ?_)
        go_big_quiet_op
        refine hK _ ?_
        clear hK K
        refine step_read (by rfl) (fun K hK => ?_)
        go_big_quiet_op
        refine hK _ ?_
        clear hK K
        refine step_read (by rfl) (fun K hK => ?_)
        go_big_quiet_op
        refine hK _ ?_
        clear hK K
        refine step_read (by rfl) (fun K hK => ?_)
        go_big_quiet_op
        refine hK _ ?_
        clear hK K
        refine step_read (by rfl) (fun K hK => ?_)
        refine quiet_runD 51 rfl (.int .i64 (16 + (k : Int))) (fun w => by go_simp; exact wraps_64 _ (by omega) (by omega)) ?_
        refine hK _ ?_
        clear hK K
        simp only [Act.put, List.setIfInBounds_toArray, List.set_cons_zero, List.set_cons_succ]
        refine step_read (by rfl) (fun K hK => ?_)
        go_big_quiet_op
        refine hK _ ?_
        clear hK K
        refine step_read (by rfl) (fun K hK => ?_)
        refine quiet_runD 53 rfl (.int .i64 (17 + (k : Int))) (fun w => by go_simp; exact wraps_64 _ (by omega) (by omega)) ?_
        refine hK _ ?_
        clear hK K
        simp only [Act.put, List.setIfInBounds_toArray, List.set_cons_zero, List.set_cons_succ]
        refine step_act (by rfl) (fun K hK => ?_)
        go_wp2_with (go_at_call 52; refine (grant17_ a.lo a.hi 5 U0).mono ?_; rintro e U1 ⟨rfl, hx⟩)
        refine ⟨_, hx, Ext.refl _, ?_⟩
        have HU1 := hid (HU0.out.trans hx)
        have hxa12 := hx
        clear hx
        refine step_act (by rfl) (fun K hK => ?_)
        go_wp2_with (go_at_call 52; refine (grant17_ b.lo b.hi 27 U1).mono ?_; rintro e U2 ⟨rfl, hx⟩)
        refine ⟨_, hx, Ext.refl _, ?_⟩
        have HU2 := hid (HU1.out.trans hx)
        have hxa25 := hx
        clear hx
        refine step_act (by rfl) (fun K hK => ?_)
        go_wp2_with (go_at_call 52; refine (grant17_ (16 + (k : Int)) (17 + (k : Int)) 96 U2).mono ?_; rintro e U3 ⟨rfl, hx⟩)
        refine ⟨_, hx, Ext.refl _, ?_⟩
        have HU3 := hid (HU2.out.trans hx)
        have hxa30 := hx
        clear hx
        refine step_act (by rfl) (fun K hK => ?_)
        go_wp2_with fail
        refine ⟨_, (Ext.refl _).alloc _, Ext.refl _, ?_⟩
        refine step_read (by rfl) (fun K hK => ?_)
        go_big_quiet_op
        refine hK _ ?_
        clear hK K
        refine step_nil ?_
        go_upto_region 5 with (fail)
        have HUE := hid (HE4.out.trans HU3.out)
        refine wp_gen (fun W => Hid (Ext U3 W) ∧ Hid (ownsAt W U3.heap.size 39 6 (.slice (some ⟨U3.heap.size, 0, none⟩) 3 3) 3 (rowF Cap.cells (ownC t k)))) ⟨hid ((Ext.refl _).alloc _), hid (by rw [HPO.out]; exact own_new #[.bool true, .int .i64 a.lo, .int .i64 a.hi, .int .i64 a.lo, .int .i64 5, .int .i64 0, .bool true, .int .i64 b.lo, .int .i64 b.hi, .int .i64 b.lo, .int .i64 27, .int .i64 0, .bool true, .int .i64 (16 + (k : Int)), .int .i64 (17 + (k : Int)), .int .i64 (16 + (k : Int)), .int .i64 96, .int .i64 0] _ 6 3 (Nat.le_refl _) rfl (by decide))⟩ ?_
        rintro W0 ⟨hx0, HOW⟩
        replace HRS := hid (HRS.out.ext HU3.out)
        replace HR0 := hid (HR0.out.ext HU3.out)
        replace HR5 := hid (HR5.out.ext HU3.out)
        have HRW0 := HR0
        have HSR := hid (HSS.out.ext HUE.out)
        obtain ⟨BS, hBS⟩ : ∃ y, U3.heap.size = y := ⟨_, rfl⟩
        rw [hBS] at HOW ⊢
        have HBS := hid hBS
        clear HPO hBS HSS hcl ca0 ca1 hdl cb0 cb1 h5l h50 h51 ea0 ea1 eb0 eb1 hb0l hb1l
        have r := HR0.out.ext hx0.out
        have rl := r.lt
        have rc0 := r.range 0 _ rfl
        have rc1 := r.range 1 _ rfl
        have rc2 := r.range 2 _ rfl
        have rc3 := r.range 3 _ rfl
        have rc4 := r.range 4 _ rfl
        have rc5 := r.range 5 _ rfl
        simp only [Nat.zero_add] at rc1 rc2 rc3 rc4 rc5
        clear r
        go_wp2
        clear rl rc0 rc1 rc2 rc3 rc4 rc5
        go_loopw [6, 7] (fun v i wr => ∃ (j N : Nat) (A : Option Addr) (c : Nat), j ≤ ms ∧ i = .int .i64 j ∧ v = .slice A N c ∧ Hid ((ownC t k ++ (x.shares.zipIdx.take j).flatMap (shF t k)).length = N) ∧ Hid (N ≤ 3 + j) ∧ Hid (Ext U3 wr) ∧ Hid (ownsAt wr BS 39 6 (.slice A N c) N (rowF Cap.cells (ownC t k ++ (x.shares.zipIdx.take j).flatMap (shF t k))))) (fun _ i _ => ms - (intOf i).toNat)
        case atStart => exact ⟨0, 3, _, _, Nat.zero_le _, rfl, rfl, hid rfl, hid (Nat.le_refl _), hx0, hid (by rw [List.take_zero, List.flatMap_nil, List.append_nil]; exact HOW.out)⟩
        case round =>
          clear HOW hx0
          obtain ⟨j, N, A, c, hj, rfl, rfl, HGL, HNB, HX, HOW⟩ := hrel
          have r := HR0.out.ext HX.out
          have rl := r.lt
          have rc0 := r.range 0 _ rfl
          have rc1 := r.range 1 _ rfl
          have rc2 := r.range 2 _ rfl
          have rc3 := r.range 3 _ rfl
          have rc4 := r.range 4 _ rfl
          have rc5 := r.range 5 _ rfl
          simp only [Nat.zero_add] at rc1 rc2 rc3 rc4 rc5
          clear r
          by_cases hlt : j < ms
          · have hj1 : (j : Int) < (ms : Int) := by omega
            have hj0 : (0 : Int) ≤ (j : Int) := by omega
            have hjl : j < x.shares.length := by rw [HMS.out]; exact hlt
            obtain ⟨d, hd⟩ : ∃ y, x.shares[j] = y := ⟨_, rfl⟩
            obtain ⟨w0', w1', w2', w3'⟩ := HSH.out d (hd ▸ List.getElem_mem _)
            have HMR := hid (show ownC t k ++ (x.shares.zipIdx.take (j + 1)).flatMap (shF t k) = (ownC t k ++ (x.shares.zipIdx.take j).flatMap (shF t k)) ++ shF t k (d, j) by
              rw [List.take_succ_eq_append_getElem (by simpa using hjl), List.getElem_zipIdx, hd, Nat.zero_add, flatMap_snoc', List.append_assoc])
            have HB1U0 := hid (HSR.out (by omega))
            obtain ⟨b', o', eA, hb1, hrg⟩ := (HSR.out.ext HX.out).elem shr_len hjl d hd
            have HB1U := hid (show b' < U3.heap.size by
              obtain ⟨b9, o9, e9, hb9, _⟩ := HB1U0.out
              rw [eA] at e9
              cases e9
              exact hb9)
            have e0 := hrg 0 _ rfl
            have e1 := hrg 1 _ rfl
            simp only [Nat.add_zero] at e0
            have EWS := hid e1
            have hb1l := hb1
            subst eA
            clear hrg hd hjl HB1U0
            obtain ⟨b3', o3', eS, hb3, hrg3⟩ := (HRS.out.ext HX.out).elem int_len (k := j) (by rw [HN3.out, Q3.out]; exact hlt) (t.S[j]'(by rw [HN3.out, Q3.out]; exact hlt)) rfl
            obtain ⟨s, hs⟩ : ∃ y, t.S[j]'(by rw [HN3.out, Q3.out]; exact hlt) = y := ⟨_, rfl⟩
            rw [hs] at hrg3
            have hsb := HS9.out s (hs ▸ List.getElem_mem _)
            have HSC := hid (show shF t k (d, j) = if bitAt d.rd k = 0 then [] else [shCap s d k] by
              unfold shF
              rw [List.getD_eq_getElem?_getD, List.getElem?_eq_getElem (by rw [HN3.out, Q3.out]; exact hlt), hs]
              rfl)
            have es := hrg3 0 _ rfl
            simp only [Nat.add_zero, Nat.mul_one] at es
            subst eS
            have ESC := hid es
            have hb3l := hb3
            have hj3 : (j : Int) < (n3 : Int) := by have := Q3.out; omega
            have hj4 : ¬ n3 ≤ j := by have := Q3.out; omega
            have HB3U := hid (show b3' < U3.heap.size by
              obtain ⟨b4, o4, e4, hb4, _⟩ := HRS.out (by rw [HN3.out, Q3.out]; omega)
              cases e4
              exact hb4)
            clear hrg3 hs es
            have hp2 : (0 : Int) < 2 ^ k := Int.pow_pos (by decide)
            have z0 : (d.rd / 2 ^ k).tmod 2 = bitAt d.rd k := by rw [Int.tmod_eq_emod_of_nonneg (Int.ediv_nonneg w0' (Int.le_of_lt hp2))]; rfl
            have z1 : (d.wr_ / 2 ^ k).tmod 2 = bitAt d.wr_ k := by rw [Int.tmod_eq_emod_of_nonneg (Int.ediv_nonneg w2' (Int.le_of_lt hp2))]; rfl
            obtain ⟨bx, hbx⟩ : ∃ y, bitAt d.rd k = y := ⟨_, rfl⟩
            obtain ⟨by_, hby⟩ : ∃ y, bitAt d.wr_ k = y := ⟨_, rfl⟩
            have hx2 : bx = 0 ∨ bx = 1 := by rw [← hbx]; unfold bitAt; omega
            have hy2 : by_ = 0 ∨ by_ = 1 := by rw [← hby]; unfold bitAt; omega
            unfold shCap at HSC
            rw [hbx, hby] at HSC
            rw [hbx] at z0
            rw [hby] at z1
            clear hbx hby hp2
            rcases hx2 with rfl | rfl
            · rw [if_pos rfl] at HSC
              rw [HSC.out, List.append_nil] at HMR
              go_wp2
              go_roundw
              case rel => exact ⟨j + 1, N, _, _, by omega, by go_num, rfl, hid (by rw [HMR.out]; exact HGL.out), hid (by have := HNB.out; omega), HX, hid (by rw [HMR.out]; exact HOW.out)⟩
              case measure => simp [intOf]; omega
            · rw [if_neg (by decide)] at HSC
              rw [HSC.out] at HMR
              rcases hy2 with rfl | rfl
              · rw [if_neg (by decide)] at HMR
                go_upto_region 9 with (fail)
                refine wp_region_only (S := (fun i => (Value.slice A N c).ownBlock = some i)) (.rd 0 (.rd 1 (.rd 2 (.rd 3 (.rd 4 (.rd 5 (.rd 6 (.rd 7 (.rd 8 (.rd 9 (.rd 10 (.rd 11 (.rd 12 (.rd 13 (.rd 14 (.rd 15 (.rd 16 (.rd 17 (.rd 18 (.rd 19 (.rd 20 (.rd 21 (.rd 22 (.ac 23 (.ac 24 (.ac 25 (.rd 26 .done))))))))))))))))))))))))))) (by kernel_rfl) (by kernel_rfl) (fun _ _ d _ _ h => by cases d <;> exact h) (by simp only [Ord.map, nthOp, List.append]; rfl) ?_
                intro d1
                have hex := (Ext.refl wr).trans (Ext.grow (Ext.refl wr) d1)
                have HX5 := hid (HX.out.trans hex)
                have HOW5 := hid (HOW.out.ext hex)
                have hes5 := (hex.cells b3' _ hb3l).trans ESC.out
                have hbl5 := Nat.lt_of_lt_of_le hb3l hex.size
                have hws5 := (hex.cells b' _ hb1l).trans EWS.out
                have hbs5 := Nat.lt_of_lt_of_le hb1l hex.size
                generalize Go.Proofs.Ytgldlkoohfclpaa.grow wr d1 = W5 at HX5 HOW5 hes5 hbl5 hws5 hbs5 ⊢
                have hp3 := (HX5.out.cells p5 3 HR5.out.lt).trans (HR5.out.range 3 _ rfl)
                have hpl := Nat.lt_of_lt_of_le HR5.out.lt HX5.out.size
                have hp5 := (HX5.out.cells p 5 HRW0.out.lt).trans (HRW0.out.range 5 _ rfl)
                try simp only [Nat.zero_add] at hp3 hp5
                have hpl0 := Nat.lt_of_lt_of_le HRW0.out.lt HX5.out.size
                have HNP := hid (show ¬ (Value.slice A N c).ownBlock = some p5 from fun e => by have := (HOW5.out.lt _ e).1; have := HBS.out; have := HR5.out.lt; omega)
                have HNX := hid (show ¬ (Value.slice A N c).ownBlock = some p from fun e => by have := (HOW5.out.lt _ e).1; have := HBS.out; have := HRW0.out.lt; omega)
                have HNB3 := hid (show ¬ (Value.slice A N c).ownBlock = some b3' from fun e => by have := (HOW5.out.lt _ e).1; have := HBS.out; have := HB3U.out; omega)
                have HNS := hid (show ¬ (Value.slice A N c).ownBlock = some b' from fun e => by have := (HOW5.out.lt _ e).1; have := HBS.out; have := HB1U.out; omega)
                have HBZ := hid (show BS ≤ W5.heap.size by have := HBS.out; have := HX5.out.size; omega)
                have HS0 := hid (Only.refl (fun i => (Value.slice A N c).ownBlock = some i) W5)
                have HE0 := hid (Ext.refl W5)
                clear hex
                refine only_read (by rfl) (fun K hK => ?_)
                go_big_quiet_op
                refine hK _ ?_
                clear hK K
                refine only_read (by rfl) (fun K hK => ?_)
                refine quiet_runD 74 rfl (.pointer (some ⟨p5, 3, none⟩)) (fun w => by kernel_rfl) ?_
                refine hK _ ?_
                clear hK K
                simp only [Act.put, List.setIfInBounds_toArray, List.set_cons_zero, List.set_cons_succ]
                refine only_read (by rfl) (fun K hK => ?_)
                refine quiet_load1 43 (.tmp 74) rfl (p5) (3) rfl (.slice (some ⟨b3', o3', none⟩) n3 b3) _ (fun w' hw' => (hw'.cells p5 3 hpl HNP.out).trans hp3) Try.underlying43 rfl ?_
                refine hK _ ?_
                clear hK K
                simp only [Act.put, List.setIfInBounds_toArray, List.set_cons_zero, List.set_cons_succ]
                refine only_read (by rfl) (fun K hK => ?_)
                go_big_quiet_op
                refine hK _ ?_
                clear hK K
                refine only_read (by rfl) (fun K hK => ?_)
                refine quiet_runD 77 rfl (.pointer (some ⟨b3', o3' + j, none⟩)) (fun w => by go_simp) ?_
                refine hK _ ?_
                clear hK K
                simp only [Act.put, List.setIfInBounds_toArray, List.set_cons_zero, List.set_cons_succ]
                refine only_read (by rfl) (fun K hK => ?_)
                refine quiet_load1 3 (.tmp 77) rfl (b3') (o3' + j) rfl (.int .i64 s) _ (fun w' hw' => (hw'.cells b3' _ hbl5 HNB3.out).trans hes5) Try.underlying3 rfl ?_
                refine hK _ ?_
                clear hK K
                simp only [Act.put, List.setIfInBounds_toArray, List.set_cons_zero, List.set_cons_succ]
                refine only_read (by rfl) (fun K hK => ?_)
                refine quiet_runD 79 rfl (.pointer (some ⟨p5, 3, none⟩)) (fun w => by kernel_rfl) ?_
                refine hK _ ?_
                clear hK K
                simp only [Act.put, List.setIfInBounds_toArray, List.set_cons_zero, List.set_cons_succ]
                refine only_read (by rfl) (fun K hK => ?_)
                refine quiet_load1 43 (.tmp 79) rfl (p5) (3) rfl (.slice (some ⟨b3', o3', none⟩) n3 b3) _ (fun w' hw' => (hw'.cells p5 3 hpl HNP.out).trans hp3) Try.underlying43 rfl ?_
                refine hK _ ?_
                clear hK K
                simp only [Act.put, List.setIfInBounds_toArray, List.set_cons_zero, List.set_cons_succ]
                refine only_read (by rfl) (fun K hK => ?_)
                go_big_quiet_op
                refine hK _ ?_
                clear hK K
                refine only_read (by rfl) (fun K hK => ?_)
                refine quiet_runD 82 rfl (.pointer (some ⟨b3', o3' + j, none⟩)) (fun w => by go_simp) ?_
                refine hK _ ?_
                clear hK K
                simp only [Act.put, List.setIfInBounds_toArray, List.set_cons_zero, List.set_cons_succ]
                refine only_read (by rfl) (fun K hK => ?_)
                refine quiet_load1 3 (.tmp 82) rfl (b3') (o3' + j) rfl (.int .i64 s) _ (fun w' hw' => (hw'.cells b3' _ hbl5 HNB3.out).trans hes5) Try.underlying3 rfl ?_
                refine hK _ ?_
                clear hK K
                simp only [Act.put, List.setIfInBounds_toArray, List.set_cons_zero, List.set_cons_succ]
                refine only_read (by rfl) (fun K hK => ?_)
                refine quiet_runD 84 rfl (.int .i64 (s + 256)) (fun w => by go_simp; exact wraps_64 _ (by omega) (by omega)) ?_
                refine hK _ ?_
                clear hK K
                simp only [Act.put, List.setIfInBounds_toArray, List.set_cons_zero, List.set_cons_succ]
                refine only_read (by rfl) (fun K hK => ?_)
                refine quiet_runD 85 rfl (.pointer (some ⟨p, 5, none⟩)) (fun w => by kernel_rfl) ?_
                refine hK _ ?_
                clear hK K
                simp only [Act.put, List.setIfInBounds_toArray, List.set_cons_zero, List.set_cons_succ]
                refine only_read (by rfl) (fun K hK => ?_)
                refine quiet_load1 24 (.tmp 85) rfl (p) (5) rfl (.slice (some ⟨b', o', none⟩) ms x.sc) _ (fun w' hw' => (hw'.cells p 5 hpl0 HNX.out).trans hp5) Try.underlying24 rfl ?_
                refine hK _ ?_
                clear hK K
                simp only [Act.put, List.setIfInBounds_toArray, List.set_cons_zero, List.set_cons_succ]
                refine only_read (by rfl) (fun K hK => ?_)
                go_big_quiet_op
                refine hK _ ?_
                clear hK K
                refine only_read (by rfl) (fun K hK => ?_)
                refine quiet_runD 88 rfl (.pointer (some ⟨b', o' + j * 2, none⟩)) (fun w => by go_simp) ?_
                refine hK _ ?_
                clear hK K
                simp only [Act.put, List.setIfInBounds_toArray, List.set_cons_zero, List.set_cons_succ]
                refine only_read (by rfl) (fun K hK => ?_)
                refine quiet_runD 89 rfl (.pointer (some ⟨b', o' + j * 2 + 1, none⟩)) (fun w => by go_simp) ?_
                refine hK _ ?_
                clear hK K
                simp only [Act.put, List.setIfInBounds_toArray, List.set_cons_zero, List.set_cons_succ]
                refine only_read (by rfl) (fun K hK => ?_)
                refine quiet_load1 3 (.tmp 89) rfl (b') (o' + j * 2 + 1) rfl (.int .i64 d.wr_) _ (fun w' hw' => (hw'.cells b' _ hbs5 HNS.out).trans hws5) Try.underlying3 rfl ?_
                refine hK _ ?_
                clear hK K
                simp only [Act.put, List.setIfInBounds_toArray, List.set_cons_zero, List.set_cons_succ]
                refine only_read (by rfl) (fun K hK => ?_)
                go_big_quiet_op
                refine hK _ ?_
                clear hK K
                refine only_read (by rfl) (fun K hK => ?_)
                refine quiet_runD 92 rfl (.int .i64 (d.wr_ / 2 ^ k)) (fun w => by go_simp) ?_
                refine hK _ ?_
                clear hK K
                simp only [Act.put, List.setIfInBounds_toArray, List.set_cons_zero, List.set_cons_succ]
                refine only_read (by rfl) (fun K hK => ?_)
                refine quiet_runD 93 rfl (.int .i64 0) (fun w => by first | (go_simp; done) | (go_simp; exact z1)) ?_
                refine hK _ ?_
                clear hK K
                simp only [Act.put, List.setIfInBounds_toArray, List.set_cons_zero, List.set_cons_succ]
                refine only_read (by rfl) (fun K hK => ?_)
                refine quiet_runD 94 rfl (.int .i64 0) (fun w => by first | (go_simp; done) | (go_simp; decide)) ?_
                refine hK _ ?_
                clear hK K
                simp only [Act.put, List.setIfInBounds_toArray, List.set_cons_zero, List.set_cons_succ]
                refine only_read (by rfl) (fun K hK => ?_)
                refine quiet_runD 95 rfl (.int .i64 1) (fun w => by first | (go_simp; done) | (go_simp; decide)) ?_
                refine hK _ ?_
                clear hK K
                simp only [Act.put, List.setIfInBounds_toArray, List.set_cons_zero, List.set_cons_succ]
                refine only_act (by rfl) (fun K hK => ?_)
                go_wp2_with (go_at_call 52; refine (grant17_ s (s + 256) 1 W5).mono ?_; rintro e V1 ⟨rfl, hx⟩)
                have HS1 := hid (HS0.out.transExt hx)
                have HE1 := hid (HE0.out.trans hx)
                refine ⟨_, Only.refl _ _, HS1.out, ?_⟩
                clear hx
                refine only_act (by rfl) (fun K hK => ?_)
                go_wp2_with fail
                refine ⟨_, Only.refl _ _, Only.alloc HS1.out _, ?_⟩
                refine only_gen (fun W => Hid (Ext V1 W) ∧ Hid (Row W V1.heap.size 0 [.bool true, .int .i64 s, .int .i64 (s + 256), .int .i64 s, .int .i64 1, .int .i64 0])) ⟨hid ((Ext.refl _).alloc _), hid (Row.new V1 _ _)⟩ ?_
                rintro V2 ⟨hE2, hR2⟩
                have HS2 := hid (HS1.out.transExt hE2.out)
                have HE2 := hid (HE1.out.trans hE2.out)
                refine only_act (by rfl) (fun K hK => ?_)
                refine wp_app_row cap_len (by decide) cap_one Try.underlying48 info_capN (.tmp 73) (.tmp 97) rfl BS (.slice A N c) N (rowF Cap.cells (ownC t k ++ (x.shares.zipIdx.take j).flatMap (shF t k))) rfl (HOW5.out.ext HE2.out) (some ⟨V1.heap.size, 0, none⟩) 1 1 [⟨true, s, s + 256, s, 1, 0⟩] rfl rfl (RdF.row0 (zs := [(⟨true, s, s + 256, s, 1, 0⟩ : Cap)]) hR2.out) (by have := HNB.out; unfold maxLen; omega) (by have := HNB.out; omega) (by have := HBZ.out; have := HE2.out.size; omega) ?_
                intro v6 w6 hown6 hgrow hat
                obtain ⟨A6, c6, hv6, _, _⟩ := hown6.shape
                subst hv6
                have HT6 : Hid (Only (fun i => (Value.slice A N c).ownBlock = some i) V2 w6) := hid (grownOnly hgrow fun g hg => hg)
                have HS6 := hid (Only.trans' HS2.out HT6.out)
                have HOW6 := hid (show ownsAt w6 BS 39 6 (.slice A6 (N + 1) c6) (N + 1) (rowF Cap.cells (ownC t k ++ (x.shares.zipIdx.take (j + 1)).flatMap (shF t k))) by rw [HMR.out, rowF_append]; exact hown6)
                refine hK _ _ ⟨_, Only.refl _ _, HS6.out, ?_⟩
                clear hK K hgrow hat hown6
                simp only [Act.put, List.setIfInBounds_toArray, List.set_cons_zero, List.set_cons_succ]
                refine only_read (by rfl) (fun K hK => ?_)
                go_big_quiet_op
                refine hK _ ?_
                clear hK K
                refine only_nil ?_
                go_wp2
                go_roundw
                case rel => exact ⟨j + 1, N + 1, _, _, by omega, by go_num, rfl, hid (by rw [HMR.out, List.length_append, HGL.out]; rfl), hid (by have := HNB.out; omega), hid (Ext.only HX5.out HS6.out (fun i hi => by have := (HOW5.out.lt i hi).1; have := HBS.out; omega)), HOW6⟩
                case measure => simp [intOf]; omega
              · rw [if_pos rfl] at HMR
                go_upto_region 9 with (fail)
                refine wp_region_only (S := (fun i => (Value.slice A N c).ownBlock = some i)) (.rd 0 (.rd 1 (.rd 2 (.rd 3 (.rd 4 (.rd 5 (.rd 6 (.rd 7 (.rd 8 (.rd 9 (.rd 10 (.rd 11 (.rd 12 (.rd 13 (.rd 14 (.rd 15 (.rd 16 (.rd 17 (.rd 18 (.rd 19 (.rd 20 (.rd 21 (.rd 22 (.ac 23 (.ac 24 (.ac 25 (.rd 26 .done))))))))))))))))))))))))))) (by kernel_rfl) (by kernel_rfl) (fun _ _ d _ _ h => by cases d <;> exact h) (by simp only [Ord.map, nthOp, List.append]; rfl) ?_
                intro d1
                have hex := (Ext.refl wr).trans (Ext.grow (Ext.refl wr) d1)
                have HX5 := hid (HX.out.trans hex)
                have HOW5 := hid (HOW.out.ext hex)
                have hes5 := (hex.cells b3' _ hb3l).trans ESC.out
                have hbl5 := Nat.lt_of_lt_of_le hb3l hex.size
                have hws5 := (hex.cells b' _ hb1l).trans EWS.out
                have hbs5 := Nat.lt_of_lt_of_le hb1l hex.size
                generalize Go.Proofs.Ytgldlkoohfclpaa.grow wr d1 = W5 at HX5 HOW5 hes5 hbl5 hws5 hbs5 ⊢
                have hp3 := (HX5.out.cells p5 3 HR5.out.lt).trans (HR5.out.range 3 _ rfl)
                have hpl := Nat.lt_of_lt_of_le HR5.out.lt HX5.out.size
                have hp5 := (HX5.out.cells p 5 HRW0.out.lt).trans (HRW0.out.range 5 _ rfl)
                try simp only [Nat.zero_add] at hp3 hp5
                have hpl0 := Nat.lt_of_lt_of_le HRW0.out.lt HX5.out.size
                have HNP := hid (show ¬ (Value.slice A N c).ownBlock = some p5 from fun e => by have := (HOW5.out.lt _ e).1; have := HBS.out; have := HR5.out.lt; omega)
                have HNX := hid (show ¬ (Value.slice A N c).ownBlock = some p from fun e => by have := (HOW5.out.lt _ e).1; have := HBS.out; have := HRW0.out.lt; omega)
                have HNB3 := hid (show ¬ (Value.slice A N c).ownBlock = some b3' from fun e => by have := (HOW5.out.lt _ e).1; have := HBS.out; have := HB3U.out; omega)
                have HNS := hid (show ¬ (Value.slice A N c).ownBlock = some b' from fun e => by have := (HOW5.out.lt _ e).1; have := HBS.out; have := HB1U.out; omega)
                have HBZ := hid (show BS ≤ W5.heap.size by have := HBS.out; have := HX5.out.size; omega)
                have HS0 := hid (Only.refl (fun i => (Value.slice A N c).ownBlock = some i) W5)
                have HE0 := hid (Ext.refl W5)
                clear hex
                refine only_read (by rfl) (fun K hK => ?_)
                go_big_quiet_op
                refine hK _ ?_
                clear hK K
                refine only_read (by rfl) (fun K hK => ?_)
                refine quiet_runD 74 rfl (.pointer (some ⟨p5, 3, none⟩)) (fun w => by kernel_rfl) ?_
                refine hK _ ?_
                clear hK K
                simp only [Act.put, List.setIfInBounds_toArray, List.set_cons_zero, List.set_cons_succ]
                refine only_read (by rfl) (fun K hK => ?_)
                refine quiet_load1 43 (.tmp 74) rfl (p5) (3) rfl (.slice (some ⟨b3', o3', none⟩) n3 b3) _ (fun w' hw' => (hw'.cells p5 3 hpl HNP.out).trans hp3) Try.underlying43 rfl ?_
                refine hK _ ?_
                clear hK K
                simp only [Act.put, List.setIfInBounds_toArray, List.set_cons_zero, List.set_cons_succ]
                refine only_read (by rfl) (fun K hK => ?_)
                go_big_quiet_op
                refine hK _ ?_
                clear hK K
                refine only_read (by rfl) (fun K hK => ?_)
                refine quiet_runD 77 rfl (.pointer (some ⟨b3', o3' + j, none⟩)) (fun w => by go_simp) ?_
                refine hK _ ?_
                clear hK K
                simp only [Act.put, List.setIfInBounds_toArray, List.set_cons_zero, List.set_cons_succ]
                refine only_read (by rfl) (fun K hK => ?_)
                refine quiet_load1 3 (.tmp 77) rfl (b3') (o3' + j) rfl (.int .i64 s) _ (fun w' hw' => (hw'.cells b3' _ hbl5 HNB3.out).trans hes5) Try.underlying3 rfl ?_
                refine hK _ ?_
                clear hK K
                simp only [Act.put, List.setIfInBounds_toArray, List.set_cons_zero, List.set_cons_succ]
                refine only_read (by rfl) (fun K hK => ?_)
                refine quiet_runD 79 rfl (.pointer (some ⟨p5, 3, none⟩)) (fun w => by kernel_rfl) ?_
                refine hK _ ?_
                clear hK K
                simp only [Act.put, List.setIfInBounds_toArray, List.set_cons_zero, List.set_cons_succ]
                refine only_read (by rfl) (fun K hK => ?_)
                refine quiet_load1 43 (.tmp 79) rfl (p5) (3) rfl (.slice (some ⟨b3', o3', none⟩) n3 b3) _ (fun w' hw' => (hw'.cells p5 3 hpl HNP.out).trans hp3) Try.underlying43 rfl ?_
                refine hK _ ?_
                clear hK K
                simp only [Act.put, List.setIfInBounds_toArray, List.set_cons_zero, List.set_cons_succ]
                refine only_read (by rfl) (fun K hK => ?_)
                go_big_quiet_op
                refine hK _ ?_
                clear hK K
                refine only_read (by rfl) (fun K hK => ?_)
                refine quiet_runD 82 rfl (.pointer (some ⟨b3', o3' + j, none⟩)) (fun w => by go_simp) ?_
                refine hK _ ?_
                clear hK K
                simp only [Act.put, List.setIfInBounds_toArray, List.set_cons_zero, List.set_cons_succ]
                refine only_read (by rfl) (fun K hK => ?_)
                refine quiet_load1 3 (.tmp 82) rfl (b3') (o3' + j) rfl (.int .i64 s) _ (fun w' hw' => (hw'.cells b3' _ hbl5 HNB3.out).trans hes5) Try.underlying3 rfl ?_
                refine hK _ ?_
                clear hK K
                simp only [Act.put, List.setIfInBounds_toArray, List.set_cons_zero, List.set_cons_succ]
                refine only_read (by rfl) (fun K hK => ?_)
                refine quiet_runD 84 rfl (.int .i64 (s + 256)) (fun w => by go_simp; exact wraps_64 _ (by omega) (by omega)) ?_
                refine hK _ ?_
                clear hK K
                simp only [Act.put, List.setIfInBounds_toArray, List.set_cons_zero, List.set_cons_succ]
                refine only_read (by rfl) (fun K hK => ?_)
                refine quiet_runD 85 rfl (.pointer (some ⟨p, 5, none⟩)) (fun w => by kernel_rfl) ?_
                refine hK _ ?_
                clear hK K
                simp only [Act.put, List.setIfInBounds_toArray, List.set_cons_zero, List.set_cons_succ]
                refine only_read (by rfl) (fun K hK => ?_)
                refine quiet_load1 24 (.tmp 85) rfl (p) (5) rfl (.slice (some ⟨b', o', none⟩) ms x.sc) _ (fun w' hw' => (hw'.cells p 5 hpl0 HNX.out).trans hp5) Try.underlying24 rfl ?_
                refine hK _ ?_
                clear hK K
                simp only [Act.put, List.setIfInBounds_toArray, List.set_cons_zero, List.set_cons_succ]
                refine only_read (by rfl) (fun K hK => ?_)
                go_big_quiet_op
                refine hK _ ?_
                clear hK K
                refine only_read (by rfl) (fun K hK => ?_)
                refine quiet_runD 88 rfl (.pointer (some ⟨b', o' + j * 2, none⟩)) (fun w => by go_simp) ?_
                refine hK _ ?_
                clear hK K
                simp only [Act.put, List.setIfInBounds_toArray, List.set_cons_zero, List.set_cons_succ]
                refine only_read (by rfl) (fun K hK => ?_)
                refine quiet_runD 89 rfl (.pointer (some ⟨b', o' + j * 2 + 1, none⟩)) (fun w => by go_simp) ?_
                refine hK _ ?_
                clear hK K
                simp only [Act.put, List.setIfInBounds_toArray, List.set_cons_zero, List.set_cons_succ]
                refine only_read (by rfl) (fun K hK => ?_)
                refine quiet_load1 3 (.tmp 89) rfl (b') (o' + j * 2 + 1) rfl (.int .i64 d.wr_) _ (fun w' hw' => (hw'.cells b' _ hbs5 HNS.out).trans hws5) Try.underlying3 rfl ?_
                refine hK _ ?_
                clear hK K
                simp only [Act.put, List.setIfInBounds_toArray, List.set_cons_zero, List.set_cons_succ]
                refine only_read (by rfl) (fun K hK => ?_)
                go_big_quiet_op
                refine hK _ ?_
                clear hK K
                refine only_read (by rfl) (fun K hK => ?_)
                refine quiet_runD 92 rfl (.int .i64 (d.wr_ / 2 ^ k)) (fun w => by go_simp) ?_
                refine hK _ ?_
                clear hK K
                simp only [Act.put, List.setIfInBounds_toArray, List.set_cons_zero, List.set_cons_succ]
                refine only_read (by rfl) (fun K hK => ?_)
                refine quiet_runD 93 rfl (.int .i64 1) (fun w => by first | (go_simp; done) | (go_simp; exact z1)) ?_
                refine hK _ ?_
                clear hK K
                simp only [Act.put, List.setIfInBounds_toArray, List.set_cons_zero, List.set_cons_succ]
                refine only_read (by rfl) (fun K hK => ?_)
                refine quiet_runD 94 rfl (.int .i64 2) (fun w => by first | (go_simp; done) | (go_simp; decide)) ?_
                refine hK _ ?_
                clear hK K
                simp only [Act.put, List.setIfInBounds_toArray, List.set_cons_zero, List.set_cons_succ]
                refine only_read (by rfl) (fun K hK => ?_)
                refine quiet_runD 95 rfl (.int .i64 3) (fun w => by first | (go_simp; done) | (go_simp; decide)) ?_
                refine hK _ ?_
                clear hK K
                simp only [Act.put, List.setIfInBounds_toArray, List.set_cons_zero, List.set_cons_succ]
                refine only_act (by rfl) (fun K hK => ?_)
                go_wp2_with (go_at_call 52; refine (grant17_ s (s + 256) 3 W5).mono ?_; rintro e V1 ⟨rfl, hx⟩)
                have HS1 := hid (HS0.out.transExt hx)
                have HE1 := hid (HE0.out.trans hx)
                refine ⟨_, Only.refl _ _, HS1.out, ?_⟩
                clear hx
                refine only_act (by rfl) (fun K hK => ?_)
                go_wp2_with fail
                refine ⟨_, Only.refl _ _, Only.alloc HS1.out _, ?_⟩
                refine only_gen (fun W => Hid (Ext V1 W) ∧ Hid (Row W V1.heap.size 0 [.bool true, .int .i64 s, .int .i64 (s + 256), .int .i64 s, .int .i64 3, .int .i64 0])) ⟨hid ((Ext.refl _).alloc _), hid (Row.new V1 _ _)⟩ ?_
                rintro V2 ⟨hE2, hR2⟩
                have HS2 := hid (HS1.out.transExt hE2.out)
                have HE2 := hid (HE1.out.trans hE2.out)
                refine only_act (by rfl) (fun K hK => ?_)
                refine wp_app_row cap_len (by decide) cap_one Try.underlying48 info_capN (.tmp 73) (.tmp 97) rfl BS (.slice A N c) N (rowF Cap.cells (ownC t k ++ (x.shares.zipIdx.take j).flatMap (shF t k))) rfl (HOW5.out.ext HE2.out) (some ⟨V1.heap.size, 0, none⟩) 1 1 [⟨true, s, s + 256, s, 3, 0⟩] rfl rfl (RdF.row0 (zs := [(⟨true, s, s + 256, s, 3, 0⟩ : Cap)]) hR2.out) (by have := HNB.out; unfold maxLen; omega) (by have := HNB.out; omega) (by have := HBZ.out; have := HE2.out.size; omega) ?_
                intro v6 w6 hown6 hgrow hat
                obtain ⟨A6, c6, hv6, _, _⟩ := hown6.shape
                subst hv6
                have HT6 : Hid (Only (fun i => (Value.slice A N c).ownBlock = some i) V2 w6) := hid (grownOnly hgrow fun g hg => hg)
                have HS6 := hid (Only.trans' HS2.out HT6.out)
                have HOW6 := hid (show ownsAt w6 BS 39 6 (.slice A6 (N + 1) c6) (N + 1) (rowF Cap.cells (ownC t k ++ (x.shares.zipIdx.take (j + 1)).flatMap (shF t k))) by rw [HMR.out, rowF_append]; exact hown6)
                refine hK _ _ ⟨_, Only.refl _ _, HS6.out, ?_⟩
                clear hK K hgrow hat hown6
                simp only [Act.put, List.setIfInBounds_toArray, List.set_cons_zero, List.set_cons_succ]
                refine only_read (by rfl) (fun K hK => ?_)
                go_big_quiet_op
                refine hK _ ?_
                clear hK K
                refine only_nil ?_
                go_wp2
                go_roundw
                case rel => exact ⟨j + 1, N + 1, _, _, by omega, by go_num, rfl, hid (by rw [HMR.out, List.length_append, HGL.out]; rfl), hid (by have := HNB.out; omega), hid (Ext.only HX5.out HS6.out (fun i hi => by have := (HOW5.out.lt i hi).1; have := HBS.out; omega)), HOW6⟩
                case measure => simp [intOf]; omega
          · obtain rfl : ms = j := by omega
            have hj1 : ¬ (ms : Int) < (ms : Int) := by omega
            rw [List.take_of_length_le (by rw [List.length_zipIdx, HMS.out]; exact Nat.le_refl _), ← HPV.out] at HOW HGL
            go_wp2
            go_ret
            exact ⟨A, ⟨c, by rw [HGL.out]; rfl⟩, hid (HOW.out.rdF HGL.out), hid (HUE.out.trans HX.out)⟩

end Go.Proofs.Ytgldlkoohfclpaa
