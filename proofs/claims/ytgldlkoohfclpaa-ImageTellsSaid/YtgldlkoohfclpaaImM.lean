/- Layer 17: Pairs. -/
import Derived.Test.YtgldlkoohfclpaaImL
import Derived.Test.YtgldlkoohfclpaaImO
import Derived.Test.YtgldlkoohfclpaaImT
namespace Go.Proofs.Ytgldlkoohfclpaa
set_option linter.unusedSimpArgs false
set_option linter.unusedVariables false
open Go.RowKit

theorem layK_lo {hp : Int} (h1 : 1 ≤ hp) (h2 : hp ≤ 64) : ∀ cs : List Cmp, (∀ c ∈ cs, CmR c) → ∀ s ∈ (layK hp cs).C, 0 ≤ s.lo ∧ s.lo ≤ 256 * (1 + 100 * cs.length) := by
  intro cs
  refine List.reverseRecOn' (p := fun cs => (∀ c ∈ cs, CmR c) → ∀ s ∈ (layK hp cs).C, 0 ≤ s.lo ∧ s.lo ≤ 256 * (1 + 100 * cs.length)) cs ?_ ?_
  · intro _ s hs
    cases hs
  · intro cs c ih hc s hs
    have h3 := layK_len h1 h2 cs (fun d hd => hc d (by simp [hd]))
    rw [layK_snoc] at hs
    unfold stp at hs
    simp only [List.mem_append, List.mem_singleton] at hs
    rw [List.length_append]
    rcases hs with hs | rfl
    · have := ih (fun d hd => hc d (by simp [hd])) s hs
      simp only [List.length_cons, List.length_nil]
      omega
    · simp only [List.length_cons, List.length_nil]
      omega
theorem layS_S {t : LayS} {B : Int} (h0 : 0 ≤ t.pg) (hB : ∀ s ∈ t.S, 0 ≤ s ∧ s ≤ B) : ∀ n : Nat, (t.pg + n) * 256 ≤ B → ∀ s ∈ (layS t n).S, 0 ≤ s ∧ s ≤ B
  | 0, _, s, hs => hB s hs
  | n + 1, hn, s, hs => by
    have h2 := layS_len t n
    simp only [layS, stpS, List.mem_append, List.mem_singleton] at hs
    rcases hs with hs | rfl
    · exact layS_S h0 hB n (by omega) s hs
    · omega
/-- What is known of a right one's layout. -/
theorem layV_ok {x : Img} (h : rightV x = true) : (layV x).C.length = x.comps.length ∧ (layV x).D.length = x.comps.length ∧ (layV x).H.length = x.comps.length ∧ (layV x).S.length = x.shares.length ∧ (∀ s ∈ (layV x).C, 0 ≤ s.lo ∧ s.lo ≤ 200000) ∧ (∀ s ∈ (layV x).S, 0 ≤ s ∧ s ≤ 200000) := by
  obtain ⟨n5, hcm, _, _⟩ := rightV_ok h
  have h1 := layK_len n5.1 n5.2.1 x.comps (fun c hc => (hcm c hc).1)
  have h2 := layK_lo n5.1 n5.2.1 x.comps (fun c hc => (hcm c hc).1)
  have h3 := layS_len (layK x.heap x.comps) x.shares.length
  unfold layV
  rw [h3.2.2.1, h3.2.2.2.1, h3.2.2.2.2]
  refine ⟨h1.1, h1.2.1, h1.2.2.1, by rw [h3.1, h1.2.2.2.1]; simp, fun s hs => by have := h2 s hs; omega, layS_S (by omega) (by rw [h1.2.2.2.1]; intro s hs; cases hs) _ (by omega)⟩
theorem lnk_ok {x : Img} (h : rightV x = true) {l : Lnk} (hl : l ∈ x.links) : 0 ≤ l.to_ ∧ l.to_ < (x.comps.length : Int) ∧ 0 ≤ l.at_ ∧ l.at_ ≤ 1024 ∧ l.to_ ≤ 4 := by
  obtain ⟨hn5, hcm, hlk, _⟩ := rightV_ok h
  have h1 := hlk l hl
  unfold lnkOk lkA lkB at h1
  simp only [Bool.and_eq_true, Bool.not_eq_true', List.any_cons, List.any_nil, id, Bool.or_eq_false_iff, Bool.or_false, decide_eq_false_iff_not] at h1
  obtain ⟨⟨_, h2, _⟩, h3, h4, _⟩ := h1
  have h5 := outB_no h2
  refine ⟨h5.1, by omega, by omega, ?_, by omega⟩
  have h6 : lenC x.comps l.to_ ≤ 4096 := by
    unfold lenC
    cases hg : x.comps[l.to_.toNat]? with
    | none => exact (by decide : (0 : Int) ≤ 4096)
    | some d => have := (hcm d (List.mem_of_getElem? hg)).1.2.1; show ((d.bl.length : Int)) ≤ 4096; omega
  omega
def PrF (p : Cap × Cap) : List Value := Cap.cells p.1 ++ Cap.cells p.2
theorem pr_len (p : Cap × Cap) : (PrF p).length = 12 := rfl
theorem pr_one : ∀ p : Cap × Cap, ∀ u ∈ PrF p, u.oneCell' = true := by
  intro p u hu
  simp only [PrF, Cap.cells, List.cons_append, List.nil_append, List.mem_cons, List.not_mem_nil, or_false] at hu
  rcases hu with rfl | rfl | rfl | rfl | rfl | rfl | rfl | rfl | rfl | rfl | rfl | rfl <;> rfl
theorem info_pr : InfoN Try.prog 40 12 96 := infoN_of (by kernel_rfl)
def pairOf (t : LayS) (l : Lnk) : Cap × Cap := (⟨true, (t.C.getD l.to_.toNat ⟨0, 0⟩).lo, (t.C.getD l.to_.toNat ⟨0, 0⟩).hi, (t.C.getD l.to_.toNat ⟨0, 0⟩).lo + l.at_ * 4, 5, 2 + l.to_⟩, ⟨true, (t.D.getD l.to_.toNat ⟨0, 0⟩).lo, (t.D.getD l.to_.toNat ⟨0, 0⟩).hi, (t.D.getD l.to_.toNat ⟨0, 0⟩).lo, 27, 2 + l.to_⟩)
def pairV (x : Img) (n : Int) : List (Cap × Cap) := if (rightV x && !outB n 0 ((x.comps.length : Int) - 1)) = true then (lfF x.links n).map (pairOf (layV x)) else []
set_option maxRecDepth 100000 in
set_option maxHeartbeats 4000000 in
theorem pairs_ (x : Img) (n : Int) (w : World) (h : ImgAt w x) (hc : x.comps.length ≤ 100000) (hl : x.links.length ≤ 100000) (hs : x.shares.length ≤ 100000) : Calls Try.prog 19 #[.agg #[.bool x.strict, .int .i64 x.heap, .int .i64 x.full, .slice x.C x.comps.length x.cc, .slice x.L x.links.length x.lc, .slice x.S x.shares.length x.sc], .int .i64 n] w fun e w' => ∃ A ca, e = .returned (.slice A (pairV x n).length ca) ∧ Hid (ownsAt w' w.heap.size 40 12 (.slice A (pairV x n).length ca) (pairV x n).length (rowF PrF (pairV x n))) ∧ Hid (Ext w w') := by
  have HI := hid h
  have HR : Hid (∀ W, Ext w W → Calls Try.prog 46 #[.agg #[.bool x.strict, .int .i64 x.heap, .int .i64 x.full, .slice x.C x.comps.length x.cc, .slice x.L x.links.length x.lc, .slice x.S x.shares.length x.sc], .int .i64 n] W fun e w' => e = .returned (.bool (rightV x && !outB n 0 ((x.comps.length : Int) - 1))) ∧ Ext W w') := hid (fun W hx => isComp_ x n W (h.ext hx) hc hl hs)
  have HL : Hid (rightV x = true → ∀ W, Ext w W → Calls Try.prog 47 #[.agg #[.bool x.strict, .int .i64 x.heap, .int .i64 x.full, .slice x.C x.comps.length x.cc, .slice x.L x.links.length x.lc, .slice x.S x.shares.length x.sc]] W fun e w' => ∃ y : LayC, e = .returned (.agg #[y.vc, y.vd, y.vh, y.vs, .int .i64 (layV x).pg]) ∧ Hid (LayB w' y.q y.base y.vc y.vd y.vh y.vs (layV x)) ∧ Hid (Ext W w')) := hid (fun hr W hx => by
    obtain ⟨n5, hcm, _, _⟩ := rightV_ok hr
    refine (layout_ x W (h.ext hx) ⟨n5.1, n5.2.1⟩ (fun c hc => (hcm c hc).1) (by omega) (by omega)).mono ?_
    rintro e w' ⟨q, base, vc, vd, vh, vs, he, h1, h2, _⟩
    exact ⟨⟨q, base, vc, vd, vh, vs⟩, he, h1, h2⟩)
  have HPV := hid (show pairV x n = if (rightV x && !outB n 0 ((x.comps.length : Int) - 1)) = true then _ else [] from rfl)
  have HRT := hid (show (rightV x && !outB n 0 ((x.comps.length : Int) - 1)) = true → rightV x = true ∧ 0 ≤ n ∧ n < (x.comps.length : Int) from fun h2 => by
    rw [Bool.and_eq_true, Bool.not_eq_true'] at h2
    have := outB_no h2.2
    exact ⟨h2.1, this.1, by omega⟩)
  obtain ⟨PV, hPV⟩ : ∃ y, pairV x n = y := ⟨_, rfl⟩
  rw [hPV] at HPV ⊢
  obtain ⟨v, hv⟩ : ∃ y, (rightV x && !outB n 0 ((x.comps.length : Int) - 1)) = y := ⟨_, rfl⟩
  rw [hv] at HR HPV HRT
  have HK : Hid (∀ W, Ext w W → Calls Try.prog 48 #[.agg #[.bool x.strict, .int .i64 x.heap, .int .i64 x.full, .slice x.C x.comps.length x.cc, .slice x.L x.links.length x.lc, .slice x.S x.shares.length x.sc], .int .i64 n] W fun e w' => ∃ A ca, e = .returned (.slice A (lfF x.links n).length ca) ∧ Hid (ownsAt w' (W.heap.size + 1) 68 3 (.slice A (lfF x.links n).length ca) (lfF x.links n).length (rowF Lnk.cells (lfF x.links n))) ∧ Hid (Ext W w')) := hid (fun W hx => linksFrom_ x n W (h.ext hx) hl)
  have HLF := hid (show v = true → ∀ l ∈ lfF x.links n, 0 ≤ l.to_ ∧ l.to_ < (x.comps.length : Int) ∧ 0 ≤ l.at_ ∧ l.at_ ≤ 1024 ∧ l.to_ ≤ 4 from fun hvt l hm => by
    have hr := (HRT.out hvt).1
    exact lnk_ok hr (List.mem_filter.1 hm).1)
  have HLO := hid (show v = true → _ from fun hvt => layV_ok (HRT.out hvt).1)
  have HLL := hid (show (lfF x.links n).length ≤ 100000 from Nat.le_trans (lf_len _ _) hl)
  obtain ⟨t, ht⟩ : ∃ y, layV x = y := ⟨_, rfl⟩
  obtain ⟨LF, hLF⟩ : ∃ y, lfF x.links n = y := ⟨_, rfl⟩
  rw [ht] at HL HPV HLO
  rw [hLF] at HK HPV HLF HLL
  obtain ⟨m, hm⟩ : ∃ y, x.comps.length = y := ⟨_, rfl⟩
  obtain ⟨ml, hml⟩ : ∃ y, x.links.length = y := ⟨_, rfl⟩
  obtain ⟨ms, hms⟩ : ∃ y, x.shares.length = y := ⟨_, rfl⟩
  obtain ⟨Ca, hCa⟩ : ∃ y, x.C = y := ⟨_, rfl⟩
  obtain ⟨La, hLa⟩ : ∃ y, x.L = y := ⟨_, rfl⟩
  obtain ⟨Sa, hSa⟩ : ∃ y, x.S = y := ⟨_, rfl⟩
  rw [hm, hml, hms, hCa, hLa, hSa] at HR HL HK
  rw [hm] at HLF HRT HLO
  rw [hms] at HLO
  rw [hm, hml, hms, hCa, hLa, hSa]
  clear hm hml hms hCa hLa hSa h hl hs hc hv hPV ht hLF HI
  go_enter Try.func19, Try.ntmps19
  go_upto_region 1 with (fail)
  refine wp_gen (fun V => Hid (Ext w V) ∧ Row V w.heap.size 0 [.bool x.strict, .int .i64 x.heap, .int .i64 x.full, .slice Ca m x.cc, .slice La ml x.lc, .slice Sa ms x.sc]) ⟨hid (by repeat (first | (with_reducible exact Ext.refl _) | (with_reducible refine Ext.undrew ?_) | (with_reducible refine Ext.grow ?_ _) | (with_reducible refine Ext.drew ?_) | (with_reducible refine Ext.drewN ?_ _) | (with_reducible refine Ext.alloc ?_ _) | (with_reducible assumption) | ((with_reducible refine Ext.setCell ?_ ?_ _); rotate_left; (first | exact Nat.le_refl _ | ((try dsimp only); (try simp only [World.size_alloc, grow_size, World.size_setCell]); omega))))), Row.new w _ _⟩ ?_
  rintro V ⟨HV, hrow⟩
  have HRW := hid hrow
  clear hrow
  have d0 := HRW.out.range 0 _ rfl
  have d1 := HRW.out.range 1 _ rfl
  have d2 := HRW.out.range 2 _ rfl
  have d3 := HRW.out.range 3 _ rfl
  have d4 := HRW.out.range 4 _ rfl
  have d5 := HRW.out.range 5 _ rfl
  have hl0 := HRW.out.lt
  simp only [Nat.zero_add] at d1 d2 d3 d4 d5
  go_wp2_with fail
  refine (HR.out V HV.out).mono ?_
  rintro e W1 ⟨rfl, hy⟩
  have HE := hid (HV.out.trans hy)
  replace HRW := hid (HRW.out.ext hy)
  clear hy HR d0 d1 d2 d3 d4 d5 hl0
  cases v with
  | false =>
    have hp0 := HPV.out
    rw [if_neg (by decide)] at hp0
    subst hp0
    go_wp2
    go_ret
    exact ⟨none, 0, rfl, hid (ownsAt_nil _ _ _ _), HE⟩
  | true =>
    obtain ⟨hrt, hn0, hnm⟩ := HRT.out rfl
    replace HL := hid (HL.out hrt)
    replace HLF := hid (HLF.out rfl)
    obtain ⟨q0, q1, q2, q3, HC9, _⟩ := HLO.out rfl
    replace HC9 := hid HC9
    replace HPV := hid (HPV.out.trans (if_pos rfl))
    clear HRT HLO hrt
    have d0 := HRW.out.range 0 _ rfl
    have d1 := HRW.out.range 1 _ rfl
    have d2 := HRW.out.range 2 _ rfl
    have d3 := HRW.out.range 3 _ rfl
    have d4 := HRW.out.range 4 _ rfl
    have d5 := HRW.out.range 5 _ rfl
    have hl0 := HRW.out.lt
    simp only [Nat.zero_add] at d1 d2 d3 d4 d5
    go_wp2_with fail
    refine (HL.out W1 HE.out).mono ?_
    rintro e W2 ⟨y, rfl, HY, hy⟩
    obtain ⟨q, base, vc, vd, vh, vs⟩ := y
    obtain ⟨B0, b0, rfl, _, _⟩ := HY.out.o0.shape
    obtain ⟨B1, b1, rfl, _, _⟩ := HY.out.o1.shape
    obtain ⟨B2, b2, rfl, _, _⟩ := HY.out.o2.shape
    obtain ⟨B3, b3, rfl, _, _⟩ := HY.out.o3.shape
    have HRC := hid (HY.out.o0.rdF rfl)
    have HRD := hid (HY.out.o1.rdF rfl)
    have HE2 := hid (HE.out.trans hy.out)
    replace HRW := hid (HRW.out.ext hy.out)
    obtain ⟨n0, hn0'⟩ : ∃ y, t.C.length = y := ⟨_, rfl⟩
    obtain ⟨n1, hn1'⟩ : ∃ y, t.D.length = y := ⟨_, rfl⟩
    obtain ⟨n2, hn2'⟩ : ∃ y, t.H.length = y := ⟨_, rfl⟩
    obtain ⟨n3, hn3'⟩ : ∃ y, t.S.length = y := ⟨_, rfl⟩
    have HN0 := hid hn0'
    have HN1 := hid hn1'
    rw [hn0', hn1', hn2', hn3']
    rw [hn0'] at q0
    rw [hn1'] at q1
    have Q0 := hid q0
    have Q1 := hid q1
    clear q0 q1
    clear hy HY HL d0 d1 d2 d3 d4 d5 hl0 hn0' hn1' hn2' hn3' q2 q3 HE
    go_upto_region 4 with (fail)
    refine wp_gen (fun W => Hid (Ext W2 W) ∧ Hid (Row W W2.heap.size 0 [.slice B0 n0 b0, .slice B1 n1 b1, .slice B2 n2 b2, .slice B3 n3 b3, .int .i64 t.pg])) ⟨hid ((Ext.refl _).alloc _), hid (Row.new W2 _ _)⟩ ?_
    rintro W4 ⟨hx4, HR5⟩
    replace HRC := hid (HRC.out.ext hx4.out)
    replace HRD := hid (HRD.out.ext hx4.out)
    replace HRW := hid (HRW.out.ext hx4.out)
    have HE4 := hid (HE2.out.trans hx4.out)
    obtain ⟨p5, hp5⟩ : ∃ y, W2.heap.size = y := ⟨_, rfl⟩
    rw [hp5] at HR5 ⊢
    clear hx4 hp5 HE2
    have d0 := HRW.out.range 0 _ rfl
    have d1 := HRW.out.range 1 _ rfl
    have d2 := HRW.out.range 2 _ rfl
    have d3 := HRW.out.range 3 _ rfl
    have d4 := HRW.out.range 4 _ rfl
    have d5 := HRW.out.range 5 _ rfl
    have hl0 := HRW.out.lt
    simp only [Nat.zero_add] at d1 d2 d3 d4 d5
    go_wp2_with fail
    refine (HK.out W4 HE4.out).mono ?_
    rintro e W0 ⟨LA, lca, rfl, HOL, hx⟩
    have HLR := hid (HOL.out.rdF rfl)
    replace HRC := hid (HRC.out.ext hx.out)
    replace HRD := hid (HRD.out.ext hx.out)
    replace HR5 := hid (HR5.out.ext hx.out)
    have HE0 := hid (HE4.out.trans hx.out)
    obtain ⟨nf, hnf⟩ : ∃ y, LF.length = y := ⟨_, rfl⟩
    have HNF := hid hnf
    rw [hnf] at HLL ⊢
    obtain ⟨BS, hBS⟩ : ∃ y, W0.heap.size = y := ⟨_, rfl⟩
    have HBS := hid hBS
    clear hx HOL HK HE4 d0 d1 d2 d3 d4 d5 hl0 hnf HRW hBS
    go_wp2
    go_loopw [6, 21] (fun v i wr => ∃ (j : Nat) (A : Option Addr) (c : Nat), j ≤ nf ∧ i = .int .i64 j ∧ v = .slice A j c ∧ Hid (Ext W0 wr) ∧ Hid (ownsAt wr BS 40 12 (.slice A j c) j (rowF PrF ((LF.take j).map (pairOf t))))) (fun _ i _ => nf - (intOf i).toNat)
    case atStart => exact ⟨0, _, _, Nat.zero_le _, rfl, rfl, hid (Ext.refl _), hid (ownsAt_nil _ _ _ _)⟩
    case round =>
      obtain ⟨j, A, c, hj, rfl, rfl, HX, HOW⟩ := hrel
      have hnf5 : nf ≤ 100000 := HLL.out
      by_cases hlt : j < nf
      · have hj1 : (j : Int) < (nf : Int) := by omega
        have hj0 : (0 : Int) ≤ (j : Int) := by omega
        have hjl : j < LF.length := by rw [HNF.out]; exact hlt
        obtain ⟨l, hl⟩ : ∃ y, LF[j] = y := ⟨_, rfl⟩
        obtain ⟨l0, l1, l2, l3, l4⟩ := HLF.out l (hl ▸ List.getElem_mem _)
        have HMR := hid (show rowF PrF ((LF.take (j + 1)).map (pairOf t)) = rowF PrF ((LF.take j).map (pairOf t)) ++ rowF PrF [pairOf t l] by rw [List.take_succ_eq_append_getElem hjl, hl, List.map_append, rowF_append]; rfl)
        obtain ⟨b', o', eA, hb1, hrg⟩ := (HLR.out.ext HX.out).elem lnk_len hjl l hl
        have e0 := hrg 0 _ rfl
        have e1 := hrg 1 _ rfl
        have e2 := hrg 2 _ rfl
        simp only [Nat.add_zero] at e0
        subst eA
        clear hrg hl hjl
        obtain ⟨kt, hkt⟩ : ∃ k : Nat, l.to_ = (k : Int) := ⟨l.to_.toNat, by omega⟩
        have hk0 : kt < t.C.length := by rw [HN0.out, Q0.out]; omega
        have hk1 : kt < t.D.length := by rw [HN1.out, Q1.out]; omega
        obtain ⟨a, ha⟩ : ∃ y, t.C[kt] = y := ⟨_, rfl⟩
        obtain ⟨b, hb⟩ : ∃ y, t.D[kt] = y := ⟨_, rfl⟩
        obtain ⟨a0, a9⟩ := HC9.out a (ha ▸ List.getElem_mem _)
        have HPO := hid (show PrF (pairOf t l) = [.bool true, .int .i64 a.lo, .int .i64 a.hi, .int .i64 (a.lo + l.at_ * 4), .int .i64 5, .int .i64 (2 + l.to_), .bool true, .int .i64 b.lo, .int .i64 b.hi, .int .i64 b.lo, .int .i64 27, .int .i64 (2 + l.to_)] by
          unfold pairOf
          rw [hkt, Int.toNat_natCast, List.getD_eq_getElem?_getD, List.getD_eq_getElem?_getD, List.getElem?_eq_getElem hk0, List.getElem?_eq_getElem hk1, ha, hb]
          rfl)
        have HOWN := hid (fun (W : World) (hx : Ext W0 W) => own_ B0 B1 B2 B3 n0 n1 n2 n3 b0 b1 b2 b3 t.pg t.C t.D kt a b W (HRC.out.ext hx) (HRD.out.ext hx) HN0.out HN1.out hk0 hk1 ha hb)
        rw [← hkt] at HOWN
        clear hk0 hk1 ha hb hkt
        go_upto_region 8 with (fail)
        refine wp_gen (fun W => Hid (Ext wr W) ∧ Hid (Row W wr.heap.size 0 [.int .i64 l.fr, .int .i64 l.to_, .int .i64 l.at_])) ⟨hid ((Ext.refl _).alloc _), hid (Row.new wr _ _)⟩ ?_
        rintro W1 ⟨HE1, HG1⟩
        obtain ⟨g, hg⟩ : ∃ y, wr.heap.size = y := ⟨_, rfl⟩
        rw [hg] at HG1 ⊢
        have hgw : wr.heap.size ≤ g := by omega
        clear hg e0 e1 e2 hb1
        have r1 := HG1.out
        have r1l := r1.lt
        have r1c0 := r1.range 0 _ rfl
        have r1f0 := r1.free 0 (by show 0 < 3; decide)
        have r1c1 := r1.range 1 _ rfl
        have r1f1 := r1.free 1 (by show 1 < 3; decide)
        have r1c2 := r1.range 2 _ rfl
        have r1f2 := r1.free 2 (by show 2 < 3; decide)
        simp only [Nat.zero_add] at r1c1 r1c2 r1f1 r1f2
        clear r1
        have r2 := HR5.out.ext (HX.out.trans HE1.out)
        have r2l := r2.lt
        have r2c0 := r2.range 0 _ rfl
        have r2f0 := r2.free 0 (by show 0 < 5; decide)
        have r2c1 := r2.range 1 _ rfl
        have r2f1 := r2.free 1 (by show 1 < 5; decide)
        have r2c2 := r2.range 2 _ rfl
        have r2f2 := r2.free 2 (by show 2 < 5; decide)
        have r2c3 := r2.range 3 _ rfl
        have r2f3 := r2.free 3 (by show 3 < 5; decide)
        have r2c4 := r2.range 4 _ rfl
        have r2f4 := r2.free 4 (by show 4 < 5; decide)
        simp only [Nat.zero_add] at r2c1 r2c2 r2c3 r2c4 r2f1 r2f2 r2f3 r2f4
        clear r2
        go_wp2_with fail
        refine (HOWN.out W1 (HX.out.trans HE1.out)).mono ?_
        rintro e W2 ⟨rfl, hy⟩
        have HE2 := hid (HE1.out.trans hy)
        have HG2 := hid (HG1.out.ext hy)
        clear r1l r1c0 r1f0 r1c1 r1f1 r1c2 r1f2
        clear r2l r2c0 r2f0 r2c1 r2f1 r2c2 r2f2 r2c3 r2f3 r2c4 r2f4
        clear hy HE1 HG1 HOWN
        go_upto_region 9 with (fail)
        refine wp_gen (fun W => Hid (Ext wr W) ∧ Hid (Row W g 0 [.int .i64 l.fr, .int .i64 l.to_, .int .i64 l.at_]) ∧ Hid (Row W W2.heap.size 0 [.bool true, .int .i64 a.lo, .int .i64 a.hi, .int .i64 (a.lo), .int .i64 5, .int .i64 (0)]) ∧ Hid (Row W (W2.heap.size + 1) 0 [.bool true, .int .i64 b.lo, .int .i64 b.hi, .int .i64 b.lo, .int .i64 27, .int .i64 (0)])) ⟨hid ((HE2.out.alloc _).alloc _), hid (HG2.out.ext (((Ext.refl _).alloc _).alloc _)), hid ((Row.new W2 _ _).ext ((Ext.refl _).alloc _)), hid ?_⟩ ?_
        · have h9 := Row.new (W2.alloc (.cells #[.bool true, .int .i64 a.lo, .int .i64 a.hi, .int .i64 (a.lo), .int .i64 5, .int .i64 (0)] 39)) #[.bool true, .int .i64 b.lo, .int .i64 b.hi, .int .i64 b.lo, .int .i64 27, .int .i64 (0)] 39
          rw [World.size_alloc] at h9
          exact h9
        rintro W2b ⟨HE2b, HG2b, HA2, HB2⟩
        obtain ⟨a1, ha1⟩ : ∃ y, W2.heap.size = y := ⟨_, rfl⟩
        have hga : g < a1 := by rw [← ha1]; exact HG2.out.lt
        rw [ha1] at HA2 HB2 ⊢
        obtain ⟨a2, ha2⟩ : ∃ y, a1 + 1 = y := ⟨_, rfl⟩
        have haa : a1 < a2 := by omega
        rw [ha2] at HB2 ⊢
        clear HE2 HG2 ha1 ha2
        have r1 := HA2.out
        have r1l := r1.lt
        have r1c0 := r1.range 0 _ rfl
        have r1f0 := r1.free 0 (by show 0 < 6; decide)
        have r1c1 := r1.range 1 _ rfl
        have r1f1 := r1.free 1 (by show 1 < 6; decide)
        have r1c2 := r1.range 2 _ rfl
        have r1f2 := r1.free 2 (by show 2 < 6; decide)
        have r1c3 := r1.range 3 _ rfl
        have r1f3 := r1.free 3 (by show 3 < 6; decide)
        have r1c4 := r1.range 4 _ rfl
        have r1f4 := r1.free 4 (by show 4 < 6; decide)
        have r1c5 := r1.range 5 _ rfl
        have r1f5 := r1.free 5 (by show 5 < 6; decide)
        simp only [Nat.zero_add] at r1c1 r1c2 r1c3 r1c4 r1c5 r1f1 r1f2 r1f3 r1f4 r1f5
        clear r1
        have r2 := HG2b.out
        have r2l := r2.lt
        have r2c0 := r2.range 0 _ rfl
        have r2f0 := r2.free 0 (by show 0 < 3; decide)
        have r2c1 := r2.range 1 _ rfl
        have r2f1 := r2.free 1 (by show 1 < 3; decide)
        have r2c2 := r2.range 2 _ rfl
        have r2f2 := r2.free 2 (by show 2 < 3; decide)
        simp only [Nat.zero_add] at r2c1 r2c2 r2f1 r2f2
        clear r2
        go_upto_region 10 with (fail)
        refine wp_gen (fun W => Hid (Ext wr W) ∧ Hid (Row W g 0 [.int .i64 l.fr, .int .i64 l.to_, .int .i64 l.at_]) ∧ Hid (Row W a1 0 [.bool true, .int .i64 a.lo, .int .i64 a.hi, .int .i64 (a.lo + l.at_ * 4), .int .i64 5, .int .i64 (0)]) ∧ Hid (Row W a2 0 [.bool true, .int .i64 b.lo, .int .i64 b.hi, .int .i64 b.lo, .int .i64 27, .int .i64 (0)])) ⟨hid (Ext.only HE2b.out (Only.setCell (S := fun i => i = a1) (Only.refl (fun i => i = a1) W2b) (.inl rfl) (o := 3) (.int .i64 (a.lo + l.at_ * 4))) (fun i hi => by rw [hi]; omega)), hid (HG2b.out.only (Only.setCell (S := fun i => i = a1) (Only.refl (fun i => i = a1) W2b) (.inl rfl) (o := 3) (.int .i64 (a.lo + l.at_ * 4))) (by omega)), hid (HA2.out.set1 (j := 3) _), hid (HB2.out.only (Only.setCell (S := fun i => i = a1) (Only.refl (fun i => i = a1) W2b) (.inl rfl) (o := 3) (.int .i64 (a.lo + l.at_ * 4))) (by omega))⟩ ?_
        clear r1l r1c0 r1f0 r1c1 r1f1 r1c2 r1f2 r1c3 r1f3 r1c4 r1f4 r1c5 r1f5
        clear r2l r2c0 r2f0 r2c1 r2f1 r2c2 r2f2
        clear HE2b HG2b HA2 HB2
        rintro W3 ⟨HE3, HG3, HA3, HB3⟩
        refine wp_region_only (S := (fun i => i = a1 ∨ i = a2)) (.rd 0 (.rd 1 (.rd 2 (.rd 3 (.rd 4 (.rd 5 (.rd 6 (.ac 7 (.rd 8 (.ac 9 .done)))))))))) (by kernel_rfl) (by kernel_rfl) (fun _ _ d _ _ h => by cases d <;> exact h) (by simp only [Ord.map, nthOp, List.append]; rfl) ?_
        intro d1
        have HE5 := hid (HE3.out.trans (Ext.grow (Ext.refl W3) d1))
        have HA5 := hid (HA3.out.ext (Ext.grow (Ext.refl W3) d1))
        have HB5 := hid (HB3.out.ext (Ext.grow (Ext.refl W3) d1))
        have HG5 := hid (HG3.out.ext (Ext.grow (Ext.refl W3) d1))
        generalize Go.Proofs.Ytgldlkoohfclpaa.grow W3 d1 = W5 at HE5 HA5 HB5 HG5 ⊢
        have hg1 := HG5.out.range 1 _ rfl
        have hgl := HG5.out.lt
        simp only [Nat.zero_add] at hg1
        have HS0 := hid (Only.refl (fun i => i = a1 ∨ i = a2) W5)
        have r1 := HA5.out
        have r1l := r1.lt
        have r1c0 := r1.range 0 _ rfl
        have r1f0 := r1.free 0 (by show 0 < 6; decide)
        have r1c1 := r1.range 1 _ rfl
        have r1f1 := r1.free 1 (by show 1 < 6; decide)
        have r1c2 := r1.range 2 _ rfl
        have r1f2 := r1.free 2 (by show 2 < 6; decide)
        have r1c3 := r1.range 3 _ rfl
        have r1f3 := r1.free 3 (by show 3 < 6; decide)
        have r1c4 := r1.range 4 _ rfl
        have r1f4 := r1.free 4 (by show 4 < 6; decide)
        have r1c5 := r1.range 5 _ rfl
        have r1f5 := r1.free 5 (by show 5 < 6; decide)
        simp only [Nat.zero_add] at r1c1 r1c2 r1c3 r1c4 r1c5 r1f1 r1f2 r1f3 r1f4 r1f5
        clear r1
        have r2 := HB5.out
        have r2l := r2.lt
        have r2c0 := r2.range 0 _ rfl
        have r2f0 := r2.free 0 (by show 0 < 6; decide)
        have r2c1 := r2.range 1 _ rfl
        have r2f1 := r2.free 1 (by show 1 < 6; decide)
        have r2c2 := r2.range 2 _ rfl
        have r2f2 := r2.free 2 (by show 2 < 6; decide)
        have r2c3 := r2.range 3 _ rfl
        have r2f3 := r2.free 3 (by show 3 < 6; decide)
        have r2c4 := r2.range 4 _ rfl
        have r2f4 := r2.free 4 (by show 4 < 6; decide)
        have r2c5 := r2.range 5 _ rfl
        have r2f5 := r2.free 5 (by show 5 < 6; decide)
        simp only [Nat.zero_add] at r2c1 r2c2 r2c3 r2c4 r2c5 r2f1 r2f2 r2f3 r2f4 r2f5
        clear r2
        refine only_read (by rfl) (fun K hK => ?_)
        refine quiet_runD 39 rfl (.pointer (some ⟨g, 1, none⟩)) (fun w => by kernel_rfl) ?_
        refine hK _ ?_
        clear hK K
        simp only [Act.put, List.setIfInBounds_toArray, List.set_cons_zero, List.set_cons_succ]
        refine only_read (by rfl) (fun K hK => ?_)
        refine quiet_load1 3 (.tmp 39) rfl (g) (1) rfl (.int .i64 l.to_) _ (fun w' hw' => (hw'.cells g 1 hgl (fun e => e.elim (fun e => by omega) (fun e => by omega))).trans hg1) Try.underlying3 rfl ?_
        refine hK _ ?_
        clear hK K
        simp only [Act.put, List.setIfInBounds_toArray, List.set_cons_zero, List.set_cons_succ]
        refine only_read (by rfl) (fun K hK => ?_)
        refine quiet_runD 41 rfl (.int .i64 (2 + l.to_)) (fun w => by go_simp; exact wraps_64 _ (by omega) (by omega)) ?_
        refine hK _ ?_
        clear hK K
        simp only [Act.put, List.setIfInBounds_toArray, List.set_cons_zero, List.set_cons_succ]
        refine only_read (by rfl) (fun K hK => ?_)
        refine quiet_runD 42 rfl (.pointer (some ⟨g, 1, none⟩)) (fun w => by kernel_rfl) ?_
        refine hK _ ?_
        clear hK K
        simp only [Act.put, List.setIfInBounds_toArray, List.set_cons_zero, List.set_cons_succ]
        refine only_read (by rfl) (fun K hK => ?_)
        refine quiet_load1 3 (.tmp 42) rfl (g) (1) rfl (.int .i64 l.to_) _ (fun w' hw' => (hw'.cells g 1 hgl (fun e => e.elim (fun e => by omega) (fun e => by omega))).trans hg1) Try.underlying3 rfl ?_
        refine hK _ ?_
        clear hK K
        simp only [Act.put, List.setIfInBounds_toArray, List.set_cons_zero, List.set_cons_succ]
        refine only_read (by rfl) (fun K hK => ?_)
        refine quiet_runD 44 rfl (.int .i64 (2 + l.to_)) (fun w => by go_simp; exact wraps_64 _ (by omega) (by omega)) ?_
        refine hK _ ?_
        clear hK K
        simp only [Act.put, List.setIfInBounds_toArray, List.set_cons_zero, List.set_cons_succ]
        refine only_read (by rfl) (fun K hK => ?_)
        refine quiet_runD 45 rfl (.pointer (some ⟨a1, 5, none⟩)) (fun w => by kernel_rfl) ?_
        refine hK _ ?_
        clear hK K
        simp only [Act.put, List.setIfInBounds_toArray, List.set_cons_zero, List.set_cons_succ]
        refine only_act (by rfl) (fun K hK => ?_)
        go_wp2_with fail
        refine ⟨_, Only.refl _ _, Only.setCell HS0.out (.inl (.inl rfl)) _, ?_⟩
        refine only_read (by rfl) (fun K hK => ?_)
        refine quiet_runD 46 rfl (.pointer (some ⟨a2, 5, none⟩)) (fun w => by kernel_rfl) ?_
        refine hK _ ?_
        clear hK K
        simp only [Act.put, List.setIfInBounds_toArray, List.set_cons_zero, List.set_cons_succ]
        refine only_act (by rfl) (fun K hK => ?_)
        go_wp2_with fail
        refine ⟨_, Only.refl _ _, Only.setCell (Only.setCell HS0.out (.inl (.inl rfl)) _) (.inl (.inr rfl)) _, ?_⟩
        refine only_nil ?_
        clear r1l r1c0 r1f0 r1c1 r1f1 r1c2 r1f2 r1c3 r1f3 r1c4 r1f4 r1c5 r1f5
        clear r2l r2c0 r2f0 r2c1 r2f1 r2c2 r2f2 r2c3 r2f3 r2c4 r2f4 r2c5 r2f5
        go_upto_region 11 with (fail)
        refine wp_gen (fun W => Hid (Ext wr W) ∧ Hid (Row W a1 0 [.bool true, .int .i64 a.lo, .int .i64 a.hi, .int .i64 (a.lo + l.at_ * 4), .int .i64 5, .int .i64 (2 + l.to_)]) ∧ Hid (Row W a2 0 [.bool true, .int .i64 b.lo, .int .i64 b.hi, .int .i64 b.lo, .int .i64 27, .int .i64 (2 + l.to_)])) ⟨hid (Ext.only HE5.out (Only.setCell (S := (fun i => i = a1 ∨ i = a2)) (Only.setCell (S := (fun i => i = a1 ∨ i = a2)) (Only.refl (fun i => i = a1 ∨ i = a2) W5) (.inl (.inl rfl)) (o := 5) (.int .i64 (2 + l.to_))) (.inl (.inr rfl)) (o := 5) (.int .i64 (2 + l.to_))) (fun i hi => by rcases hi with rfl | rfl <;> omega)), hid ((HA5.out.set1 (j := 5) (.int .i64 (2 + l.to_))).only (Only.setCell (S := fun i => i = a2) (Only.refl (fun i => i = a2) _) (.inl rfl) _) (by omega)), hid ((HB5.out.only (Only.setCell (S := fun i => i = a1) (Only.refl (fun i => i = a1) _) (.inl rfl) _) (by omega)).set1 (j := 5) _)⟩ ?_
        clear HE5 HA5 HB5 HS0 hg1 hgl
        rintro W6 ⟨HE6, HA6, HB6⟩
        have HOW6 := hid (HOW.out.ext HE6.out)
        have HBS6 := hid (show BS ≤ W6.heap.size by have := HBS.out; have := HX.out.size; have := HE6.out.size; omega)
        have r1 := HA6.out
        have r1l := r1.lt
        have r1c0 := r1.range 0 _ rfl
        have r1f0 := r1.free 0 (by show 0 < 6; decide)
        have r1c1 := r1.range 1 _ rfl
        have r1f1 := r1.free 1 (by show 1 < 6; decide)
        have r1c2 := r1.range 2 _ rfl
        have r1f2 := r1.free 2 (by show 2 < 6; decide)
        have r1c3 := r1.range 3 _ rfl
        have r1f3 := r1.free 3 (by show 3 < 6; decide)
        have r1c4 := r1.range 4 _ rfl
        have r1f4 := r1.free 4 (by show 4 < 6; decide)
        have r1c5 := r1.range 5 _ rfl
        have r1f5 := r1.free 5 (by show 5 < 6; decide)
        simp only [Nat.zero_add] at r1c1 r1c2 r1c3 r1c4 r1c5 r1f1 r1f2 r1f3 r1f4 r1f5
        clear r1
        have r2 := HB6.out
        have r2l := r2.lt
        have r2c0 := r2.range 0 _ rfl
        have r2f0 := r2.free 0 (by show 0 < 6; decide)
        have r2c1 := r2.range 1 _ rfl
        have r2f1 := r2.free 1 (by show 1 < 6; decide)
        have r2c2 := r2.range 2 _ rfl
        have r2f2 := r2.free 2 (by show 2 < 6; decide)
        have r2c3 := r2.range 3 _ rfl
        have r2f3 := r2.free 3 (by show 3 < 6; decide)
        have r2c4 := r2.range 4 _ rfl
        have r2f4 := r2.free 4 (by show 4 < 6; decide)
        have r2c5 := r2.range 5 _ rfl
        have r2f5 := r2.free 5 (by show 5 < 6; decide)
        simp only [Nat.zero_add] at r2c1 r2c2 r2c3 r2c4 r2c5 r2f1 r2f2 r2f3 r2f4 r2f5
        clear r2
        go_upto_region 12 with (at_builtin; refine wpList_plain rfl fun K hK => ?_; go_loud (refine wp_app_row pr_len (by decide) pr_one Try.underlying36 info_pr (.tmp 47) (.tmp 51) rfl BS (.slice A j c) j (rowF PrF ((LF.take j).map (pairOf t))) rfl (HOW6.out.ext ((Ext.refl _).alloc _)) (some ⟨W6.heap.size, 0, none⟩) 1 1 [pairOf t l] rfl rfl (RdF.row0 (zs := [pairOf t l]) (by rw [rowF_one, HPO.out]; exact Row.new W6 #[.bool true, .int .i64 a.lo, .int .i64 a.hi, .int .i64 (a.lo + l.at_ * 4), .int .i64 5, .int .i64 (2 + l.to_), .bool true, .int .i64 b.lo, .int .i64 b.hi, .int .i64 b.lo, .int .i64 27, .int .i64 (2 + l.to_)] _)) (by unfold maxLen; omega) (by omega) (by rw [World.size_alloc]; have := HBS6.out; omega) ?_); intro v6 w6 hown hgrow hat; obtain ⟨A6, c6, rfl, _, _⟩ := hown.shape; refine hK _ _ ?_; clear hK K)
        have HX6 := hid (((HX.out.trans HE6.out).alloc _).only (grownOnly (S := fun i => BS ≤ i) hgrow (fun g e => (HOW6.out.lt g e).1)) (fun i hi => by rw [HBS.out]; exact hi))
        have HOW7 := hid (show ownsAt w6 BS 40 12 (.slice A6 (j + 1) c6) (j + 1) (rowF PrF ((LF.take (j + 1)).map (pairOf t))) by rw [HMR.out]; exact hown)
        clear r1l r1c0 r1f0 r1c1 r1f1 r1c2 r1f2 r1c3 r1f3 r1c4 r1f4 r1c5 r1f5
        clear r2l r2c0 r2f0 r2c1 r2f1 r2c2 r2f2 r2c3 r2f3 r2c4 r2f4 r2c5 r2f5
        clear hown hgrow hat HOW6 HA6 HB6 HE6 HOW HX
        go_wp2
        go_roundw
        case rel => exact ⟨j + 1, _, _, by omega, by go_num, rfl, HX6, HOW7⟩
        case measure => simp [intOf]; omega
      · obtain rfl : nf = j := by omega
        have hj1 : ¬ (nf : Int) < (nf : Int) := by omega
        rw [List.take_of_length_le (by rw [HNF.out]; exact Nat.le_refl _), ← HPV.out] at HOW
        have HPN := hid (show PV.length = nf by rw [HPV.out, List.length_map, HNF.out])
        go_wp2
        go_ret
        exact ⟨A, c, by rw [HPN.out]; rfl, hid (by rw [HPN.out]; exact HOW.out.lower (by have := HBS.out; have := HE0.out.size; omega)), hid (HE0.out.trans HX.out)⟩

end Go.Proofs.Ytgldlkoohfclpaa
