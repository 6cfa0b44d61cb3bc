/- Layer 17: the document: Pairs. -/
import Derived.Test.YtgldlkoohfclpaaImAK
import Derived.Test.YtgldlkoohfclpaaImM
namespace Go.Proofs.Ytgldlkoohfclpaa
set_option linter.unusedSimpArgs false
set_option linter.unusedVariables false
open Go.RowKit

set_option maxRecDepth 100000 in
set_option maxHeartbeats 4000000 in
theorem rpairs_ (x : Img) (n : Int) (w : World) (h : ImgAt w x) (hc : x.comps.length ≤ 100000) (hl : x.links.length ≤ 100000) (hs : x.shares.length ≤ 100000) (hw : ∀ s ∈ x.shares, -9223372036854775808 ≤ s.wr_ ∧ s.wr_ ≤ 9223372036854775807) : Calls Try.prog 20 #[.agg #[.bool x.strict, .int .i64 x.heap, .int .i64 x.full, .slice x.C x.comps.length x.cc, .slice x.L x.links.length x.lc, .slice x.S x.shares.length x.sc], .int .i64 n] w fun e w' => ∃ A ca, e = .returned (.slice A (pairV x n).length ca) ∧ Hid (RdF PrF w' A (pairV x n)) ∧ Hid (Ext w w') := by
  have HRT := hid (show ∀ W, Ext w W → Calls Try.prog 15 #[.agg #[.bool x.strict, .int .i64 x.heap, .int .i64 x.full, .slice x.C x.comps.length x.cc, .slice x.L x.links.length x.lc, .slice x.S x.shares.length x.sc]] W fun e w' => e = .returned (.bool (rightV x)) ∧ Ext W w' from fun W hx => rright_ x W (h.ext hx) hc hl hs hw)
  have HGR := hid (show ∀ k W, Ext w W → _ from fun k W hx => rgrants_ x k W (h.ext hx) hc hl hs hw)
  have HPN := hid (show rightV x = false → pairV x n = [] from fun h2 => by unfold pairV; rw [if_neg (by rw [h2]; simp)])
  have HPY := hid (show rightV x = true → pairV x n = (lfF x.links n).map (pairOf (layV x)) from fun h2 => by
    unfold pairV
    split
    · rfl
    · next h3 =>
      rw [h2, Bool.true_and, Bool.not_eq_true', Bool.not_eq_false] at h3
      have h4 : lfF x.links n = [] := by
        unfold lfF
        rw [List.filter_eq_nil_iff]
        intro l hl h5
        obtain ⟨_, _, hlk, _⟩ := rightV_ok h2
        have h6 := hlk l hl
        unfold lnkOk lkA at h6
        simp only [List.any_cons, List.any_nil, id, Bool.or_false, Bool.and_eq_true, Bool.not_eq_true', Bool.or_eq_false_iff] at h6
        rw [eq_of_beq h5, h3] at h6
        cases h6.1.1
      rw [h4]; rfl)
  have HLK := hid (show rightV x = true → ∀ l ∈ x.links, _ from fun h2 l hl => lnk_ok h2 hl)
  have HGV := hid (show rightV x = true → ∀ k : Nat, k < x.comps.length → grantV x (k : Int) = ownC (layV x) k ++ x.shares.zipIdx.flatMap (shF (layV x) k) from fun h2 k hk => by
    unfold grantV
    rw [if_pos (by rw [h2, Bool.true_and, Bool.not_eq_true']; unfold outB; rw [decide_eq_false (by omega), decide_eq_false (by omega)]; rfl)]
    rfl)
  have HLO := hid (show rightV x = true → _ from fun hvt => layV_ok hvt)
  have HM4 := hid (show rightV x = true → x.comps.length ≤ 4 ∧ x.links.length ≤ 16 from fun hvt => by have := (rightV_ok hvt).1; omega)
  have HLF := hid (show ∀ j, (lfF (x.links.take j) n).length ≤ j from fun j => by have := lf_len (x.links.take j) n; rw [List.length_take] at this; omega)
  have HLL := hid h.l
  obtain ⟨t, ht⟩ : ∃ y, layV x = y := ⟨_, rfl⟩
  rw [ht] at HPY HLO HGV
  obtain ⟨PV, hPV⟩ : ∃ y, pairV x n = y := ⟨_, rfl⟩
  rw [hPV] at HPN HPY ⊢
  obtain ⟨v, hv⟩ : ∃ y, rightV x = y := ⟨_, rfl⟩
  rw [hv] at HRT HPN HPY HLO HM4 HLK HGV
  obtain ⟨m, hm⟩ : ∃ y, x.comps.length = y := ⟨_, rfl⟩
  obtain ⟨ml, hml⟩ : ∃ y, x.links.length = y := ⟨_, rfl⟩
  obtain ⟨ms, hms⟩ : ∃ y, x.shares.length = y := ⟨_, rfl⟩
  obtain ⟨Ca, hCa⟩ : ∃ y, x.C = y := ⟨_, rfl⟩
  obtain ⟨La, hLa⟩ : ∃ y, x.L = y := ⟨_, rfl⟩
  obtain ⟨Sa, hSa⟩ : ∃ y, x.S = y := ⟨_, rfl⟩
  rw [hm, hml, hms, hCa, hLa, hSa] at HRT HGR
  rw [hm] at HLO HM4 HLK HGV
  rw [hml] at HM4 hl
  rw [hLa] at HLL
  have HML := hid hml
  rw [hm, hml, hms, hCa, hLa, hSa]
  clear hm hml hms hCa hLa hSa h hs hc hv hPV ht hw
  go_enter Try.func20, Try.ntmps20
  go_upto_region 2 with (fail)
  refine wp_gen (fun V => Hid (Ext w V) ∧ Hid (Row V w.heap.size 0 [.bool x.strict, .int .i64 x.heap, .int .i64 x.full, .slice Ca m x.cc, .slice La ml x.lc, .slice Sa ms x.sc])) ⟨hid (by repeat (first | (with_reducible exact Ext.refl _) | (with_reducible refine Ext.undrew ?_) | (with_reducible refine Ext.grow ?_ _) | (with_reducible refine Ext.drew ?_) | (with_reducible refine Ext.drewN ?_ _) | (with_reducible refine Ext.alloc ?_ _) | (with_reducible assumption) | ((with_reducible refine Ext.setCell ?_ ?_ _); rotate_left; (first | exact Nat.le_refl _ | ((try dsimp only); (try simp only [World.size_alloc, grow_size, World.size_setCell]); omega))))), hid (Row.new w _ _)⟩ ?_
  rintro V ⟨HV, HR0⟩
  obtain ⟨p, hp0⟩ : ∃ y, w.heap.size = y := ⟨_, rfl⟩
  rw [hp0] at HR0 ⊢
  clear hp0
  obtain ⟨BS, hBS⟩ : ∃ y, V.heap.size = y := ⟨_, rfl⟩
  have HBS := hid hBS
  have HPB := hid (show p < BS by have := HR0.out.lt; omega)
  clear hBS
  go_wp2
  go_loopw [5, 6] (fun r i wr => ∃ (j N : Nat) (A : Option Addr) (c : Nat), j ≤ ml ∧ i = .int .i64 j ∧ r = .slice A N c ∧ Hid (0 < j → v = true) ∧ Hid (((lfF (x.links.take j) n).map (pairOf t)).length = N) ∧ Hid (N ≤ j) ∧ Hid (Ext V wr) ∧ Hid (ownsAt wr BS 40 12 (.slice A N c) N (rowF PrF ((lfF (x.links.take j) n).map (pairOf t))))) (fun _ i _ => ml - (intOf i).toNat)
  case atStart => exact ⟨0, 0, none, 0, Nat.zero_le _, rfl, rfl, hid (fun h => absurd h (by omega)), hid rfl, hid (Nat.le_refl _), hid (Ext.refl _), hid (ownsAt_nil _ _ _ _)⟩
  case round =>
    obtain ⟨j, N, A, c, hj, rfl, rfl, HVJ, HGL, HNB, HX, HOW⟩ := hrel
    have q := HR0.out.ext HX.out
    have ql := q.lt
    have qc0 := q.range 0 _ rfl
    have qc1 := q.range 1 _ rfl
    have qc2 := q.range 2 _ rfl
    have qc3 := q.range 3 _ rfl
    have qc4 := q.range 4 _ rfl
    have qc5 := q.range 5 _ rfl
    simp only [Nat.zero_add] at qc1 qc2 qc3 qc4 qc5
    clear q
    by_cases hlt : j < ml
    · have hj1 : (j : Int) < (ml : Int) := by omega
      have hj0 : (0 : Int) ≤ (j : Int) := by omega
      go_wp2_with fail
      refine (HRT.out wr (HV.out.trans HX.out)).mono ?_
      rintro e W1 ⟨rfl, hx⟩
      have HX1 := hid (HX.out.trans hx)
      have HOW1 := hid (HOW.out.ext hx)
      clear hx HOW HX ql qc0 qc1 qc2 qc3 qc4 qc5
      cases v with
      | false =>
        have hj9 : j = 0 := by
          by_cases h9 : j = 0
          · exact h9
          · exact absurd (HVJ.out (by omega)) (by decide)
        subst hj9
        have HZ := hid (show N = 0 by have := HGL.out; simpa [lfF] using this.symm)
        have hpn := HPN.out rfl
        go_wp2
        go_ret
        exact ⟨A, c, by rw [hpn, HZ.out]; rfl, hid (by rw [hpn]; exact RdF.nil _ _), hid (HV.out.trans HX1.out)⟩
      | true =>
        have hjl : j < x.links.length := by rw [HML.out]; exact hlt
        obtain ⟨l, hl9⟩ : ∃ y, x.links[j] = y := ⟨_, rfl⟩
        obtain ⟨l0, l1, l2, l3, l4⟩ := HLK.out (by simp) l (hl9 ▸ List.getElem_mem _)
        obtain ⟨hm4, hl16⟩ := HM4.out (by simp)
        have HT0 := hid (show lfF (x.links.take (j + 1)) n = if (l.fr == n) = true then lfF (x.links.take j) n ++ [l] else lfF (x.links.take j) n by
          rw [List.take_succ_eq_append_getElem hjl, hl9, lf_snoc])
        obtain ⟨b', o', eA, hb1, hrg⟩ := (HLL.out.ext (HV.out.trans HX1.out)).elem lnk_len hjl l hl9
        have e0 := hrg 0 _ rfl
        have e1 := hrg 1 _ rfl
        have e2 := hrg 2 _ rfl
        simp only [Nat.add_zero] at e0
        subst eA
        clear hrg hl9 hjl
        have q := HR0.out.ext HX1.out
        have ql := q.lt
        have qc0 := q.range 0 _ rfl
        have qc1 := q.range 1 _ rfl
        have qc2 := q.range 2 _ rfl
        have qc3 := q.range 3 _ rfl
        have qc4 := q.range 4 _ rfl
        have qc5 := q.range 5 _ rfl
        simp only [Nat.zero_add] at qc1 qc2 qc3 qc4 qc5
        clear q
        go_upto_region 6 with (fail)
        refine wp_gen (fun W => Hid (Ext W1 W) ∧ Hid (Row W W1.heap.size 0 [.int .i64 l.fr, .int .i64 l.to_, .int .i64 l.at_])) ⟨hid ((Ext.refl _).alloc _), hid (Row.new W1 _ _)⟩ ?_
        rintro W2 ⟨HE2, HG2⟩
        obtain ⟨g, hg⟩ : ∃ y, W1.heap.size = y := ⟨_, rfl⟩
        have HGB := hid (show BS ≤ g by have := HBS.out; have := HX1.out.size; omega)
        have HOG := hid (show ∀ i, (Value.slice A N c).ownBlock = some i → i < g from fun i hi => by have := (HOW1.out.lt i hi).2; omega)
        rw [hg] at HG2 ⊢
        clear hg e0 e1 e2 hb1 ql qc0 qc1 qc2 qc3 qc4 qc5
        replace HX1 := hid (HX1.out.trans HE2.out)
        replace HOW1 := hid (HOW1.out.ext HE2.out)
        clear HE2
        have q := HR0.out.ext HX1.out
        have ql := q.lt
        have qc0 := q.range 0 _ rfl
        have qc1 := q.range 1 _ rfl
        have qc2 := q.range 2 _ rfl
        have qc3 := q.range 3 _ rfl
        have qc4 := q.range 4 _ rfl
        have qc5 := q.range 5 _ rfl
        simp only [Nat.zero_add] at qc1 qc2 qc3 qc4 qc5
        clear q
        have r := HG2.out
        have rl := r.lt
        have rc0 := r.range 0 _ rfl
        have rc1 := r.range 1 _ rfl
        have rc2 := r.range 2 _ rfl
        simp only [Nat.zero_add] at rc1 rc2
        clear r
        by_cases hfn : l.fr = n
        · have HT1 := hid (HT0.out.trans (if_pos (by simpa using hfn)))
          have hfi : (l.fr == n) = true := by simpa using hfn
          go_upto_region 7 with (fail)
          go_wp2_with fail
          refine (HGR.out l.to_ W2 (HV.out.trans HX1.out)).mono ?_
          rintro e W3 ⟨GA, gc, rfl, HGD, hx⟩
          obtain ⟨kt, hkt⟩ : ∃ k : Nat, l.to_ = (k : Int) := ⟨l.to_.toNat, by omega⟩
          have hkm : kt < m := by omega
          rw [hkt, HGV.out (by simp) kt hkm] at HGD
          have HGN := hid (show (grantV x l.to_).length = _ by rw [hkt, HGV.out (by simp) kt hkm])
          obtain ⟨q0, q1, _, _, HC9, _⟩ := HLO.out (by simp)
          have hk0 : kt < t.C.length := by omega
          have hk1 : kt < t.D.length := by omega
          obtain ⟨a, ha⟩ : ∃ y, t.C[kt] = y := ⟨_, rfl⟩
          obtain ⟨b, hb⟩ : ∃ y, t.D[kt] = y := ⟨_, rfl⟩
          obtain ⟨a0, a9⟩ := HC9 a (ha ▸ List.getElem_mem _)
          have HOE := hid (show ownC t kt = [⟨true, a.lo, a.hi, a.lo, 5, 0⟩, ⟨true, b.lo, b.hi, b.lo, 27, 0⟩, ⟨true, 16 + (kt : Int), 16 + (kt : Int) + 1, 16 + (kt : Int), 96, 0⟩] by
            unfold ownC
            rw [List.getD_eq_getElem?_getD, List.getD_eq_getElem?_getD, List.getElem?_eq_getElem hk0, List.getElem?_eq_getElem hk1, ha, hb]
            rfl)
          have HPO := hid (show PrF (pairOf t l) = [.bool true, .int .i64 a.lo, .int .i64 a.hi, .int .i64 (a.lo + 4 * l.at_), .int .i64 5, .int .i64 (2 + l.to_), .bool true, .int .i64 b.lo, .int .i64 b.hi, .int .i64 b.lo, .int .i64 27, .int .i64 (2 + l.to_)] by
            unfold pairOf
            rw [hkt, Int.toNat_natCast, List.getD_eq_getElem?_getD, List.getD_eq_getElem?_getD, List.getElem?_eq_getElem hk0, List.getElem?_eq_getElem hk1, ha, hb, Int.mul_comm 4]
            rfl)
          rw [HOE.out] at HGD HGN
          obtain ⟨gn, hgn⟩ : ∃ y, (grantV x l.to_).length = y := ⟨_, rfl⟩
          rw [hgn] at HGN ⊢
          have hgn2 : (1 : Int) < (gn : Int) := by have := HGN.out; simp only [List.length_append, List.length_cons] at this; omega
          have hgn1 : (0 : Int) < (gn : Int) := by omega
          obtain ⟨gb, go_, eG, hgb, hgr⟩ := HGD.out.elem cap_len (k := 0) (by simp) ⟨true, a.lo, a.hi, a.lo, 5, 0⟩ rfl
          obtain ⟨gb2, go2, eG2, _, hgr2⟩ := HGD.out.elem cap_len (k := 1) (by simp) ⟨true, b.lo, b.hi, b.lo, 27, 0⟩ rfl
          subst eG
          cases eG2
          have HX3 := hid (HX1.out.trans hx.out)
          have HOW3 := hid (HOW1.out.ext hx.out)
          have HG3 := hid (HG2.out.ext hx.out)
          have f0 := hgr 0 _ rfl
          have f1 := hgr 1 _ rfl
          have f2 := hgr 2 _ rfl
          have f3 := hgr 3 _ rfl
          have f4 := hgr 4 _ rfl
          have f5 := hgr 5 _ rfl
          have HGRB := hid (show gb < W3.heap.size ∧ W3.rangeAt gb (go_ + 1 * 6) _ from ⟨hgb, hgr2⟩)
          simp only [Nat.add_zero, Nat.zero_mul] at f0 f1 f2 f3 f4 f5
          clear hx HGD HGN HOE hgr hgr2 ha hb hk0 hk1 hkt hgn q0 q1 HC9 hkm HX1 HOW1 HG2 ql qc0 qc1 qc2 qc3 qc4 qc5 rl rc0 rc1 rc2
          have r := HG3.out
          have rl := r.lt
          have rc0 := r.range 0 _ rfl
          have rc1 := r.range 1 _ rfl
          have rc2 := r.range 2 _ rfl
          simp only [Nat.zero_add] at rc1 rc2
          clear r
          go_upto_region 9 with (fail)
          refine wp_gen (fun W => Hid (Ext W3 W) ∧ Hid (Row W W3.heap.size 0 [.bool true, .int .i64 a.lo, .int .i64 a.hi, .int .i64 (a.lo), .int .i64 5, .int .i64 (0)])) ⟨hid ((Ext.refl _).alloc _), hid (Row.new W3 _ _)⟩ ?_
          rintro W4 ⟨HX4, HA⟩
          have HG4 := hid (HG3.out.ext HX4.out)
          obtain ⟨p1, hp1⟩ : ∃ y, W3.heap.size = y := ⟨_, rfl⟩
          have hgp : g < p1 := by rw [← hp1]; exact HG3.out.lt
          have h3p : W3.heap.size ≤ p1 := by omega
          rw [hp1] at HA ⊢
          clear hp1 rl rc0 rc1 rc2
          have r := HG4.out
          have rl := r.lt
          have rc0 := r.range 0 _ rfl
          have rc1 := r.range 1 _ rfl
          have rc2 := r.range 2 _ rfl
          simp only [Nat.zero_add] at rc1 rc2
          clear r
          have s := HA.out
          have sl := s.lt
          have sc0 := s.range 0 _ rfl
          have sf0 := s.free 0 (by show 0 < 6; decide)
          have sc1 := s.range 1 _ rfl
          have sf1 := s.free 1 (by show 1 < 6; decide)
          have sc2 := s.range 2 _ rfl
          have sf2 := s.free 2 (by show 2 < 6; decide)
          have sc3 := s.range 3 _ rfl
          have sf3 := s.free 3 (by show 3 < 6; decide)
          have sc4 := s.range 4 _ rfl
          have sf4 := s.free 4 (by show 4 < 6; decide)
          have sc5 := s.range 5 _ rfl
          have sf5 := s.free 5 (by show 5 < 6; decide)
          simp only [Nat.zero_add] at sc1 sc2 sc3 sc4 sc5 sf1 sf2 sf3 sf4 sf5
          clear s
          go_upto_region 11 with (fail)
          refine wp_gen (fun W => Hid (Ext W3 W) ∧ Hid (Row W g 0 [.int .i64 l.fr, .int .i64 l.to_, .int .i64 l.at_]) ∧ Hid (Row W p1 0 [.bool true, .int .i64 a.lo, .int .i64 a.hi, .int .i64 (a.lo + 4 * l.at_), .int .i64 5, .int .i64 (2 + l.to_)])) ⟨hid (Ext.only HX4.out (Only.setCell (S := fun i => i = p1) (Only.setCell (S := fun i => i = p1) (Only.refl (fun i => i = p1) W4) (.inl rfl) (o := 3) (.int .i64 (a.lo + 4 * l.at_))) (.inl rfl) (o := 5) (.int .i64 (2 + l.to_))) (fun i hi => by rw [hi]; exact h3p)), hid (HG4.out.only (Only.setCell (S := fun i => i = p1) (Only.setCell (S := fun i => i = p1) (Only.refl (fun i => i = p1) W4) (.inl rfl) (o := 3) (.int .i64 (a.lo + 4 * l.at_))) (.inl rfl) (o := 5) (.int .i64 (2 + l.to_))) (by omega)), hid ((HA.out.set1 (j := 3) (.int .i64 (a.lo + 4 * l.at_))).set1 (j := 5) (.int .i64 (2 + l.to_)))⟩ ?_
          clear HX4 HG4 HA rl rc0 rc1 rc2 sl sc0 sf0 sc1 sf1 sc2 sf2 sc3 sf3 sc4 sf4 sc5 sf5
          rintro W5 ⟨HX5, HG5, HA5⟩
          have k0 := (HX5.out.cells _ _ HGRB.out.1).trans (HGRB.out.2 0 _ rfl)
          have k1 := (HX5.out.cells _ _ HGRB.out.1).trans (HGRB.out.2 1 _ rfl)
          have k2 := (HX5.out.cells _ _ HGRB.out.1).trans (HGRB.out.2 2 _ rfl)
          have k3 := (HX5.out.cells _ _ HGRB.out.1).trans (HGRB.out.2 3 _ rfl)
          have k4 := (HX5.out.cells _ _ HGRB.out.1).trans (HGRB.out.2 4 _ rfl)
          have k5 := (HX5.out.cells _ _ HGRB.out.1).trans (HGRB.out.2 5 _ rfl)
          have kl := Nat.lt_of_lt_of_le HGRB.out.1 HX5.out.size
          simp only [Nat.add_zero, Nat.one_mul] at k0 k1 k2 k3 k4 k5
          go_upto_region 12 with (fail)
          refine wp_gen (fun W => Hid (Ext W5 W) ∧ Hid (Row W W5.heap.size 0 [.bool true, .int .i64 b.lo, .int .i64 b.hi, .int .i64 b.lo, .int .i64 27, .int .i64 (0)])) ⟨hid ((Ext.refl _).alloc _), hid (Row.new W5 _ _)⟩ ?_
          rintro W6 ⟨HX6, HB6⟩
          have HG6 := hid (HG5.out.ext HX6.out)
          have HA6 := hid (HA5.out.ext HX6.out)
          obtain ⟨p2, hp2⟩ : ∃ y, W5.heap.size = y := ⟨_, rfl⟩
          have hgp2 : p1 < p2 := by rw [← hp2]; exact HA5.out.lt
          have h3p2 : W5.heap.size ≤ p2 := by omega
          rw [hp2] at HB6 ⊢
          clear hp2 k0 k1 k2 k3 k4 k5 kl
          have r := HG6.out
          have rl := r.lt
          have rc0 := r.range 0 _ rfl
          have rc1 := r.range 1 _ rfl
          have rc2 := r.range 2 _ rfl
          simp only [Nat.zero_add] at rc1 rc2
          clear r
          have s := HB6.out
          have sl := s.lt
          have sc0 := s.range 0 _ rfl
          have sf0 := s.free 0 (by show 0 < 6; decide)
          have sc1 := s.range 1 _ rfl
          have sf1 := s.free 1 (by show 1 < 6; decide)
          have sc2 := s.range 2 _ rfl
          have sf2 := s.free 2 (by show 2 < 6; decide)
          have sc3 := s.range 3 _ rfl
          have sf3 := s.free 3 (by show 3 < 6; decide)
          have sc4 := s.range 4 _ rfl
          have sf4 := s.free 4 (by show 4 < 6; decide)
          have sc5 := s.range 5 _ rfl
          have sf5 := s.free 5 (by show 5 < 6; decide)
          simp only [Nat.zero_add] at sc1 sc2 sc3 sc4 sc5 sf1 sf2 sf3 sf4 sf5
          clear s
          go_upto_region 13 with (fail)
          refine wp_gen (fun W => Hid (Ext W3 W) ∧ Hid (Row W p1 0 [.bool true, .int .i64 a.lo, .int .i64 a.hi, .int .i64 (a.lo + 4 * l.at_), .int .i64 5, .int .i64 (2 + l.to_)]) ∧ Hid (Row W p2 0 [.bool true, .int .i64 b.lo, .int .i64 b.hi, .int .i64 b.lo, .int .i64 27, .int .i64 (2 + l.to_)])) ⟨hid (HX5.out.trans (Ext.only HX6.out (Only.setCell (S := fun i => i = p2) (Only.refl (fun i => i = p2) W6) (.inl rfl) (o := 5) (.int .i64 (2 + l.to_))) (fun i hi => by rw [hi]; exact h3p2))), hid (HA6.out.only (Only.setCell (S := fun i => i = p2) (Only.refl (fun i => i = p2) W6) (.inl rfl) (o := 5) (.int .i64 (2 + l.to_))) (by omega)), hid (HB6.out.set1 (j := 5) (.int .i64 (2 + l.to_)))⟩ ?_
          clear HX6 HG6 HA6 HB6 HX5 HG5 HA5 rl rc0 rc1 rc2 sl sc0 sf0 sc1 sf1 sc2 sf2 sc3 sf3 sc4 sf4 sc5 sf5 h3p h3p2
          rintro W8 ⟨HX8, HA8, HB8⟩
          have HOW8 := hid (HOW3.out.ext HX8.out)
          have HBS8 := hid (show BS ≤ W8.heap.size by have := HBS.out; have := HX3.out.size; have := HX8.out.size; omega)
          have r := HA8.out
          have rl := r.lt
          have rc0 := r.range 0 _ rfl
          have rc1 := r.range 1 _ rfl
          have rc2 := r.range 2 _ rfl
          have rc3 := r.range 3 _ rfl
          have rc4 := r.range 4 _ rfl
          have rc5 := r.range 5 _ rfl
          simp only [Nat.zero_add] at rc1 rc2 rc3 rc4 rc5
          clear r
          have s := HB8.out
          have sl := s.lt
          have sc0 := s.range 0 _ rfl
          have sc1 := s.range 1 _ rfl
          have sc2 := s.range 2 _ rfl
          have sc3 := s.range 3 _ rfl
          have sc4 := s.range 4 _ rfl
          have sc5 := s.range 5 _ rfl
          simp only [Nat.zero_add] at sc1 sc2 sc3 sc4 sc5
          clear s
          go_upto_region 4 with (at_builtin; refine wpList_plain rfl fun K hK => ?_; go_loud (refine wp_app_row pr_len (by decide) pr_one Try.underlying36 info_pr (.tmp 56) (.tmp 60) rfl BS (.slice A N c) N (rowF PrF ((lfF (x.links.take j) n).map (pairOf t))) rfl (HOW8.out.ext ((Ext.refl _).alloc _)) (some ⟨W8.heap.size, 0, none⟩) 1 1 [pairOf t l] rfl rfl (RdF.row0 (zs := [pairOf t l]) (by rw [rowF_one, HPO.out]; exact Row.new W8 #[.bool true, .int .i64 a.lo, .int .i64 a.hi, .int .i64 (a.lo + 4 * l.at_), .int .i64 5, .int .i64 (2 + l.to_), .bool true, .int .i64 b.lo, .int .i64 b.hi, .int .i64 b.lo, .int .i64 27, .int .i64 (2 + l.to_)] _)) (by have := HNB.out; unfold maxLen; omega) (by have := HNB.out; omega) (by rw [World.size_alloc]; have := HBS8.out; omega) ?_); intro v6 w6 hown hgrow hat; obtain ⟨A6, c6, rfl, _, _⟩ := hown.shape; refine hK _ _ ?_; clear hK K)
          have HX9 := hid ((((HX3.out.trans HX8.out)).alloc _).only (grownOnly (S := fun i => BS ≤ i) hgrow (fun g e => (HOW8.out.lt g e).1)) (fun i hi => by rw [HBS.out]; exact hi))
          have HOW9 := hid (show ownsAt w6 BS 40 12 (.slice A6 (N + 1) c6) (N + 1) (rowF PrF ((lfF (x.links.take (j + 1)) n).map (pairOf t))) by rw [HT1.out, List.map_append, rowF_append]; exact hown)
          clear hown hgrow hat HOW8 HA8 HB8 HX8 HOW3 rl rc0 rc1 rc2 rc3 rc4 rc5 sl sc0 sc1 sc2 sc3 sc4 sc5
          go_wp2
          go_roundw
          case rel => exact ⟨j + 1, N + 1, _, _, by omega, by go_num, rfl, hid (fun _ => by simp), hid (by rw [HT1.out, List.map_append, List.length_append, HGL.out]; rfl), hid (by have := HNB.out; omega), HX9, HOW9⟩
          case measure => simp [intOf]; omega
        · have HT1 := hid (HT0.out.trans (if_neg (by simpa using hfn)))
          have hfi : (l.fr == n) = false := by simpa using hfn
          go_wp2
          go_roundw
          case rel => exact ⟨j + 1, N, A, c, by omega, by go_num, rfl, hid (fun _ => by simp), hid (by rw [HT1.out]; exact HGL.out), hid (by have := HNB.out; omega), HX1, hid (by rw [HT1.out]; exact HOW1.out)⟩
          case measure => simp [intOf]; omega
    · obtain rfl : ml = j := by omega
      have hj1 : ¬ (ml : Int) < (ml : Int) := by omega
      have HTK := hid (show x.links.take ml = x.links from List.take_of_length_le (by rw [HML.out]; exact Nat.le_refl _))
      have HPL := hid (show (lfF (x.links.take ml) n).map (pairOf t) = PV by
        cases v with
        | true => rw [HTK.out]; exact (HPY.out rfl).symm
        | false =>
          have h9 : ml = 0 := by
            by_cases h9 : ml = 0
            · exact h9
            · exact absurd (HVJ.out (by omega)) (by decide)
          rw [HPN.out rfl]
          subst h9
          simp [lfF])
      rw [HPL.out] at HGL HOW
      go_wp2
      go_ret
      exact ⟨A, ⟨c, by rw [HGL.out]; rfl⟩, hid (HOW.out.rdF HGL.out), hid (HV.out.trans HX.out)⟩

end Go.Proofs.Ytgldlkoohfclpaa
