/- Layer 17: Grants. -/
import Derived.Test.YtgldlkoohfclpaaImM
namespace Go.Proofs.Ytgldlkoohfclpaa
set_option linter.unusedSimpArgs false
set_option linter.unusedVariables false
open Go.RowKit

theorem cap_len (c : Cap) : (Cap.cells c).length = 6 := rfl
theorem cap_one : ∀ c : Cap, ∀ u ∈ Cap.cells c, u.oneCell' = true := by
  intro c u hu
  simp only [Cap.cells, List.mem_cons, List.not_mem_nil, or_false] at hu
  rcases hu with rfl | rfl | rfl | rfl | rfl | rfl <;> rfl
theorem info_capN : InfoN Try.prog 39 6 48 := infoN_of (by kernel_rfl)
theorem andNot_le {a b : Int} (ha : -9223372036854775808 ≤ a ∧ a ≤ 9223372036854775807) (hb : 0 ≤ b ∧ b ≤ 15) (h : bits .andNot .i64 a b = 0) : 0 ≤ a ∧ a ≤ 15 := by
  have hv : (BitVec.ofInt 64 a &&& ~~~ BitVec.ofInt 64 b).toNat = 0 := by
    have h1 : IntKind.i64.wrap ((BitVec.ofInt 64 a &&& ~~~ BitVec.ofInt 64 b).toNat : Int) = 0 := h
    rw [IntKind.wrap_i64] at h1
    have := (BitVec.ofInt 64 a &&& ~~~ BitVec.ofInt 64 b).isLt
    omega
  have hz : BitVec.ofInt 64 a &&& ~~~ BitVec.ofInt 64 b = 0#64 := BitVec.eq_of_toNat_eq hv
  have he : BitVec.ofInt 64 a = BitVec.ofInt 64 a &&& BitVec.ofInt 64 b := by
    apply BitVec.eq_of_getLsbD_eq
    intro i hi
    have h2 := congrArg (fun v => v.getLsbD i) hz
    simp only [BitVec.getLsbD_and, BitVec.getLsbD_not, BitVec.getLsbD_zero, hi, decide_true, Bool.true_and] at h2 ⊢
    cases h3 : (BitVec.ofInt 64 a).getLsbD i <;> cases h4 : (BitVec.ofInt 64 b).getLsbD i <;> simp_all
  have hn := congrArg BitVec.toNat he
  rw [BitVec.toNat_and] at hn
  have hle : (BitVec.ofInt 64 a).toNat ≤ (BitVec.ofInt 64 b).toNat := by rw [hn]; exact Nat.and_le_right
  rw [BitVec.toNat_ofInt, BitVec.toNat_ofInt] at hle
  omega
theorem flatMap_snoc' {α : Type} (f : α → List Cap) (l : List α) (z : α) : (l ++ [z]).flatMap f = l.flatMap f ++ f z := by simp
/-- Is a bit set? -/
def bitAt (z : Int) (k : Nat) : Int := z / 2 ^ k % 2
theorem and1 {z : Int} (h0 : 0 ≤ z) (h1 : z < 2 ^ 63) (k : Nat) : bits .and .i64 (z / 2 ^ k) 1 = bitAt z k := by
  have hp : (0 : Int) < 2 ^ k := Int.pow_pos (by decide)
  exact bits_mask .i64 63 (by decide) wraps_64 1 (by decide) (z / 2 ^ k) (Int.ediv_nonneg h0 (Int.le_of_lt hp)) (Int.lt_of_le_of_lt (Int.ediv_le_self _ h0) h1)
def shCap (s : Int) (d : Shr) (k : Nat) : Cap := ⟨true, s, s + 256, s, if bitAt d.wr_ k = 1 then 3 else 1, 0⟩
def ownC (t : LayS) (k : Nat) : List Cap := [⟨true, (t.C.getD k ⟨0, 0⟩).lo, (t.C.getD k ⟨0, 0⟩).hi, (t.C.getD k ⟨0, 0⟩).lo, 5, 0⟩, ⟨true, (t.D.getD k ⟨0, 0⟩).lo, (t.D.getD k ⟨0, 0⟩).hi, (t.D.getD k ⟨0, 0⟩).lo, 27, 0⟩, ⟨true, 16 + (k : Int), 16 + (k : Int) + 1, 16 + (k : Int), 96, 0⟩]
def shF (t : LayS) (k : Nat) (p : Shr × Nat) : List Cap := if bitAt p.1.rd k = 0 then [] else [shCap (t.S.getD p.2 0) p.1 k]
def grantV (x : Img) (n : Int) : List Cap := if (rightV x && !outB n 0 ((x.comps.length : Int) - 1)) = true then ownC (layV x) n.toNat ++ x.shares.zipIdx.flatMap (shF (layV x) n.toNat) else []
set_option maxRecDepth 100000 in
set_option maxHeartbeats 4000000 in
theorem grants_ (x : Img) (n : Int) (w : World) (h : ImgAt w x) (hc : x.comps.length ≤ 100000) (hl : x.links.length ≤ 100000) (hs : x.shares.length ≤ 100000) (hw : ∀ s ∈ x.shares, -9223372036854775808 ≤ s.wr_ ∧ s.wr_ ≤ 9223372036854775807) : Calls Try.prog 25 #[.agg #[.bool x.strict, .int .i64 x.heap, .int .i64 x.full, .slice x.C x.comps.length x.cc, .slice x.L x.links.length x.lc, .slice x.S x.shares.length x.sc], .int .i64 n] w fun e w' => ∃ A ca, e = .returned (.slice A (grantV x n).length ca) ∧ Hid (ownsAt w' w.heap.size 39 6 (.slice A (grantV x n).length ca) (grantV x n).length (rowF Cap.cells (grantV x n))) ∧ Hid (Ext w w') := by
  have HI := hid h
  have HR : Hid (∀ W, Ext w W → Calls Try.prog 46 #[.agg #[.bool x.strict, .int .i64 x.heap, .int .i64 x.full, .slice x.C x.comps.length x.cc, .slice x.L x.links.length x.lc, .slice x.S x.shares.length x.sc], .int .i64 n] W fun e w' => e = .returned (.bool (rightV x && !outB n 0 ((x.comps.length : Int) - 1))) ∧ Ext W w') := hid (fun W hx => isComp_ x n W (h.ext hx) hc hl hs)
  have HL : Hid (rightV x = true → ∀ W, Ext w W → Calls Try.prog 47 #[.agg #[.bool x.strict, .int .i64 x.heap, .int .i64 x.full, .slice x.C x.comps.length x.cc, .slice x.L x.links.length x.lc, .slice x.S x.shares.length x.sc]] W fun e w' => ∃ y : LayC, e = .returned (.agg #[y.vc, y.vd, y.vh, y.vs, .int .i64 (layV x).pg]) ∧ Hid (LayB w' y.q y.base y.vc y.vd y.vh y.vs (layV x)) ∧ Hid (Ext W w')) := hid (fun hr W hx => by
    obtain ⟨n5, hcm, _, _⟩ := rightV_ok hr
    refine (layout_ x W (h.ext hx) ⟨n5.1, n5.2.1⟩ (fun c hc => (hcm c hc).1) (by omega) (by omega)).mono ?_
    rintro e w' ⟨q, base, vc, vd, vh, vs, he, h1, h2, _⟩
    exact ⟨⟨q, base, vc, vd, vh, vs⟩, he, h1, h2⟩)
  have HPV := hid (show grantV x n = if (rightV x && !outB n 0 ((x.comps.length : Int) - 1)) = true then _ else [] from rfl)
  have HRT := hid (show (rightV x && !outB n 0 ((x.comps.length : Int) - 1)) = true → rightV x = true ∧ 0 ≤ n ∧ n < (x.comps.length : Int) from fun h2 => by
    rw [Bool.and_eq_true, Bool.not_eq_true'] at h2
    have := outB_no h2.2
    exact ⟨h2.1, this.1, by omega⟩)
  obtain ⟨PV, hPV⟩ : ∃ y, grantV x n = y := ⟨_, rfl⟩
  rw [hPV] at HPV ⊢
  obtain ⟨v, hv⟩ : ∃ y, (rightV x && !outB n 0 ((x.comps.length : Int) - 1)) = y := ⟨_, rfl⟩
  rw [hv] at HR HPV HRT
  have HSH := hid (show v = true → ∀ s ∈ x.shares, 0 ≤ s.rd ∧ s.rd ≤ 15 ∧ 0 ≤ s.wr_ ∧ s.wr_ ≤ 15 from fun hvt s hm => by
    obtain ⟨hn5, _, _, hsh⟩ := rightV_ok (HRT.out hvt).1
    have h1 := hsh s hm
    unfold shOk at h1
    simp only [List.any_cons, List.any_nil, id, Bool.not_eq_true', Bool.or_eq_false_iff, Bool.or_false] at h1
    obtain ⟨h2, h3⟩ := h1
    have h4 := outB_no h2
    have h5 : (2 : Int) ^ x.comps.length - 1 ≤ 15 := by
      rcases (show x.comps.length = 1 ∨ x.comps.length = 2 ∨ x.comps.length = 3 ∨ x.comps.length = 4 by omega) with e | e | e | e <;> rw [e] <;> decide
    have h6 : bits .andNot .i64 s.wr_ s.rd = 0 := by simpa using h3
    have h7 := andNot_le (hw s hm) ⟨h4.1, by omega⟩ h6
    exact ⟨h4.1, by omega, h7.1, h7.2⟩)
  have HLO := hid (show v = true → _ from fun hvt => layV_ok (HRT.out hvt).1)
  have HM4 := hid (show v = true → x.comps.length ≤ 4 ∧ x.shares.length ≤ 4 from fun hvt => by have := (rightV_ok (HRT.out hvt).1).1; omega)
  have HSS := hid h.s
  obtain ⟨t, ht⟩ : ∃ y, layV x = y := ⟨_, rfl⟩
  rw [ht] at HL HPV HLO
  obtain ⟨m, hm⟩ : ∃ y, x.comps.length = y := ⟨_, rfl⟩
  obtain ⟨ml, hml⟩ : ∃ y, x.links.length = y := ⟨_, rfl⟩
  obtain ⟨ms, hms⟩ : ∃ y, x.shares.length = y := ⟨_, rfl⟩
  obtain ⟨Ca, hCa⟩ : ∃ y, x.C = y := ⟨_, rfl⟩
  obtain ⟨La, hLa⟩ : ∃ y, x.L = y := ⟨_, rfl⟩
  obtain ⟨Sa, hSa⟩ : ∃ y, x.S = y := ⟨_, rfl⟩
  rw [hm, hml, hms, hCa, hLa, hSa] at HR HL
  rw [hm] at HRT HLO HM4
  rw [hms] at HLO HM4
  rw [hSa] at HSS
  have HMS := hid hms
  rw [hm, hml, hms, hCa, hLa, hSa]
  clear hm hml hms hCa hLa hSa h hl hs hc hv hPV ht HI hw
  go_enter Try.func25, Try.ntmps25
  go_upto_region 1 with (fail)
  refine wp_gen (fun V => Hid (Ext w V) ∧ Row V w.heap.size 0 [.bool x.strict, .int .i64 x.heap, .int .i64 x.full, .slice Ca m x.cc, .slice La ml x.lc, .slice Sa ms x.sc]) ⟨hid (by repeat (first | (with_reducible exact Ext.refl _) | (with_reducible refine Ext.undrew ?_) | (with_reducible refine Ext.grow ?_ _) | (with_reducible refine Ext.drew ?_) | (with_reducible refine Ext.drewN ?_ _) | (with_reducible refine Ext.alloc ?_ _) | (with_reducible assumption) | ((with_reducible refine Ext.setCell ?_ ?_ _); rotate_left; (first | exact Nat.le_refl _ | ((try dsimp only); (try simp only [World.size_alloc, grow_size, World.size_setCell]); omega))))), Row.new w _ _⟩ ?_
  rintro V ⟨HV, hrow⟩
  have HRW := hid hrow
  clear hrow
  have d0 := HRW.out.range 0 _ rfl
  have d1 := HRW.out.range 1 _ rfl
  have d2 := HRW.out.range 2 _ rfl
  have d3 := HRW.out.range 3 _ rfl
  have d4 := HRW.out.range 4 _ rfl
  have d5 := HRW.out.range 5 _ rfl
  have hl0 := HRW.out.lt
  simp only [Nat.zero_add] at d1 d2 d3 d4 d5
  go_wp2_with fail
  refine (HR.out V HV.out).mono ?_
  rintro e W1 ⟨rfl, hy⟩
  have HE := hid (HV.out.trans hy)
  replace HRW := hid (HRW.out.ext hy)
  clear hy HR d0 d1 d2 d3 d4 d5 hl0
  cases v with
  | false =>
    have hp0 := HPV.out
    rw [if_neg (by decide)] at hp0
    subst hp0
    go_wp2
    go_ret
    exact ⟨none, 0, rfl, hid (ownsAt_nil _ _ _ _), HE⟩
  | true =>
    obtain ⟨hrt, hn0, hnm⟩ := HRT.out rfl
    replace HL := hid (HL.out hrt)
    replace HSH := hid (HSH.out rfl)
    obtain ⟨hm4, hs4⟩ := HM4.out rfl
    obtain ⟨q0, q1, q2, q3, HC9, HS9⟩ := HLO.out rfl
    replace HC9 := hid HC9
    replace HS9 := hid HS9
    replace HPV := hid (HPV.out.trans (if_pos rfl))
    obtain ⟨k, rfl⟩ : ∃ k : Nat, n = (k : Int) := ⟨n.toNat, by omega⟩
    have hk3 : k < m := by omega
    rw [Int.toNat_natCast] at HPV
    clear HRT HLO hrt HM4
    have d0 := HRW.out.range 0 _ rfl
    have d1 := HRW.out.range 1 _ rfl
    have d2 := HRW.out.range 2 _ rfl
    have d3 := HRW.out.range 3 _ rfl
    have d4 := HRW.out.range 4 _ rfl
    have d5 := HRW.out.range 5 _ rfl
    have hl0 := HRW.out.lt
    simp only [Nat.zero_add] at d1 d2 d3 d4 d5
    go_wp2_with fail
    refine (HL.out W1 HE.out).mono ?_
    rintro e W2 ⟨y, rfl, HY, hy⟩
    obtain ⟨q, base, vc, vd, vh, vs⟩ := y
    obtain ⟨B0, b0, rfl, _, _⟩ := HY.out.o0.shape
    obtain ⟨B1, b1, rfl, _, _⟩ := HY.out.o1.shape
    obtain ⟨B2, b2, rfl, _, _⟩ := HY.out.o2.shape
    obtain ⟨B3, b3, rfl, _, _⟩ := HY.out.o3.shape
    have HRC := hid (HY.out.o0.rdF rfl)
    have HRD := hid (HY.out.o1.rdF rfl)
    have HRS := hid (HY.out.o3.rdF rfl)
    have HE2 := hid (HE.out.trans hy.out)
    replace HRW := hid (HRW.out.ext hy.out)
    obtain ⟨n0, hn0'⟩ : ∃ y, t.C.length = y := ⟨_, rfl⟩
    obtain ⟨n1, hn1'⟩ : ∃ y, t.D.length = y := ⟨_, rfl⟩
    obtain ⟨n2, hn2'⟩ : ∃ y, t.H.length = y := ⟨_, rfl⟩
    obtain ⟨n3, hn3'⟩ : ∃ y, t.S.length = y := ⟨_, rfl⟩
    have HN0 := hid hn0'
    have HN1 := hid hn1'
    have HN3 := hid hn3'
    rw [hn0', hn1', hn2', hn3']
    rw [hn0'] at q0
    rw [hn1'] at q1
    rw [hn3'] at q3
    have Q0 := hid q0
    have Q1 := hid q1
    have Q3 := hid q3
    clear q0 q1 q2 q3
    clear hy HY HL d0 d1 d2 d3 d4 d5 hl0 hn0' hn1' hn2' hn3' HE
    go_upto_region 4 with (fail)
    refine wp_gen (fun W => Hid (Ext W2 W) ∧ Hid (Row W W2.heap.size 0 [.slice B0 n0 b0, .slice B1 n1 b1, .slice B2 n2 b2, .slice B3 n3 b3, .int .i64 t.pg])) ⟨hid ((Ext.refl _).alloc _), hid (Row.new W2 _ _)⟩ ?_
    rintro W4 ⟨hx4, HR5⟩
    replace HRC := hid (HRC.out.ext hx4.out)
    replace HRD := hid (HRD.out.ext hx4.out)
    replace HRS := hid (HRS.out.ext hx4.out)
    replace HRW := hid (HRW.out.ext hx4.out)
    have HE4 := hid (HE2.out.trans hx4.out)
    obtain ⟨p5, hp5⟩ : ∃ y, W2.heap.size = y := ⟨_, rfl⟩
    rw [hp5] at HR5 ⊢
    clear hx4 hp5 HE2
    have hk0 : k < t.C.length := by rw [HN0.out, Q0.out]; omega
    have hk1 : k < t.D.length := by rw [HN1.out, Q1.out]; omega
    obtain ⟨a, ha⟩ : ∃ y, t.C[k] = y := ⟨_, rfl⟩
    obtain ⟨b, hb⟩ : ∃ y, t.D[k] = y := ⟨_, rfl⟩
    have HPO := hid (show ownC t k = [⟨true, a.lo, a.hi, a.lo, 5, 0⟩, ⟨true, b.lo, b.hi, b.lo, 27, 0⟩, ⟨true, 16 + (k : Int), 16 + (k : Int) + 1, 16 + (k : Int), 96, 0⟩] by
      unfold ownC
      rw [List.getD_eq_getElem?_getD, List.getD_eq_getElem?_getD, List.getElem?_eq_getElem hk0, List.getElem?_eq_getElem hk1, ha, hb]
      rfl)
    have HOWN := hid (own_ B0 B1 B2 B3 n0 n1 n2 n3 b0 b1 b2 b3 t.pg t.C t.D k a b W4 HRC.out HRD.out HN0.out HN1.out hk0 hk1 ha hb)
    clear hk0 hk1 ha hb HRC HRD
    have r2 := HR5.out
    have r2l := r2.lt
    have r2c0 := r2.range 0 _ rfl
    have r2f0 := r2.free 0 (by show 0 < 5; decide)
    have r2c1 := r2.range 1 _ rfl
    have r2f1 := r2.free 1 (by show 1 < 5; decide)
    have r2c2 := r2.range 2 _ rfl
    have r2f2 := r2.free 2 (by show 2 < 5; decide)
    have r2c3 := r2.range 3 _ rfl
    have r2f3 := r2.free 3 (by show 3 < 5; decide)
    have r2c4 := r2.range 4 _ rfl
    have r2f4 := r2.free 4 (by show 4 < 5; decide)
    simp only [Nat.zero_add] at r2c1 r2c2 r2c3 r2c4 r2f1 r2f2 r2f3 r2f4
    clear r2
    go_wp2_with fail
    refine HOWN.out.mono ?_
    rintro e W5 ⟨rfl, hy⟩
    replace HRS := hid (HRS.out.ext hy)
    replace HRW := hid (HRW.out.ext hy)
    replace HR5 := hid (HR5.out.ext hy)
    have HE5 := hid (HE4.out.trans hy)
    clear r2l r2c0 r2f0 r2c1 r2f1 r2c2 r2f2 r2c3 r2f3 r2c4 r2f4
    clear hy HOWN HE4
    go_upto_region 5 with (fail)
    refine wp_gen (fun W => Hid (Ext W5 W) ∧ Hid (Row W W5.heap.size 0 [.bool true, .int .i64 a.lo, .int .i64 a.hi, .int .i64 a.lo, .int .i64 5, .int .i64 0]) ∧ Hid (Row W (W5.heap.size + 1) 0 [.bool true, .int .i64 b.lo, .int .i64 b.hi, .int .i64 b.lo, .int .i64 27, .int .i64 0])) ⟨hid (((Ext.refl _).alloc _).alloc _), hid ((Row.new W5 _ _).ext ((Ext.refl _).alloc _)), hid ?_⟩ ?_
    · have h9 := Row.new (W5.alloc (.cells #[.bool true, .int .i64 a.lo, .int .i64 a.hi, .int .i64 a.lo, .int .i64 5, .int .i64 0] 39)) #[.bool true, .int .i64 b.lo, .int .i64 b.hi, .int .i64 b.lo, .int .i64 27, .int .i64 0] 39
      rw [World.size_alloc] at h9
      exact h9
    rintro W6 ⟨hx6, HA6, HB6⟩
    obtain ⟨a1, ha1⟩ : ∃ y, W5.heap.size = y := ⟨_, rfl⟩
    rw [ha1] at HA6 HB6 ⊢
    replace HRS := hid (HRS.out.ext hx6.out)
    replace HRW := hid (HRW.out.ext hx6.out)
    replace HR5 := hid (HR5.out.ext hx6.out)
    have HE6 := hid (HE5.out.trans hx6.out)
    clear hx6 ha1 HE5
    refine wp_region_step (.rd 0 (.rd 1 (.rd 2 (.rd 3 (.rd 4 (.rd 5 (.rd 6 (.rd 7 (.ac 8 (.ac 9 (.rd 10 .done))))))))))) (by kernel_rfl) (by kernel_rfl) (fun _ _ d _ _ h => by cases d <;> exact h) (by simp only [Ord.map, nthOp, List.append]; rfl) ?_
    intro d0
    have HU0 := hid (Ext.grow (Ext.refl W6) d0)
    generalize Go.Proofs.Ytgldlkoohfclpaa.grow W6 d0 = U0 at HU0 ⊢
    refine step_read (by rfl) (fun K hK => ?_)
    refine quiet_loadC 39 (.tmp 6) rfl (a1) (0) rfl [.bool true, .int .i64 a.lo, .int .i64 a.hi, .int .i64 a.lo, .int .i64 5, .int .i64 0] _ (fun w' hw' => (by obtain ⟨dd, rfl⟩ := hw'; exact (HA6.out.ext (HU0.out.trans (Ext.grow (Ext.refl _) dd))).range)) Try.underlying39 rfl (by kernel_rfl) ?_
    refine hK _ ?_
    clear hK K
    simp only [Act.put, List.setIfInBounds_toArray, List.set_cons_zero, List.set_cons_succ]
    refine step_read (by rfl) (fun K hK => ?_)
    refine quiet_loadC 39 (.tmp 7) rfl ((a1 + 1)) (0) rfl [.bool true, .int .i64 b.lo, .int .i64 b.hi, .int .i64 b.lo, .int .i64 27, .int .i64 0] _ (fun w' hw' => (by obtain ⟨dd, rfl⟩ := hw'; exact (HB6.out.ext (HU0.out.trans (Ext.grow (Ext.refl _) dd))).range)) Try.underlying39 rfl (by kernel_rfl) ?_
    refine hK _ ?_
    clear hK K
    simp only [Act.put, List.setIfInBounds_toArray, List.set_cons_zero, List.set_cons_succ]
    refine step_read (by rfl) (fun K hK => ?_)
    go_big_quiet_op
    refine hK _ ?_
    clear hK K
    refine step_read (by rfl) (fun K hK => ?_)
    refine quiet_runD 27 rfl (.int .i64 (16 + (k : Int))) (fun w => by go_simp; exact wraps_64 _ (by omega) (by omega)) ?_
    refine hK _ ?_
    clear hK K
    simp only [Act.put, List.setIfInBounds_toArray, List.set_cons_zero, List.set_cons_succ]
    refine step_read (by rfl) (fun K hK => ?_)
    go_big_quiet_op
    refine hK _ ?_
    clear hK K
    refine step_read (by rfl) (fun K hK => ?_)
    refine quiet_runD 29 rfl (.int .i64 (16 + (k : Int))) (fun w => by go_simp; exact wraps_64 _ (by omega) (by omega)) ?_
    refine hK _ ?_
    clear hK K
    simp only [Act.put, List.setIfInBounds_toArray, List.set_cons_zero, List.set_cons_succ]
    refine step_read (by rfl) (fun K hK => ?_)
    refine quiet_runD 30 rfl (.int .i64 (16 + (k : Int) + 1)) (fun w => by go_simp; exact wraps_64 _ (by omega) (by omega)) ?_
    refine hK _ ?_
    clear hK K
    simp only [Act.put, List.setIfInBounds_toArray, List.set_cons_zero, List.set_cons_succ]
    refine step_read (by rfl) (fun K hK => ?_)
    refine quiet_runD 31 rfl (.agg #[.int .i64 (16 + (k : Int)), .int .i64 (16 + (k : Int) + 1)]) (fun w => by kernel_rfl) ?_
    refine hK _ ?_
    clear hK K
    simp only [Act.put, List.setIfInBounds_toArray, List.set_cons_zero, List.set_cons_succ]
    refine step_act (by rfl) (fun K hK => ?_)
    go_wp2_with (go_at_call 51; refine (to_ (16 + (k : Int)) (16 + (k : Int) + 1) 96 U0).mono ?_; rintro e U1 ⟨rfl, hx⟩)
    refine ⟨_, hx, Ext.refl _, ?_⟩
    have HU1 := hid (HU0.out.trans hx)
    have hxa8 := hx
    clear hx
    refine step_act (by rfl) (fun K hK => ?_)
    go_wp2_with fail
    refine ⟨_, (Ext.refl _).alloc _, Ext.refl _, ?_⟩
    refine step_read (by rfl) (fun K hK => ?_)
    go_big_quiet_op
    refine hK _ ?_
    clear hK K
    refine step_nil ?_
    go_upto_region 6 with (fail)
    have HUE := hid (HE6.out.trans HU1.out)
    refine wp_gen (fun W => Hid (Ext U1 W) ∧ Hid (ownsAt W U1.heap.size 39 6 (.slice (some ⟨U1.heap.size, 0, none⟩) 3 3) 3 (rowF Cap.cells (ownC t k)))) ⟨hid ((Ext.refl _).alloc _), hid (by rw [HPO.out]; exact own_new #[.bool true, .int .i64 a.lo, .int .i64 a.hi, .int .i64 a.lo, .int .i64 5, .int .i64 0, .bool true, .int .i64 b.lo, .int .i64 b.hi, .int .i64 b.lo, .int .i64 27, .int .i64 0, .bool true, .int .i64 (16 + (k : Int)), .int .i64 (16 + (k : Int) + 1), .int .i64 (16 + (k : Int)), .int .i64 96, .int .i64 0] _ 6 3 (Nat.le_refl _) rfl (by decide))⟩ ?_
    rintro W0 ⟨hx0, HOW⟩
    replace HRS := hid (HRS.out.ext HU1.out)
    replace HRW := hid (HRW.out.ext HU1.out)
    replace HR5 := hid (HR5.out.ext HU1.out)
    have HSR := hid (HSS.out.ext HUE.out)
    obtain ⟨BS, hBS⟩ : ∃ y, U1.heap.size = y := ⟨_, rfl⟩
    rw [hBS] at HOW ⊢
    have HBS := hid hBS
    clear HA6 HB6 HE6 HPO hBS HSS
    have r1 := HRW.out.ext hx0.out
    have r1l := r1.lt
    have r1c0 := r1.range 0 _ rfl
    have r1f0 := r1.free 0 (by show 0 < 6; decide)
    have r1c1 := r1.range 1 _ rfl
    have r1f1 := r1.free 1 (by show 1 < 6; decide)
    have r1c2 := r1.range 2 _ rfl
    have r1f2 := r1.free 2 (by show 2 < 6; decide)
    have r1c3 := r1.range 3 _ rfl
    have r1f3 := r1.free 3 (by show 3 < 6; decide)
    have r1c4 := r1.range 4 _ rfl
    have r1f4 := r1.free 4 (by show 4 < 6; decide)
    have r1c5 := r1.range 5 _ rfl
    have r1f5 := r1.free 5 (by show 5 < 6; decide)
    simp only [Nat.zero_add] at r1c1 r1c2 r1c3 r1c4 r1c5 r1f1 r1f2 r1f3 r1f4 r1f5
    clear r1
    go_wp2
    clear r1l r1c0 r1f0 r1c1 r1f1 r1c2 r1f2 r1c3 r1f3 r1c4 r1f4 r1c5 r1f5
    go_loopw [8, 37] (fun v i wr => ∃ (j N : Nat) (A : Option Addr) (c : Nat), j ≤ ms ∧ i = .int .i64 j ∧ v = .slice A N c ∧ Hid ((ownC t k ++ (x.shares.zipIdx.take j).flatMap (shF t k)).length = N) ∧ Hid (N ≤ 3 + j) ∧ Hid (Ext U1 wr) ∧ Hid (ownsAt wr BS 39 6 (.slice A N c) N (rowF Cap.cells (ownC t k ++ (x.shares.zipIdx.take j).flatMap (shF t k))))) (fun _ i _ => ms - (intOf i).toNat)
    case atStart => exact ⟨0, 3, _, _, Nat.zero_le _, rfl, rfl, hid rfl, hid (Nat.le_refl _), hx0, hid (by rw [List.take_zero, List.flatMap_nil, List.append_nil]; exact HOW.out)⟩
    case round =>
      clear HOW hx0
      obtain ⟨j, N, A, c, hj, rfl, rfl, HGL, HNB, HX, HOW⟩ := hrel
      by_cases hlt : j < ms
      · have hj1 : (j : Int) < (ms : Int) := by omega
        have hj0 : (0 : Int) ≤ (j : Int) := by omega
        have hjl : j < x.shares.length := by rw [HMS.out]; exact hlt
        obtain ⟨d, hd⟩ : ∃ y, x.shares[j] = y := ⟨_, rfl⟩
        obtain ⟨w0', w1', w2', w3'⟩ := HSH.out d (hd ▸ List.getElem_mem _)
        have HMR := hid (show ownC t k ++ (x.shares.zipIdx.take (j + 1)).flatMap (shF t k) = (ownC t k ++ (x.shares.zipIdx.take j).flatMap (shF t k)) ++ shF t k (d, j) by
          rw [List.take_succ_eq_append_getElem (by simpa using hjl), List.getElem_zipIdx, hd, Nat.zero_add, flatMap_snoc', List.append_assoc])
        obtain ⟨b', o', eA, hb1, hrg⟩ := (HSR.out.ext HX.out).elem shr_len hjl d hd
        have e0 := hrg 0 _ rfl
        have e1 := hrg 1 _ rfl
        simp only [Nat.add_zero] at e0
        subst eA
        clear hrg hd hjl
        go_upto_region 9 with (fail)
        refine wp_gen (fun W => Hid (Ext wr W) ∧ Hid (Row W wr.heap.size 0 [.int .i64 d.rd, .int .i64 d.wr_])) ⟨hid ((Ext.refl _).alloc _), hid (Row.new wr _ _)⟩ ?_
        rintro W1 ⟨HE1, HG1⟩
        obtain ⟨g, hg⟩ : ∃ y, wr.heap.size = y := ⟨_, rfl⟩
        rw [hg] at HG1 ⊢
        clear hg e0 e1 hb1
        have r1 := HG1.out
        have r1l := r1.lt
        have r1c0 := r1.range 0 _ rfl
        have r1f0 := r1.free 0 (by show 0 < 2; decide)
        have r1c1 := r1.range 1 _ rfl
        have r1f1 := r1.free 1 (by show 1 < 2; decide)
        simp only [Nat.zero_add] at r1c1 r1f1
        clear r1
        obtain ⟨b3', o3', eS, hb3, hrg3⟩ := (HRS.out.ext HX.out).elem int_len (k := j) (by rw [HN3.out, Q3.out]; exact hlt) (t.S[j]'(by rw [HN3.out, Q3.out]; exact hlt)) rfl
        obtain ⟨s, hs⟩ : ∃ y, t.S[j]'(by rw [HN3.out, Q3.out]; exact hlt) = y := ⟨_, rfl⟩
        rw [hs] at hrg3
        have hsb := HS9.out s (hs ▸ List.getElem_mem _)
        have HSC := hid (show shF t k (d, j) = if bitAt d.rd k = 0 then [] else [shCap s d k] by
          unfold shF
          rw [List.getD_eq_getElem?_getD, List.getElem?_eq_getElem (by rw [HN3.out, Q3.out]; exact hlt), hs]
          rfl)
        have es := hrg3 0 _ rfl
        simp only [Nat.add_zero, Nat.mul_one] at es
        subst eS
        have ESC := hid es
        have hb3l := hb3
        have hj3 : (j : Int) < (n3 : Int) := by have := Q3.out; omega
        have hj4 : ¬ n3 ≤ j := by have := Q3.out; omega
        have HB3U := hid (show b3' < U1.heap.size by
          obtain ⟨b4, o4, e4, hb4, _⟩ := HRS.out (by rw [HN3.out, Q3.out]; omega)
          cases e4
          exact hb4)
        clear hrg3 hs es
        have z0 : bits .and .i64 (d.rd / 2 ^ k) 1 = bitAt d.rd k := and1 (by omega) (by omega) k
        have z1 : bits .and .i64 (d.wr_ / 2 ^ k) 1 = bitAt d.wr_ k := and1 (by omega) (by omega) k
        have z2 : bits .or .i64 1 2 = 3 := by decide
        obtain ⟨bx, hbx⟩ : ∃ y, bitAt d.rd k = y := ⟨_, rfl⟩
        obtain ⟨by_, hby⟩ : ∃ y, bitAt d.wr_ k = y := ⟨_, rfl⟩
        have hx2 : bx = 0 ∨ bx = 1 := by rw [← hbx]; unfold bitAt; omega
        have hy2 : by_ = 0 ∨ by_ = 1 := by rw [← hby]; unfold bitAt; omega
        unfold shCap at HSC
        rw [hbx, hby] at HSC
        rw [hbx] at z0
        rw [hby] at z1
        clear hbx hby
        rcases hx2 with rfl | rfl
        · rw [if_pos rfl] at HSC
          rw [HSC.out, List.append_nil] at HMR
          go_wp2
          go_roundw
          case rel => exact ⟨j + 1, N, _, _, by omega, by go_num, rfl, hid (by rw [HMR.out]; exact HGL.out), hid (by have := HNB.out; omega), hid (HX.out.trans HE1.out), hid (by rw [HMR.out]; exact HOW.out.ext HE1.out)⟩
          case measure => simp [intOf]; omega
        · rw [if_neg (by decide)] at HSC
          rw [HSC.out] at HMR
          rcases hy2 with rfl | rfl
          · rw [if_neg (by decide)] at HMR
            go_upto_region 13 with (fail)
            refine wp_region_only (S := (fun i => (Value.slice A N c).ownBlock = some i)) (.rd 0 (.rd 1 (.rd 2 (.rd 3 (.rd 4 (.rd 5 (.rd 6 (.rd 7 (.rd 8 (.rd 9 (.rd 10 (.rd 11 (.rd 12 (.rd 13 (.ac 14 (.ac 15 (.ac 16 (.rd 17 .done)))))))))))))))))) (by kernel_rfl) (by kernel_rfl) (fun _ _ d _ _ h => by cases d <;> exact h) (by simp only [Ord.map, nthOp, List.append]; rfl) ?_
            intro d1
            have hex := HE1.out.trans (Ext.grow (Ext.refl W1) d1)
            have HX5 := hid (HX.out.trans hex)
            have HOW5 := hid (HOW.out.ext hex)
            have hes5 := (hex.cells b3' _ hb3l).trans ESC.out
            have hbl5 := Nat.lt_of_lt_of_le hb3l hex.size
            generalize Go.Proofs.Ytgldlkoohfclpaa.grow W1 d1 = W5 at HX5 HOW5 hes5 hbl5 ⊢
            have hp3 := (HX5.out.cells p5 3 HR5.out.lt).trans (HR5.out.range 3 _ rfl)
            have hpl := Nat.lt_of_lt_of_le HR5.out.lt HX5.out.size
            have HNP := hid (show ¬ (Value.slice A N c).ownBlock = some p5 from fun e => by have := (HOW5.out.lt _ e).1; have := HBS.out; have := HR5.out.lt; omega)
            have HNB3 := hid (show ¬ (Value.slice A N c).ownBlock = some b3' from fun e => by have := (HOW5.out.lt _ e).1; have := HBS.out; have := HB3U.out; omega)
            have HBZ := hid (show BS ≤ W5.heap.size by have := HBS.out; have := HX5.out.size; omega)
            have HS0 := hid (Only.refl (fun i => (Value.slice A N c).ownBlock = some i) W5)
            have HE0 := hid (Ext.refl W5)
            clear hex
            refine only_read (by rfl) (fun K hK => ?_)
            go_big_quiet_op
            refine hK _ ?_
            clear hK K
            refine only_read (by rfl) (fun K hK => ?_)
            refine quiet_runD 57 rfl (.pointer (some ⟨p5, 3, none⟩)) (fun w => by kernel_rfl) ?_
            refine hK _ ?_
            clear hK K
            simp only [Act.put, List.setIfInBounds_toArray, List.set_cons_zero, List.set_cons_succ]
            refine only_read (by rfl) (fun K hK => ?_)
            refine quiet_load1 43 (.tmp 57) rfl (p5) (3) rfl (.slice (some ⟨b3', o3', none⟩) n3 b3) _ (fun w' hw' => (hw'.cells p5 3 hpl HNP.out).trans hp3) Try.underlying43 rfl ?_
            refine hK _ ?_
            clear hK K
            simp only [Act.put, List.setIfInBounds_toArray, List.set_cons_zero, List.set_cons_succ]
            refine only_read (by rfl) (fun K hK => ?_)
            go_big_quiet_op
            refine hK _ ?_
            clear hK K
            refine only_read (by rfl) (fun K hK => ?_)
            refine quiet_runD 60 rfl (.pointer (some ⟨b3', o3' + j, none⟩)) (fun w => by go_simp) ?_
            refine hK _ ?_
            clear hK K
            simp only [Act.put, List.setIfInBounds_toArray, List.set_cons_zero, List.set_cons_succ]
            refine only_read (by rfl) (fun K hK => ?_)
            refine quiet_load1 3 (.tmp 60) rfl (b3') (o3' + j) rfl (.int .i64 s) _ (fun w' hw' => (hw'.cells b3' _ hbl5 HNB3.out).trans hes5) Try.underlying3 rfl ?_
            refine hK _ ?_
            clear hK K
            simp only [Act.put, List.setIfInBounds_toArray, List.set_cons_zero, List.set_cons_succ]
            refine only_read (by rfl) (fun K hK => ?_)
            refine quiet_runD 62 rfl (.pointer (some ⟨p5, 3, none⟩)) (fun w => by kernel_rfl) ?_
            refine hK _ ?_
            clear hK K
            simp only [Act.put, List.setIfInBounds_toArray, List.set_cons_zero, List.set_cons_succ]
            refine only_read (by rfl) (fun K hK => ?_)
            refine quiet_load1 43 (.tmp 62) rfl (p5) (3) rfl (.slice (some ⟨b3', o3', none⟩) n3 b3) _ (fun w' hw' => (hw'.cells p5 3 hpl HNP.out).trans hp3) Try.underlying43 rfl ?_
            refine hK _ ?_
            clear hK K
            simp only [Act.put, List.setIfInBounds_toArray, List.set_cons_zero, List.set_cons_succ]
            refine only_read (by rfl) (fun K hK => ?_)
            go_big_quiet_op
            refine hK _ ?_
            clear hK K
            refine only_read (by rfl) (fun K hK => ?_)
            refine quiet_runD 65 rfl (.pointer (some ⟨b3', o3' + j, none⟩)) (fun w => by go_simp) ?_
            refine hK _ ?_
            clear hK K
            simp only [Act.put, List.setIfInBounds_toArray, List.set_cons_zero, List.set_cons_succ]
            refine only_read (by rfl) (fun K hK => ?_)
            refine quiet_load1 3 (.tmp 65) rfl (b3') (o3' + j) rfl (.int .i64 s) _ (fun w' hw' => (hw'.cells b3' _ hbl5 HNB3.out).trans hes5) Try.underlying3 rfl ?_
            refine hK _ ?_
            clear hK K
            simp only [Act.put, List.setIfInBounds_toArray, List.set_cons_zero, List.set_cons_succ]
            refine only_read (by rfl) (fun K hK => ?_)
            refine quiet_runD 67 rfl (.int .i64 (s + 256)) (fun w => by go_simp; exact wraps_64 _ (by omega) (by omega)) ?_
            refine hK _ ?_
            clear hK K
            simp only [Act.put, List.setIfInBounds_toArray, List.set_cons_zero, List.set_cons_succ]
            refine only_read (by rfl) (fun K hK => ?_)
            refine quiet_runD 68 rfl (.agg #[.int .i64 s, .int .i64 (s + 256)]) (fun w => by kernel_rfl) ?_
            refine hK _ ?_
            clear hK K
            simp only [Act.put, List.setIfInBounds_toArray, List.set_cons_zero, List.set_cons_succ]
            refine only_read (by rfl) (fun K hK => ?_)
            refine quiet_runD 69 rfl (.int .i64 1) (fun w => by go_simp) ?_
            refine hK _ ?_
            clear hK K
            simp only [Act.put, List.setIfInBounds_toArray, List.set_cons_zero, List.set_cons_succ]
            refine only_act (by rfl) (fun K hK => ?_)
            go_wp2_with (go_at_call 51; refine (to_ s (s + 256) 1 W5).mono ?_; rintro e V1 ⟨rfl, hx⟩)
            have HS1 := hid (Only.transExt HS0.out hx)
            have HE1 := hid (Ext.trans HE0.out hx)
            refine ⟨_, Only.refl _ _, HS1.out, ?_⟩
            clear hx
            refine only_act (by rfl) (fun K hK => ?_)
            go_wp2_with fail
            refine ⟨_, Only.refl _ _, Only.alloc HS1.out _, ?_⟩
            refine only_gen (fun W => Hid (Ext V1 W) ∧ Hid (Row W V1.heap.size 0 [.bool true, .int .i64 s, .int .i64 (s + 256), .int .i64 s, .int .i64 1, .int .i64 0])) ⟨hid ((Ext.refl _).alloc _), hid (Row.new V1 _ _)⟩ ?_
            rintro V2 ⟨hE2, hR2⟩
            have HS2 := hid (HS1.out.transExt hE2.out)
            have HE2 := hid (HE1.out.trans hE2.out)
            refine only_act (by rfl) (fun K hK => ?_)
            refine wp_app_row cap_len (by decide) cap_one Try.underlying48 info_capN (.tmp 56) (.tmp 71) rfl BS (.slice A N c) N (rowF Cap.cells (ownC t k ++ (x.shares.zipIdx.take j).flatMap (shF t k))) rfl (HOW5.out.ext HE2.out) (some ⟨V1.heap.size, 0, none⟩) 1 1 [⟨true, s, s + 256, s, 1, 0⟩] rfl rfl (RdF.row0 (zs := [(⟨true, s, s + 256, s, 1, 0⟩ : Cap)]) hR2.out) (by have := HNB.out; unfold maxLen; omega) (by have := HNB.out; omega) (by have := HBZ.out; have := HE2.out.size; omega) ?_
            intro v6 w6 hown6 hgrow hat
            obtain ⟨A6, c6, hv6, _, _⟩ := hown6.shape
            subst hv6
            have HT6 : Hid (Only (fun i => (Value.slice A N c).ownBlock = some i) V2 w6) := hid (grownOnly hgrow fun g hg => hg)
            have HS6 := hid (Only.trans' HS2.out HT6.out)
            have HOW6 := hid (show ownsAt w6 BS 39 6 (.slice A6 (N + 1) c6) (N + 1) (rowF Cap.cells (ownC t k ++ (x.shares.zipIdx.take (j + 1)).flatMap (shF t k))) by rw [HMR.out, rowF_append]; exact hown6)
            refine hK _ _ ⟨_, Only.refl _ _, HS6.out, ?_⟩
            clear hK K hgrow hat hown6
            simp only [Act.put, List.setIfInBounds_toArray, List.set_cons_zero, List.set_cons_succ]
            refine only_read (by rfl) (fun K hK => ?_)
            go_big_quiet_op
            refine hK _ ?_
            clear hK K
            refine only_nil ?_
            go_wp2
            go_roundw
            case rel => exact ⟨j + 1, N + 1, _, _, by omega, by go_num, rfl, hid (by rw [HMR.out, List.length_append, HGL.out]; rfl), hid (by have := HNB.out; omega), hid (Ext.only HX5.out HS6.out (fun i hi => by have := (HOW5.out.lt i hi).1; have := HBS.out; omega)), HOW6⟩
            case measure => simp [intOf]; omega
          · rw [if_pos rfl] at HMR
            go_upto_region 13 with (fail)
            refine wp_region_only (S := (fun i => (Value.slice A N c).ownBlock = some i)) (.rd 0 (.rd 1 (.rd 2 (.rd 3 (.rd 4 (.rd 5 (.rd 6 (.rd 7 (.rd 8 (.rd 9 (.rd 10 (.rd 11 (.rd 12 (.rd 13 (.ac 14 (.ac 15 (.ac 16 (.rd 17 .done)))))))))))))))))) (by kernel_rfl) (by kernel_rfl) (fun _ _ d _ _ h => by cases d <;> exact h) (by simp only [Ord.map, nthOp, List.append]; rfl) ?_
            intro d1
            have hex := HE1.out.trans (Ext.grow (Ext.refl W1) d1)
            have HX5 := hid (HX.out.trans hex)
            have HOW5 := hid (HOW.out.ext hex)
            have hes5 := (hex.cells b3' _ hb3l).trans ESC.out
            have hbl5 := Nat.lt_of_lt_of_le hb3l hex.size
            generalize Go.Proofs.Ytgldlkoohfclpaa.grow W1 d1 = W5 at HX5 HOW5 hes5 hbl5 ⊢
            have hp3 := (HX5.out.cells p5 3 HR5.out.lt).trans (HR5.out.range 3 _ rfl)
            have hpl := Nat.lt_of_lt_of_le HR5.out.lt HX5.out.size
            have HNP := hid (show ¬ (Value.slice A N c).ownBlock = some p5 from fun e => by have := (HOW5.out.lt _ e).1; have := HBS.out; have := HR5.out.lt; omega)
            have HNB3 := hid (show ¬ (Value.slice A N c).ownBlock = some b3' from fun e => by have := (HOW5.out.lt _ e).1; have := HBS.out; have := HB3U.out; omega)
            have HBZ := hid (show BS ≤ W5.heap.size by have := HBS.out; have := HX5.out.size; omega)
            have HS0 := hid (Only.refl (fun i => (Value.slice A N c).ownBlock = some i) W5)
            have HE0 := hid (Ext.refl W5)
            clear hex
            refine only_read (by rfl) (fun K hK => ?_)
            go_big_quiet_op
            refine hK _ ?_
            clear hK K
            refine only_read (by rfl) (fun K hK => ?_)
            refine quiet_runD 57 rfl (.pointer (some ⟨p5, 3, none⟩)) (fun w => by kernel_rfl) ?_
            refine hK _ ?_
            clear hK K
            simp only [Act.put, List.setIfInBounds_toArray, List.set_cons_zero, List.set_cons_succ]
            refine only_read (by rfl) (fun K hK => ?_)
            refine quiet_load1 43 (.tmp 57) rfl (p5) (3) rfl (.slice (some ⟨b3', o3', none⟩) n3 b3) _ (fun w' hw' => (hw'.cells p5 3 hpl HNP.out).trans hp3) Try.underlying43 rfl ?_
            refine hK _ ?_
            clear hK K
            simp only [Act.put, List.setIfInBounds_toArray, List.set_cons_zero, List.set_cons_succ]
            refine only_read (by rfl) (fun K hK => ?_)
            go_big_quiet_op
            refine hK _ ?_
            clear hK K
            refine only_read (by rfl) (fun K hK => ?_)
            refine quiet_runD 60 rfl (.pointer (some ⟨b3', o3' + j, none⟩)) (fun w => by go_simp) ?_
            refine hK _ ?_
            clear hK K
            simp only [Act.put, List.setIfInBounds_toArray, List.set_cons_zero, List.set_cons_succ]
            refine only_read (by rfl) (fun K hK => ?_)
            refine quiet_load1 3 (.tmp 60) rfl (b3') (o3' + j) rfl (.int .i64 s) _ (fun w' hw' => (hw'.cells b3' _ hbl5 HNB3.out).trans hes5) Try.underlying3 rfl ?_
            refine hK _ ?_
            clear hK K
            simp only [Act.put, List.setIfInBounds_toArray, List.set_cons_zero, List.set_cons_succ]
            refine only_read (by rfl) (fun K hK => ?_)
            refine quiet_runD 62 rfl (.pointer (some ⟨p5, 3, none⟩)) (fun w => by kernel_rfl) ?_
            refine hK _ ?_
            clear hK K
            simp only [Act.put, List.setIfInBounds_toArray, List.set_cons_zero, List.set_cons_succ]
            refine only_read (by rfl) (fun K hK => ?_)
            refine quiet_load1 43 (.tmp 62) rfl (p5) (3) rfl (.slice (some ⟨b3', o3', none⟩) n3 b3) _ (fun w' hw' => (hw'.cells p5 3 hpl HNP.out).trans hp3) Try.underlying43 rfl ?_
            refine hK _ ?_
            clear hK K
            simp only [Act.put, List.setIfInBounds_toArray, List.set_cons_zero, List.set_cons_succ]
            refine only_read (by rfl) (fun K hK => ?_)
            go_big_quiet_op
            refine hK _ ?_
            clear hK K
            refine only_read (by rfl) (fun K hK => ?_)
            refine quiet_runD 65 rfl (.pointer (some ⟨b3', o3' + j, none⟩)) (fun w => by go_simp) ?_
            refine hK _ ?_
            clear hK K
            simp only [Act.put, List.setIfInBounds_toArray, List.set_cons_zero, List.set_cons_succ]
            refine only_read (by rfl) (fun K hK => ?_)
            refine quiet_load1 3 (.tmp 65) rfl (b3') (o3' + j) rfl (.int .i64 s) _ (fun w' hw' => (hw'.cells b3' _ hbl5 HNB3.out).trans hes5) Try.underlying3 rfl ?_
            refine hK _ ?_
            clear hK K
            simp only [Act.put, List.setIfInBounds_toArray, List.set_cons_zero, List.set_cons_succ]
            refine only_read (by rfl) (fun K hK => ?_)
            refine quiet_runD 67 rfl (.int .i64 (s + 256)) (fun w => by go_simp; exact wraps_64 _ (by omega) (by omega)) ?_
            refine hK _ ?_
            clear hK K
            simp only [Act.put, List.setIfInBounds_toArray, List.set_cons_zero, List.set_cons_succ]
            refine only_read (by rfl) (fun K hK => ?_)
            refine quiet_runD 68 rfl (.agg #[.int .i64 s, .int .i64 (s + 256)]) (fun w => by kernel_rfl) ?_
            refine hK _ ?_
            clear hK K
            simp only [Act.put, List.setIfInBounds_toArray, List.set_cons_zero, List.set_cons_succ]
            refine only_read (by rfl) (fun K hK => ?_)
            refine quiet_runD 69 rfl (.int .i64 3) (fun w => by go_simp) ?_
            refine hK _ ?_
            clear hK K
            simp only [Act.put, List.setIfInBounds_toArray, List.set_cons_zero, List.set_cons_succ]
            refine only_act (by rfl) (fun K hK => ?_)
            go_wp2_with (go_at_call 51; refine (to_ s (s + 256) 3 W5).mono ?_; rintro e V1 ⟨rfl, hx⟩)
            have HS1 := hid (Only.transExt HS0.out hx)
            have HE1 := hid (Ext.trans HE0.out hx)
            refine ⟨_, Only.refl _ _, HS1.out, ?_⟩
            clear hx
            refine only_act (by rfl) (fun K hK => ?_)
            go_wp2_with fail
            refine ⟨_, Only.refl _ _, Only.alloc HS1.out _, ?_⟩
            refine only_gen (fun W => Hid (Ext V1 W) ∧ Hid (Row W V1.heap.size 0 [.bool true, .int .i64 s, .int .i64 (s + 256), .int .i64 s, .int .i64 3, .int .i64 0])) ⟨hid ((Ext.refl _).alloc _), hid (Row.new V1 _ _)⟩ ?_
            rintro V2 ⟨hE2, hR2⟩
            have HS2 := hid (HS1.out.transExt hE2.out)
            have HE2 := hid (HE1.out.trans hE2.out)
            refine only_act (by rfl) (fun K hK => ?_)
            refine wp_app_row cap_len (by decide) cap_one Try.underlying48 info_capN (.tmp 56) (.tmp 71) rfl BS (.slice A N c) N (rowF Cap.cells (ownC t k ++ (x.shares.zipIdx.take j).flatMap (shF t k))) rfl (HOW5.out.ext HE2.out) (some ⟨V1.heap.size, 0, none⟩) 1 1 [⟨true, s, s + 256, s, 3, 0⟩] rfl rfl (RdF.row0 (zs := [(⟨true, s, s + 256, s, 3, 0⟩ : Cap)]) hR2.out) (by have := HNB.out; unfold maxLen; omega) (by have := HNB.out; omega) (by have := HBZ.out; have := HE2.out.size; omega) ?_
            intro v6 w6 hown6 hgrow hat
            obtain ⟨A6, c6, hv6, _, _⟩ := hown6.shape
            subst hv6
            have HT6 : Hid (Only (fun i => (Value.slice A N c).ownBlock = some i) V2 w6) := hid (grownOnly hgrow fun g hg => hg)
            have HS6 := hid (Only.trans' HS2.out HT6.out)
            have HOW6 := hid (show ownsAt w6 BS 39 6 (.slice A6 (N + 1) c6) (N + 1) (rowF Cap.cells (ownC t k ++ (x.shares.zipIdx.take (j + 1)).flatMap (shF t k))) by rw [HMR.out, rowF_append]; exact hown6)
            refine hK _ _ ⟨_, Only.refl _ _, HS6.out, ?_⟩
            clear hK K hgrow hat hown6
            simp only [Act.put, List.setIfInBounds_toArray, List.set_cons_zero, List.set_cons_succ]
            refine only_read (by rfl) (fun K hK => ?_)
            go_big_quiet_op
            refine hK _ ?_
            clear hK K
            refine only_nil ?_
            go_wp2
            go_roundw
            case rel => exact ⟨j + 1, N + 1, _, _, by omega, by go_num, rfl, hid (by rw [HMR.out, List.length_append, HGL.out]; rfl), hid (by have := HNB.out; omega), hid (Ext.only HX5.out HS6.out (fun i hi => by have := (HOW5.out.lt i hi).1; have := HBS.out; omega)), HOW6⟩
            case measure => simp [intOf]; omega
      · obtain rfl : ms = j := by omega
        have hj1 : ¬ (ms : Int) < (ms : Int) := by omega
        rw [List.take_of_length_le (by rw [List.length_zipIdx, HMS.out]; exact Nat.le_refl _), ← HPV.out] at HOW HGL
        go_wp2
        go_ret
        exact ⟨A, c, by rw [HGL.out]; rfl, hid (by rw [HGL.out]; exact HOW.out.lower (by have := HBS.out; have := HUE.out.size; omega)), hid (HUE.out.trans HX.out)⟩

end Go.Proofs.Ytgldlkoohfclpaa
