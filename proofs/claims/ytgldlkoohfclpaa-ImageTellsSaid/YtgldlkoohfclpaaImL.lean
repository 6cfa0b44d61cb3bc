/- Layer 17: isComp, Where. -/
import Derived.Test.YtgldlkoohfclpaaImJ
import Derived.Test.YtgldlkoohfclpaaImK
namespace Go.Proofs.Ytgldlkoohfclpaa
set_option linter.unusedSimpArgs false
set_option linter.unusedVariables false
open Go.RowKit

theorem outB_no {n l m : Int} (h : outB n l m = false) : l ≤ n ∧ n ≤ m := by
  unfold outB at h
  simp only [Bool.or_eq_false_iff, decide_eq_false_iff_not] at h
  omega
theorem rightV_ok {x : Img} (h : rightV x = true) : (1 ≤ x.heap ∧ x.heap ≤ 64 ∧ 1 ≤ x.full ∧ x.full ≤ 4096 ∧ 1 ≤ x.comps.length ∧ x.comps.length ≤ 4 ∧ x.links.length ≤ 16 ∧ x.shares.length ≤ 4) ∧ (∀ c ∈ x.comps, CmR c ∧ crB c.bl x.strict = true) ∧ (∀ l ∈ x.links, lnkOk x l = true) ∧ (∀ s ∈ x.shares, shOk x.comps.length s = true) := by
  unfold rightV at h
  simp only [Bool.and_eq_true, Bool.not_eq_true', List.all_eq_true] at h
  obtain ⟨⟨⟨h5, hc⟩, hl⟩, hs⟩ := h
  refine ⟨n5_no h5, fun c hm => ?_, hl, hs⟩
  have h1 := hc c hm
  unfold cmOk at h1
  simp only [Bool.and_eq_true, Bool.not_eq_true', List.any_cons, List.any_nil, id, Bool.or_eq_false_iff] at h1
  obtain ⟨⟨h2, h3, _⟩, h4⟩ := h1
  have a := outB_no h2
  have b := outB_no h3
  exact ⟨⟨by omega, by omega, b.1, b.2⟩, h4⟩
set_option maxRecDepth 100000 in
set_option maxHeartbeats 4000000 in
theorem isComp_ (x : Img) (n : Int) (w : World) (h : ImgAt w x) (hc : x.comps.length ≤ 100000) (hl : x.links.length ≤ 100000) (hs : x.shares.length ≤ 100000) : Calls Try.prog 46 #[.agg #[.bool x.strict, .int .i64 x.heap, .int .i64 x.full, .slice x.C x.comps.length x.cc, .slice x.L x.links.length x.lc, .slice x.S x.shares.length x.sc], .int .i64 n] w fun e w' => e = .returned (.bool (rightV x && !outB n 0 ((x.comps.length : Int) - 1))) ∧ Ext w w' := by
  have HR : Hid (∀ W, Ext w W → Calls Try.prog 14 #[.agg #[.bool x.strict, .int .i64 x.heap, .int .i64 x.full, .slice x.C x.comps.length x.cc, .slice x.L x.links.length x.lc, .slice x.S x.shares.length x.sc]] W fun e w' => e = .returned (.bool (rightV x)) ∧ Ext W w') := hid (fun W hx => imRight_ x W (h.ext hx) hc hl hs)
  obtain ⟨v, hv⟩ : ∃ y, rightV x = y := ⟨_, rfl⟩
  rw [hv] at HR
  rw [hv]
  obtain ⟨m, hm⟩ : ∃ y, x.comps.length = y := ⟨_, rfl⟩
  obtain ⟨ml, hml⟩ : ∃ y, x.links.length = y := ⟨_, rfl⟩
  obtain ⟨ms, hms⟩ : ∃ y, x.shares.length = y := ⟨_, rfl⟩
  rw [hm, hml, hms] at HR
  rw [hm] at hc
  rw [hm, hml, hms]
  clear hv hm hml hms h hl hs
  go_enter Try.func46, Try.ntmps46
  go_upto_region 1 with (fail)
  refine wp_gen (fun V => Hid (Ext w V) ∧ Row V w.heap.size 0 [.bool x.strict, .int .i64 x.heap, .int .i64 x.full, .slice x.C m x.cc, .slice x.L ml x.lc, .slice x.S ms x.sc]) ⟨hid (by repeat (first | (with_reducible exact Ext.refl _) | (with_reducible refine Ext.undrew ?_) | (with_reducible refine Ext.grow ?_ _) | (with_reducible refine Ext.drew ?_) | (with_reducible refine Ext.drewN ?_ _) | (with_reducible refine Ext.alloc ?_ _) | (with_reducible assumption) | ((with_reducible refine Ext.setCell ?_ ?_ _); rotate_left; (first | exact Nat.le_refl _ | ((try dsimp only); (try simp only [World.size_alloc, grow_size, World.size_setCell]); omega))))), Row.new w _ _⟩ ?_
  rintro V ⟨HV, hrow⟩
  have hl0 := hrow.lt
  have HRW := hid hrow
  have b0 := hrow.range 0 _ rfl
  have b1 := hrow.range 1 _ rfl
  have b2 := hrow.range 2 _ rfl
  have b3 := hrow.range 3 _ rfl
  have b4 := hrow.range 4 _ rfl
  have b5 := hrow.range 5 _ rfl
  simp only [Nat.zero_add] at b1 b2 b3 b4 b5
  clear hrow
  go_wp2_with fail
  refine (HR.out V HV.out).mono ?_
  rintro e W1 ⟨rfl, hy⟩
  have HE := hid (HV.out.trans hy)
  have b3 := (hy.cells _ 3 hl0).trans b3
  have hl0 := Nat.lt_of_lt_of_le hl0 hy.size
  clear hy b0 b1 b2 b4 b5
  cases v with
  | false =>
    go_wp2
    go_ret
    exact ⟨rfl, HE.out⟩
  | true =>
    go_wp2_with fail
    refine (outside_ n 0 ((m : Int) - 1) W1).mono ?_
    rintro e W2 ⟨rfl, hy⟩
    go_wp2
    go_ret
    exact ⟨rfl, HE.out.trans hy⟩
structure LayC where
  q : Nat
  base : Nat
  vc : Value
  vd : Value
  vh : Value
  vs : Value
set_option maxRecDepth 100000 in
set_option maxHeartbeats 4000000 in
theorem where_ (x : Img) (w : World) (h : ImgAt w x) (hc : x.comps.length ≤ 100000) (hl : x.links.length ≤ 100000) (hs : x.shares.length ≤ 100000) : Calls Try.prog 22 #[.agg #[.bool x.strict, .int .i64 x.heap, .int .i64 x.full, .slice x.C x.comps.length x.cc, .slice x.L x.links.length x.lc, .slice x.S x.shares.length x.sc]] w fun e w' => ((rightV x = false ∧ e = .returned (.agg #[.slice none 0 0, .slice none 0 0, .slice none 0 0, .slice none 0 0, .int .i64 0])) ∨ (rightV x = true ∧ ∃ y : LayC, e = .returned (.agg #[y.vc, y.vd, y.vh, y.vs, .int .i64 (layV x).pg]) ∧ Hid (LayB w' y.q y.base y.vc y.vd y.vh y.vs (layV x)))) ∧ Hid (Ext w w') := by
  have HR : Hid (∀ W, Ext w W → Calls Try.prog 14 #[.agg #[.bool x.strict, .int .i64 x.heap, .int .i64 x.full, .slice x.C x.comps.length x.cc, .slice x.L x.links.length x.lc, .slice x.S x.shares.length x.sc]] W fun e w' => e = .returned (.bool (rightV x)) ∧ Ext W w') := hid (fun W hx => imRight_ x W (h.ext hx) hc hl hs)
  have HL : Hid (rightV x = true → ∀ W, Ext w W → Calls Try.prog 47 #[.agg #[.bool x.strict, .int .i64 x.heap, .int .i64 x.full, .slice x.C x.comps.length x.cc, .slice x.L x.links.length x.lc, .slice x.S x.shares.length x.sc]] W fun e w' => ∃ y : LayC, e = .returned (.agg #[y.vc, y.vd, y.vh, y.vs, .int .i64 (layV x).pg]) ∧ Hid (LayB w' y.q y.base y.vc y.vd y.vh y.vs (layV x)) ∧ Hid (Ext W w') ∧ W.heap.size < y.q) := hid (fun hr W hx => by
    obtain ⟨n5, hcm, _, _⟩ := rightV_ok hr
    refine (layout_ x W (h.ext hx) ⟨n5.1, n5.2.1⟩ (fun c hc => (hcm c hc).1) (by omega) (by omega)).mono ?_
    rintro e w' ⟨q, base, vc, vd, vh, vs, he, h1, h2, h3⟩
    exact ⟨⟨q, base, vc, vd, vh, vs⟩, he, h1, h2, h3⟩)
  obtain ⟨lv, hlv⟩ : ∃ y, layV x = y := ⟨_, rfl⟩
  rw [hlv] at HL ⊢
  obtain ⟨v, hv⟩ : ∃ y, rightV x = y := ⟨_, rfl⟩
  rw [hv] at HR HL
  rw [hv]
  obtain ⟨m, hm⟩ : ∃ y, x.comps.length = y := ⟨_, rfl⟩
  obtain ⟨ml, hml⟩ : ∃ y, x.links.length = y := ⟨_, rfl⟩
  obtain ⟨ms, hms⟩ : ∃ y, x.shares.length = y := ⟨_, rfl⟩
  rw [hm, hml, hms] at HR HL
  rw [hm, hml, hms]
  clear hv hm hml hms h hl hs hc hlv
  go_enter Try.func22, Try.ntmps22
  go_upto_region 1 with (fail)
  refine wp_gen (fun V => Hid (Ext w V) ∧ Row V w.heap.size 0 [.bool x.strict, .int .i64 x.heap, .int .i64 x.full, .slice x.C m x.cc, .slice x.L ml x.lc, .slice x.S ms x.sc] ∧ Hid (Row V (w.heap.size + 1) 0 [.slice none 0 0, .slice none 0 0, .slice none 0 0, .slice none 0 0, .int .i64 0])) ⟨hid (by repeat (first | (with_reducible exact Ext.refl _) | (with_reducible refine Ext.undrew ?_) | (with_reducible refine Ext.grow ?_ _) | (with_reducible refine Ext.drew ?_) | (with_reducible refine Ext.drewN ?_ _) | (with_reducible refine Ext.alloc ?_ _) | (with_reducible assumption) | ((with_reducible refine Ext.setCell ?_ ?_ _); rotate_left; (first | exact Nat.le_refl _ | ((try dsimp only); (try simp only [World.size_alloc, grow_size, World.size_setCell]); omega))))), (Row.new w _ _).ext ((Ext.refl _).alloc _), hid ?_⟩ ?_
  · have h9 := Row.new (w.alloc (.cells #[.bool x.strict, .int .i64 x.heap, .int .i64 x.full, .slice x.C m x.cc, .slice x.L ml x.lc, .slice x.S ms x.sc] 26)) #[.slice none 0 0, .slice none 0 0, .slice none 0 0, .slice none 0 0, .int .i64 0] 45
    rw [World.size_alloc] at h9
    exact h9
  rintro V ⟨HV, hrow, HRS⟩
  have hl0 := hrow.lt
  have HRW := hid hrow
  have b0 := hrow.range 0 _ rfl
  have b1 := hrow.range 1 _ rfl
  have b2 := hrow.range 2 _ rfl
  have b3 := hrow.range 3 _ rfl
  have b4 := hrow.range 4 _ rfl
  have b5 := hrow.range 5 _ rfl
  simp only [Nat.zero_add] at b1 b2 b3 b4 b5
  clear hrow
  go_wp2_with fail
  refine (HR.out V HV.out).mono ?_
  rintro e W1 ⟨rfl, hy⟩
  have HE := hid (HV.out.trans hy)
  replace HRW := hid (HRW.out.ext hy)
  replace HRS := hid (HRS.out.ext hy)
  clear hy b0 b1 b2 b3 b4 b5 hl0
  obtain ⟨s1, hs1⟩ : ∃ y, w.heap.size + 1 = y := ⟨_, rfl⟩
  rw [hs1] at HRS
  have hs1w : w.heap.size < s1 := by omega
  cases v with
  | false =>
    have hr1l := HRS.out.lt
    have y0 := HRS.out.range 0 _ rfl
    have z0 := HRS.out.free 0 (by decide)
    have y1 := HRS.out.range 1 _ rfl
    have z1 := HRS.out.free 1 (by decide)
    have y2 := HRS.out.range 2 _ rfl
    have z2 := HRS.out.free 2 (by decide)
    have y3 := HRS.out.range 3 _ rfl
    have z3 := HRS.out.free 3 (by decide)
    have y4 := HRS.out.range 4 _ rfl
    have z4 := HRS.out.free 4 (by decide)
    simp only [Nat.zero_add] at y1 y2 y3 y4 z1 z2 z3 z4
    rw [hs1]
    clear hs1
    go_wp2
    refine bodyPost_ret (v := .agg #[.slice none 0 0, .slice none 0 0, .slice none 0 0, .slice none 0 0, .int .i64 0]) (by simp [results, Try.results22, go_sem, hr1l, y0, y1, y2, y3, y4]) rfl ?_
    exact ⟨rfl, hid (Ext.only HE.out (Only.setCell (S := fun i => i = s1) (Only.setCell (S := fun i => i = s1) (Only.setCell (S := fun i => i = s1) (Only.setCell (S := fun i => i = s1) (Only.setCell (S := fun i => i = s1) (Only.refl (fun i => i = s1) W1) (.inl rfl) (o := 0) (.slice none 0 0)) (.inl rfl) (o := 1) (.slice none 0 0)) (.inl rfl) (o := 2) (.slice none 0 0)) (.inl rfl) (o := 3) (.slice none 0 0)) (.inl rfl) (o := 4) (.int .i64 0)) (fun i hi => by omega))⟩
  | true =>
    replace HL := hid (HL.out rfl)
    have hrow := HRW.out
    have hl0 := hrow.lt
    have b0 := hrow.range 0 _ rfl
    have b1 := hrow.range 1 _ rfl
    have b2 := hrow.range 2 _ rfl
    have b3 := hrow.range 3 _ rfl
    have b4 := hrow.range 4 _ rfl
    have b5 := hrow.range 5 _ rfl
    simp only [Nat.zero_add] at b1 b2 b3 b4 b5
    clear hrow
    rw [hs1]
    clear hs1
    go_wp2_with fail
    have hs1l := HRS.out.lt
    refine (HL.out _ HE.out).mono ?_
    rintro e W2 ⟨y, rfl, HY, hy, hyq⟩
    have HE2 := hid (HE.out.trans hy.out)
    replace HRS := hid (HRS.out.ext hy.out)
    have hsb : s1 < y.q := Nat.lt_trans hs1l hyq
    clear hy b0 b1 b2 b3 b4 b5 hl0
    obtain ⟨q, base, vc, vd, vh, vs⟩ := y
    obtain ⟨B0, b0, rfl, _, _⟩ := HY.out.o0.shape
    obtain ⟨B1, b1, rfl, _, _⟩ := HY.out.o1.shape
    obtain ⟨B2, b2, rfl, _, _⟩ := HY.out.o2.shape
    obtain ⟨B3, b3, rfl, _, _⟩ := HY.out.o3.shape
    have hr1l := HRS.out.lt
    have y0 := HRS.out.range 0 _ rfl
    have z0 := HRS.out.free 0 (by decide)
    have y1 := HRS.out.range 1 _ rfl
    have z1 := HRS.out.free 1 (by decide)
    have y2 := HRS.out.range 2 _ rfl
    have z2 := HRS.out.free 2 (by decide)
    have y3 := HRS.out.range 3 _ rfl
    have z3 := HRS.out.free 3 (by decide)
    have y4 := HRS.out.range 4 _ rfl
    have z4 := HRS.out.free 4 (by decide)
    simp only [Nat.zero_add] at y1 y2 y3 y4 z1 z2 z3 z4
    go_wp2
    refine bodyPost_ret (v := .agg #[.slice B0 lv.C.length b0, .slice B1 lv.D.length b1, .slice B2 lv.H.length b2, .slice B3 lv.S.length b3, .int .i64 lv.pg]) (by simp [results, Try.results22, go_sem, hr1l, y0, y1, y2, y3, y4]) rfl ?_
    have HX := hid (Only.setCell (S := fun i => i = s1) (Only.setCell (S := fun i => i = s1) (Only.setCell (S := fun i => i = s1) (Only.setCell (S := fun i => i = s1) (Only.setCell (S := fun i => i = s1) (Only.refl (fun i => i = s1) W2) (.inl rfl) (o := 0) (.slice B0 lv.C.length b0)) (.inl rfl) (o := 1) (.slice B1 lv.D.length b1)) (.inl rfl) (o := 2) (.slice B2 lv.H.length b2)) (.inl rfl) (o := 3) (.slice B3 lv.S.length b3)) (.inl rfl) (o := 4) (.int .i64 lv.pg))
    have hqb := HY.out.qb
    refine ⟨⟨⟨q, base, _, _, _, _⟩, rfl, hid (HY.out.only HX.out (by omega) (fun g e _ e2 => by omega))⟩, hid (Ext.only HE2.out HX.out (fun i hi => by omega))⟩

end Go.Proofs.Ytgldlkoohfclpaa
