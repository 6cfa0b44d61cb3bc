/- Layer 6: the live question. -/
import Derived.Test.YtlapemeoffpmgaaCloI0
namespace Go.Proofs.Ytlapemeoffpmgaa
set_option linter.unusedSimpArgs false
set_option linter.unusedVariables false
open Go.RowKit

theorem wp_build2 {P : Program} {o : Oper} {a : Act} {w : World} {K : Act → World → Prop} {Q : Exit → Act → World → Prop} (t e : TypeId) (x y : Operand) (ho : o.op = .buildSlice t 2 #[(0, x), (1, y)])
    (c0 c1 : Array Value) (s : Nat) (hx : a.eval x = .agg c0) (hy : a.eval y = .agg c1) (hs : c0.size = s) (hs1 : c1.size = s) (h0 : 0 < s) (h1 : s ≤ 1000)
    (hu : P.underlying t = some (.slice e)) (hi : (P.info? e).map (·.size) = some s) (hz : ((P.info? e).bind (·.zero)).map (·.cells.size) = some s)
    (h : K (a.put o.dst (.slice (some ⟨w.heap.size, 0, none⟩) 2 2)) (w.alloc (.cells (c0 ++ c1) e))) : o.wp P a w K Q := by
  cases hie : P.info? e with
  | none => simp [hie] at hi
  | some ie =>
    cases hzz : ie.zero with
    | none => simp [hie, hzz] at hz
    | some z =>
      have hsz : ie.size = s := by simpa [hie] using hi
      have hzs : z.cells.size = s := by simpa [hie, hzz] using hz
      refine wp_buildSlice t e 2 #[(0, x), (1, y)] ho (c0 ++ c1) ie z hu hie hzz (by omega) (by omega) ?_ h
      have hf := Great.fill_whole h0 [.agg c0, .agg c1] ((Array.range (2 * s)).map (z.cells[· % z.cells.size]!)) (by simpa [Value.cells] using ⟨hs, hs1⟩) (by simp)
      rw [hsz, show c0 ++ c1 = (c0.toList ++ c1.toList).toArray from by simp]
      simpa [hx, hy, Value.cells] using hf
theorem wp_build3 {P : Program} {o : Oper} {a : Act} {w : World} {K : Act → World → Prop} {Q : Exit → Act → World → Prop} (t e : TypeId) (x y z0 : Operand) (ho : o.op = .buildSlice t 3 #[(0, x), (1, y), (2, z0)])
    (c0 c1 c2 : Array Value) (s : Nat) (hx : a.eval x = .agg c0) (hy : a.eval y = .agg c1) (hy2 : a.eval z0 = .agg c2) (hs : c0.size = s) (hs1 : c1.size = s) (hs2 : c2.size = s) (h0 : 0 < s) (h1 : s ≤ 1000)
    (hu : P.underlying t = some (.slice e)) (hi : (P.info? e).map (·.size) = some s) (hz : ((P.info? e).bind (·.zero)).map (·.cells.size) = some s)
    (h : K (a.put o.dst (.slice (some ⟨w.heap.size, 0, none⟩) 3 3)) (w.alloc (.cells (c0 ++ c1 ++ c2) e))) : o.wp P a w K Q := by
  cases hie : P.info? e with
  | none => simp [hie] at hi
  | some ie =>
    cases hzz : ie.zero with
    | none => simp [hie, hzz] at hz
    | some z =>
      have hsz : ie.size = s := by simpa [hie] using hi
      have hzs : z.cells.size = s := by simpa [hie, hzz] using hz
      refine wp_buildSlice t e 3 #[(0, x), (1, y), (2, z0)] ho (c0 ++ c1 ++ c2) ie z hu hie hzz (by omega) (by omega) ?_ h
      have hf := Great.fill_whole h0 [.agg c0, .agg c1, .agg c2] ((Array.range (3 * s)).map (z.cells[· % z.cells.size]!)) (by simpa [Value.cells] using ⟨hs, hs1, hs2⟩) (by simp)
      rw [hsz, show c0 ++ c1 ++ c2 = (c0.toList ++ c1.toList ++ c2.toList).toArray from by simp]
      simpa [hx, hy, hy2, Value.cells] using hf
theorem rdF_two6 {w : World} {b : Nat} {x y : Cap} (h : Row w b 0 (Cap.cells x ++ Cap.cells y)) : RdF Cap.cells w (some ⟨b, 0, none⟩) [x, y] := fun _ => ⟨b, 0, rfl, h.lt, fun j u hj => by
  have := h.at_ j u (by simpa [rowF] using hj)
  simpa using this⟩
theorem rdF_three6 {w : World} {b : Nat} {x y z : Cap} (h : Row w b 0 (Cap.cells x ++ (Cap.cells y ++ Cap.cells z))) : RdF Cap.cells w (some ⟨b, 0, none⟩) [x, y, z] := fun _ => ⟨b, 0, rfl, h.lt, fun j u hj => by
  have := h.at_ j u (by simpa [rowF] using hj)
  simpa using this⟩
theorem hNew1 (b : Nat) (W : World) (h : RdF Cap.cells W (some ⟨b, 0, none⟩) [hdA, hdB]) : Calls Try.prog 11 #[.slice (some ⟨b, 0, none⟩) 2 2] W fun e w' => ∃ s A cg B co, e = .returned (.pointer (some ⟨s, 0, none⟩)) ∧ Hid (ClS w' s A cg [hdA, hdB] B co [hdA]) ∧ Hid (B = none → co = 0) ∧ Hid (Ext W w') := by
  refine (cnew_ 2 2 _ [hdA, hdB] W h rfl (by omega)).mono ?_
  rintro e w' ⟨s, A, cg, B, co, out, rfl, HS, HG, HB, HX, _⟩
  have hS := HS.out
  have hG := HG.out
  rw [hd_g1] at hS hG
  obtain rfl := hd_o1 hG
  exact ⟨s, A, cg, B, co, rfl, hid hS, HB, HX⟩
theorem hNew2 (b : Nat) (W : World) (h : RdF Cap.cells W (some ⟨b, 0, none⟩) [hdA, hdB, hdK]) : Calls Try.prog 11 #[.slice (some ⟨b, 0, none⟩) 3 3] W fun e w' => ∃ s A cg B co, e = .returned (.pointer (some ⟨s, 0, none⟩)) ∧ Hid (ClS w' s A cg [hdA, hdB, hdK] B co [hdK, hdA, hdBn]) ∧ Hid (B = none → co = 0) ∧ Hid (Ext W w') := by
  refine (cnew_ 3 3 _ [hdA, hdB, hdK] W h rfl (by omega)).mono ?_
  rintro e w' ⟨s, A, cg, B, co, out, rfl, HS, HG, HB, HX, _⟩
  have hS := HS.out
  have hG := HG.out
  rw [hd_g2] at hS hG
  obtain rfl := hd_o2 hG
  exact ⟨s, A, cg, B, co, rfl, hid hS, HB, HX⟩
theorem hHas {s : Nat} {A : Option Addr} {cg : Nat} {G : List Cap} {B : Option Addr} {co : Nat} {O : List Cap} (t : Bool) (b tp a p ty : Int) (v : Bool) (W : World) (h : ClS W s A cg G B co O) (hg : G.length ≤ 3) (ho : O.length ≤ 3) (hv : hasS G O ⟨t, b, tp, a, p, ty⟩ = v) : Calls Try.prog 13 #[.pointer (some ⟨s, 0, none⟩), .agg #[.bool t, .int .i64 b, .int .i64 tp, .int .i64 a, .int .i64 p, .int .i64 ty]] W fun e w' => e = .returned (.bool v) ∧ Ext W w' := by
  rw [← hv]
  exact chas_ t b tp a p ty s A cg G B co O W h (by omega) (by omega)
theorem hTyp1 {s : Nat} {A : Option Addr} {cg : Nat} {B : Option Addr} {co : Nat} (W : World) (h : ClS W s A cg [hdA, hdB, hdK] B co [hdK, hdA, hdBn]) : Calls Try.prog 19 #[.pointer (some ⟨s, 0, none⟩), .int .i64 64] W fun e w' => ∃ A' c', e = .returned (.slice A' 1 c') ∧ Hid (RdF intF w' A' [9]) ∧ Hid (Ext W w') := by
  refine (ctypes_ s A cg [hdA, hdB, hdK] B co [hdK, hdA, hdBn] 64 W h (by decide)).mono ?_
  rintro e w' ⟨A', c', m, rfl, hm, HR, HX⟩
  have hR := HR.out
  rw [hd_t1] at hm hR
  subst hm
  exact ⟨A', c', rfl, hid hR, HX⟩
theorem hTyp2 {s : Nat} {A : Option Addr} {cg : Nat} {B : Option Addr} {co : Nat} (W : World) (h : ClS W s A cg [hdA, hdB, hdK] B co [hdK, hdA, hdBn]) : Calls Try.prog 19 #[.pointer (some ⟨s, 0, none⟩), .int .i64 32] W fun e w' => ∃ A' c', e = .returned (.slice A' 0 c') ∧ Hid (Ext W w') := by
  refine (ctypes_ s A cg [hdA, hdB, hdK] B co [hdK, hdA, hdBn] 32 W h (by decide)).mono ?_
  rintro e w' ⟨A', c', m, rfl, hm, HR, HX⟩
  rw [hd_t2] at hm
  subst hm
  exact ⟨A', c', rfl, HX⟩
theorem hOpn {s : Nat} {A : Option Addr} {cg : Nat} {G : List Cap} {B : Option Addr} {co : Nat} {O : List Cap} (n : Nat) (W : World) (h : ClS W s A cg G B co O) (hb : B = none → co = 0) (hn : O.length = n) (h3 : n ≤ 3) : Calls Try.prog 16 #[.pointer (some ⟨s, 0, none⟩)] W fun e w' => ∃ A' c', e = .returned (.slice A' n c') ∧ Hid (Ext W w') := by
  refine (copen_ s A cg G B co O W h (by omega) hb).mono ?_
  rintro e w' ⟨A', c', rfl, _, HX⟩
  rw [hn]
  exact ⟨A', c', rfl, HX⟩
set_option maxRecDepth 100000 in
set_option maxHeartbeats 4000000 in
theorem head_ (w : World) : Calls Try.prog 10 #[] w fun e w' => e = .returned (.bool true) ∧ Ext w w' := by
  go_enter Try.func10, Try.ntmps10
  go_upto_region 4 with (fail)
  refine wp_gen (fun V => Hid (Ext w V) ∧ Hid (Row V w.heap.size 0 (Cap.cells (Cap.mk true 64 128 64 3 0))) ∧ Hid (Row V (w.heap.size + 1) 0 (Cap.cells (Cap.mk true 256 512 300 1 9))) ∧ Hid (Row V (w.heap.size + 1 + 1) 0 (Cap.cells (Cap.mk true 9 10 9 64 0)))) ⟨hid (by repeat (first | (with_reducible exact Ext.refl _) | (with_reducible refine Ext.undrew ?_) | (with_reducible refine Ext.grow ?_ _) | (with_reducible refine Ext.drew ?_) | (with_reducible refine Ext.drewN ?_ _) | (with_reducible refine Ext.alloc ?_ _) | (with_reducible assumption) | ((with_reducible refine Ext.setCell ?_ ?_ _); rotate_left; (first | exact Nat.le_refl _ | ((try dsimp only); (try simp only [World.size_alloc, grow_size, World.size_setCell]); omega))))), hid ((Row.new w #[.bool true, .int .i64 64, .int .i64 128, .int .i64 64, .int .i64 3, .int .i64 0] 24).ext (by repeat (first | (with_reducible exact Ext.refl _) | (with_reducible refine Ext.undrew ?_) | (with_reducible refine Ext.grow ?_ _) | (with_reducible refine Ext.drew ?_) | (with_reducible refine Ext.drewN ?_ _) | (with_reducible refine Ext.alloc ?_ _) | (with_reducible assumption) | ((with_reducible refine Ext.setCell ?_ ?_ _); rotate_left; (first | exact Nat.le_refl _ | ((try dsimp only); (try simp only [World.size_alloc, grow_size, World.size_setCell]); omega)))))), hid (by have h9 := (Row.new (w.alloc (.cells #[.bool true, .int .i64 64, .int .i64 128, .int .i64 64, .int .i64 3, .int .i64 0] 24)) #[.bool true, .int .i64 256, .int .i64 512, .int .i64 300, .int .i64 1, .int .i64 9] 24).ext (Ext.alloc (Ext.refl _) (.cells #[.bool true, .int .i64 9, .int .i64 10, .int .i64 9, .int .i64 64, .int .i64 0] 24)); rw [World.size_alloc] at h9; exact h9), hid (by have h9 := (Row.new ((w.alloc (.cells #[.bool true, .int .i64 64, .int .i64 128, .int .i64 64, .int .i64 3, .int .i64 0] 24)).alloc (.cells #[.bool true, .int .i64 256, .int .i64 512, .int .i64 300, .int .i64 1, .int .i64 9] 24)) #[.bool true, .int .i64 9, .int .i64 10, .int .i64 9, .int .i64 64, .int .i64 0] 24); rw [World.size_alloc, World.size_alloc] at h9; exact h9)⟩ ?_
  rintro V ⟨HX, HA, HB, HK⟩
  generalize w.heap.size = x1 at HA HB HK ⊢
  obtain ⟨p0, p1, p2, p3, p4, p5, p6⟩ := Row.six (c := (Cap.mk true 64 128 64 3 0)) (HA.out.ext (Ext.refl _))
  simp only [Nat.zero_add] at p2 p3 p4 p5 p6
  obtain ⟨q0, q1, q2, q3, q4, q5, q6⟩ := Row.six (c := (Cap.mk true 256 512 300 1 9)) (HB.out.ext (Ext.refl _))
  simp only [Nat.zero_add] at q2 q3 q4 q5 q6
  go_wp2_with (refine wpList_plain rfl fun K hK => ?_; refine wp_build2 22 24 _ _ rfl #[.bool true, .int .i64 64, .int .i64 128, .int .i64 64, .int .i64 3, .int .i64 0] #[.bool true, .int .i64 256, .int .i64 512, .int .i64 300, .int .i64 1, .int .i64 9] 6 rfl rfl rfl rfl (by omega) (by omega) Try.underlying22 (by kernel_rfl) (by kernel_rfl) ?_; refine hK _ _ ?_; clear hK K)
  refine (hNew1 _ _ (rdF_two6 (Row.new V (#[.bool true, .int .i64 64, .int .i64 128, .int .i64 64, .int .i64 3, .int .i64 0] ++ #[.bool true, .int .i64 256, .int .i64 512, .int .i64 300, .int .i64 1, .int .i64 9]) 24))).mono ?_
  rintro e W1 ⟨s, A1, c1, B1, o1, rfl, HS, HS0, HX1⟩
  have hx1 : Ext V W1 := (Ext.alloc (Ext.refl _) _).trans HX1.out
  clear p0 p1 p2 p3 p4 p5 p6 q0 q1 q2 q3 q4 q5 q6
  obtain ⟨p0, p1, p2, p3, p4, p5, p6⟩ := Row.six (c := (Cap.mk true 64 128 64 3 0)) (HA.out.ext hx1)
  simp only [Nat.zero_add] at p2 p3 p4 p5 p6
  obtain ⟨q0, q1, q2, q3, q4, q5, q6⟩ := Row.six (c := (Cap.mk true 256 512 300 1 9)) (HB.out.ext hx1)
  simp only [Nat.zero_add] at q2 q3 q4 q5 q6
  obtain ⟨r0, r1, r2, r3, r4, r5, r6⟩ := Row.six (c := (Cap.mk true 9 10 9 64 0)) (HK.out.ext hx1)
  simp only [Nat.zero_add] at r2 r3 r4 r5 r6
  go_wp2_with (refine wpList_plain rfl fun K hK => ?_; refine wp_build3 22 24 _ _ _ rfl #[.bool true, .int .i64 64, .int .i64 128, .int .i64 64, .int .i64 3, .int .i64 0] #[.bool true, .int .i64 256, .int .i64 512, .int .i64 300, .int .i64 1, .int .i64 9] #[.bool true, .int .i64 9, .int .i64 10, .int .i64 9, .int .i64 64, .int .i64 0] 6 rfl rfl rfl rfl rfl rfl (by omega) (by omega) Try.underlying22 (by kernel_rfl) (by kernel_rfl) ?_; refine hK _ _ ?_; clear hK K)
  refine (hNew2 _ _ (rdF_three6 (Row.new W1 (#[.bool true, .int .i64 64, .int .i64 128, .int .i64 64, .int .i64 3, .int .i64 0] ++ #[.bool true, .int .i64 256, .int .i64 512, .int .i64 300, .int .i64 1, .int .i64 9] ++ #[.bool true, .int .i64 9, .int .i64 10, .int .i64 9, .int .i64 64, .int .i64 0]) 24))).mono ?_
  rintro e W2 ⟨t, A2, c2, B2, o2, rfl, HT, HT0, HX2⟩
  have hx2 : Ext W1 W2 := (Ext.alloc (Ext.refl _) _).trans HX2.out
  have HY2 := hid (hx1.trans hx2)
  have HS2 := hid (HS.out.ext hx2)
  clear p0 p1 p2 p3 p4 p5 p6 q0 q1 q2 q3 q4 q5 q6 r0 r1 r2 r3 r4 r5 r6
  clear HS HX1 HX2 hx1 hx2
  have HBq := hid (HB.out.ext HY2.out)
  have HXw := hid (HX.out.trans HY2.out)
  clear HA HB HK HX HY2
  go_wp2_with fail
  refine (hTyp1 _ (HT.out.ext (by repeat (first | (with_reducible exact Ext.refl _) | (with_reducible refine Ext.undrew ?_) | (with_reducible refine Ext.grow ?_ _) | (with_reducible refine Ext.drew ?_) | (with_reducible refine Ext.drewN ?_ _) | (with_reducible refine Ext.alloc ?_ _) | (with_reducible assumption) | ((with_reducible refine Ext.setCell ?_ ?_ _); rotate_left; (first | exact Nat.le_refl _ | ((try dsimp only); (try simp only [World.size_alloc, grow_size, World.size_setCell]); omega))))))).mono ?_
  rintro e W3 ⟨A3, c3, rfl, HR3, HX3⟩
  have HI3 := hid ((Row.new W2 #[.bool true, .int .i64 256, .int .i64 257, .int .i64 0, .int .i64 1, .int .i64 0] 24).ext HX3.out)
  have HE3 := hid (((Ext.refl W2).alloc _).trans HX3.out)
  obtain ⟨b9, o9, rfl, hb9, hc9⟩ := HR3.out (by decide)
  have H9 := hid (show ∀ W, Ext W3 W → W.cell? ⟨b9, o9, none⟩ = some (.int .i64 9) from fun W hx => (hx.cells b9 o9 hb9).trans (hc9 0 (.int .i64 9) rfl))
  clear hb9 hc9 HR3 HX3
  generalize W2.heap.size = x6 at HI3 ⊢
  obtain ⟨q0, q1, q2, q3, q4, q5, q6⟩ := Row.six (c := (Cap.mk true 256 512 300 1 9)) (HBq.out.ext HE3.out)
  simp only [Nat.zero_add] at q2 q3 q4 q5 q6
  have HG3 := hid (Ext.refl W3)
  go_wp2_with fail
  refine (hHas true 256 512 300 1 9 true _ (HS2.out.ext HE3.out) (by decide) (by decide) hd_h1).mono ?_
  rintro e W4 ⟨rfl, hy⟩
  have HE4 := hid (HE3.out.trans hy)
  have HG4 := hid (HG3.out.trans hy)
  clear hy HE3 HG3 q0 q1 q2 q3 q4 q5 q6
  obtain ⟨i0, i1, i2, i3, i4, i5, i6⟩ := Row.six (c := (Cap.mk true 256 257 0 1 0)) (HI3.out.ext HG4.out)
  simp only [Nat.zero_add] at i2 i3 i4 i5 i6
  go_wp2_with fail
  refine (hHas true 256 257 0 1 0 false _ (HS2.out.ext HE4.out) (by decide) (by decide) hd_h2).mono ?_
  rintro e W5 ⟨rfl, hy⟩
  have HE5 := hid (HE4.out.trans hy)
  have HG5 := hid (HG4.out.trans hy)
  clear hy HE4 HG4 i0 i1 i2 i3 i4 i5 i6
  obtain ⟨i0, i1, i2, i3, i4, i5, i6⟩ := Row.six (c := (Cap.mk true 256 257 0 1 0)) (HI3.out.ext HG5.out)
  simp only [Nat.zero_add] at i2 i3 i4 i5 i6
  go_wp2_with fail
  refine (hHas true 256 257 0 1 0 true _ (HT.out.ext HE5.out) (by decide) (by decide) hd_h3).mono ?_
  rintro e W6 ⟨rfl, hy⟩
  have HE6 := hid (HE5.out.trans hy)
  have HG6 := hid (HG5.out.trans hy)
  clear hy HE5 HG5 i0 i1 i2 i3 i4 i5 i6
  go_wp2_with fail
  refine (hHas true 60 70 0 1 0 false _ (HT.out.ext HE6.out) (by decide) (by decide) hd_h4).mono ?_
  rintro e W7 ⟨rfl, hy⟩
  have HE7 := hid (HE6.out.trans hy)
  have HG7 := hid (HG6.out.trans hy)
  clear hy HE6 HG6
  go_wp2_with fail
  refine (hHas false 60 70 0 1 0 true _ (HT.out.ext HE7.out) (by decide) (by decide) hd_h5).mono ?_
  rintro e W8 ⟨rfl, hy⟩
  have HE8 := hid (HE7.out.trans hy)
  have HG8 := hid (HG7.out.trans hy)
  clear hy HE7 HG7
  go_wp2_with fail
  refine (hHas false 0 0 (-1) 0 0 false _ (HT.out.ext HE8.out) (by decide) (by decide) hd_h6).mono ?_
  rintro e W9 ⟨rfl, hy⟩
  have HE9 := hid (HE8.out.trans hy)
  have HG9 := hid (HG8.out.trans hy)
  clear hy HE8 HG8
  have h9 := H9.out _ HG9.out
  go_wp2_with fail
  refine (hTyp2 _ (HT.out.ext HE9.out)).mono ?_
  rintro e W10 ⟨Ao, co, rfl, HY⟩
  have hy := HY.out
  clear HY
  have HE10 := hid (HE9.out.trans hy)
  have HG10 := hid (HG9.out.trans hy)
  clear hy HE9 HG9 h9 H9
  go_wp2_with fail
  refine (hOpn 3 _ (HT.out.ext HE10.out) HT0.out rfl (by decide)).mono ?_
  rintro e W11 ⟨Ao, co, rfl, HY⟩
  have hy := HY.out
  clear HY
  have HE11 := hid (HE10.out.trans hy)
  have HG11 := hid (HG10.out.trans hy)
  clear hy HE10 HG10
  go_wp2_with fail
  refine (hOpn 1 _ (HS2.out.ext HE11.out) HS0.out rfl (by decide)).mono ?_
  rintro e W12 ⟨Ao, co, rfl, HY⟩
  have hy := HY.out
  clear HY
  have HE12 := hid (HE11.out.trans hy)
  have HG12 := hid (HG11.out.trans hy)
  clear hy HE11 HG11
  go_wp2
  go_ret
  exact ⟨rfl, HXw.out.trans HE12.out⟩

end Go.Proofs.Ytlapemeoffpmgaa
