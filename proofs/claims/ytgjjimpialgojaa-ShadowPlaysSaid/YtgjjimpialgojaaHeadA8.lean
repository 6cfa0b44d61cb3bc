/- Layer 8: the live question. -/
import Derived.Test.YtgjjimpialgojaaShaH
namespace Go.Proofs.Ytgjjimpialgojaa
set_option linter.unusedSimpArgs false
set_option linter.unusedVariables false
open Go.RowKit


def headP : Nat → Bool := (paintP 70 (paintP 70 (paintP 70 (paintP 70 (paintP 70 (fun _ => false) 16 48 true) 1008 1056 true) 8 48 true) 1104 1136 true) 1024 1040 false)
def headB (x : Nat) : Bool := (decide (1 ≤ x) && decide (x < 3)) || (decide (63 ≤ x) && decide (x < 66) && !decide (x = 64))
theorem headP_eq : ∀ x, headP x = headB x := by
  intro x
  have f1 : fineP 70 16 48 = true := by decide
  have f2 : fineP 70 1008 1056 = true := by decide
  have f3 : fineP 70 8 48 = false := by decide
  have f4 : fineP 70 1104 1136 = false := by decide
  have f5 : fineP 70 1024 1040 = true := by decide
  unfold headP headB paintP updR
  rw [f1, f2, f3, f4, f5]
  simp only [if_true, Bool.false_eq_true, if_false]
  rw [show ((1024 : Int).toNat / 16) = 64 from rfl, show (((1040 : Int).toNat - (1024 : Int).toNat) / 16) = 1 from rfl, show ((1008 : Int).toNat / 16) = 63 from rfl, show (((1056 : Int).toNat - (1008 : Int).toNat) / 16) = 3 from rfl, show ((16 : Int).toNat / 16) = 1 from rfl, show (((48 : Int).toNat - (16 : Int).toNat) / 16) = 2 from rfl]
  rw [Bool.eq_iff_iff]
  repeat' split
  all_goals simp
  all_goals omega
theorem headP_fun : headP = headB := funext headP_eq
set_option maxRecDepth 100000 in
set_option maxHeartbeats 8000000 in
theorem head (w : World) : Calls Try.prog 8 #[] w fun e w' => e = .returned (.bool true) ∧ Ext w w' := by
  have F2 := hid (show fineP 70 16 48 = true by decide)
  have F3 := hid (show fineP 70 1008 1056 = true by decide)
  have F4 := hid (show fineP 70 8 48 = false by decide)
  have F5 := hid (show fineP 70 1104 1136 = false by decide)
  have F6 := hid (show fineP 70 1024 1040 = true by decide)
  have M1 := hid (show cnt headP 70 = 4 by rw [headP_fun]; decide +kernel)
  have I1 := hid (show isP 70 headP 47 = true by rw [headP_fun]; decide +kernel)
  have I2 := hid (show isP 70 headP 48 = false by rw [headP_fun]; decide +kernel)
  have I3 := hid (show isP 70 headP (-1) = false by rw [headP_fun]; decide +kernel)
  have I4 := hid (show isP 70 headP 1099511627776 = false by rw [headP_fun]; decide +kernel)
  have H1 := hid (show hitsP 70 headP true 31 99 = true by rw [headP_fun]; decide +kernel)
  have H2 := hid (show hitsP 70 headP false 31 0 = false by rw [headP_fun]; decide +kernel)
  have RW := hid (show rowsP headP 70 = [(1, 3), (63, 64), (65, 66)] by rw [headP_fun]; decide +kernel)
  go_enter Try.func8, Try.ntmps8
  go_wp2_with fail
  refine Calls.mono (new_ 70 _ (by omega) (by omega)) ?_
  rintro e w1 ⟨p, q, rfl, hs1, hx1, hpw, hqw⟩
  go_wp2_with fail
  refine Calls.mono (new_low 0 _ (by omega)) ?_
  rintro e w' ⟨rfl, rfl⟩
  go_wp2_with fail
  refine Calls.mono (new_high 1048577 _ (by omega) (by omega)) ?_
  rintro e w' ⟨rfl, rfl⟩
  go_wp2_with fail
  refine Calls.mono (paint_any hs1 16 48 true) ?_
  rw [F2.out]
  rintro e w2 ⟨rfl, hs2, ho2⟩
  have hx2 : Ext w w2 := hx1.only ho2 (fun x hx => by subst hx; omega)
  clear hs1 ho2 hx1
  go_wp2_with fail
  refine Calls.mono (paint_any hs2 1008 1056 true) ?_
  rw [F3.out]
  rintro e w3 ⟨rfl, hs3, ho3⟩
  have hx3 : Ext w w3 := hx2.only ho3 (fun x hx => by subst hx; omega)
  clear hs2 ho3 hx2
  go_wp2_with fail
  refine Calls.mono (paint_any hs3 8 48 true) ?_
  rw [F4.out]
  rintro e w4 ⟨rfl, hs4, ho4⟩
  have hx4 : Ext w w4 := hx3.only ho4 (fun x hx => by subst hx; omega)
  clear hs3 ho4 hx3
  go_wp2_with fail
  refine Calls.mono (paint_any hs4 1104 1136 true) ?_
  rw [F5.out]
  rintro e w5 ⟨rfl, hs5, ho5⟩
  have hx5 : Ext w w5 := hx4.only ho5 (fun x hx => by subst hx; omega)
  clear hs4 ho5 hx4
  go_wp2_with fail
  refine Calls.mono (paint_any hs5 1024 1040 false) ?_
  rw [F6.out]
  rintro e w6 ⟨rfl, hs6, ho6⟩
  have hx6 : Ext w w6 := hx5.only ho6 (fun x hx => by subst hx; omega)
  clear hs5 ho6 hx5
  rw [show (paintP 70 (paintP 70 (paintP 70 (paintP 70 (paintP 70 (fun _ => false) 16 48 true) 1008 1056 true) 8 48 true) 1104 1136 true) 1024 1040 false) = headP from rfl] at hs6
  have HS := hid hs6
  have HX := hid hx6
  clear hs6 hx6
  go_wp2_with fail
  refine Calls.mono (many_ p q 70 headP _ HS.out) ?_
  rw [M1.out]
  rintro e w' ⟨rfl, rfl⟩
  go_wp2_with fail
  refine Calls.mono (is_ HS.out (47) (by omega)) ?_
  rw [I1.out]
  rintro e w' ⟨rfl, rfl⟩
  go_wp2_with fail
  refine Calls.mono (is_ HS.out (48) (by omega)) ?_
  rw [I2.out]
  rintro e w' ⟨rfl, rfl⟩
  go_wp2_with fail
  refine Calls.mono (is_ HS.out (-1) (by omega)) ?_
  rw [I3.out]
  rintro e w' ⟨rfl, rfl⟩
  go_wp2_with fail
  refine Calls.mono (is_ HS.out (1099511627776) (by omega)) ?_
  rw [I4.out]
  rintro e w' ⟨rfl, rfl⟩
  go_wp2_with fail
  refine Calls.mono (hits_ p q 70 headP true 31 99 0 0 0 _ HS.out (by omega)) ?_
  rw [H1.out]
  rintro e w7 ⟨rfl, hx7⟩
  have HS7 := hid (HS.out.ext hx7)
  have HX7 := hid (Ext.trans HX.out hx7)
  clear HS HX hx7
  go_wp2_with fail
  refine Calls.mono (hits_ p q 70 headP false 31 0 0 0 0 _ HS7.out (by omega)) ?_
  rw [H2.out]
  rintro e w8 ⟨rfl, hx8⟩
  have HS8 := hid (HS7.out.ext hx8)
  have HX8 := hid (Ext.trans HX7.out hx8)
  clear HS7 HX7 hx8
  go_wp2_with fail
  refine Calls.mono (runs_ p q 70 headP _ HS8.out) ?_
  rintro e w9 ⟨A, ca, rfl, hrd, hx9, _⟩
  rw [RW.out] at hrd ⊢
  have HX9 := hid (Ext.trans HX8.out hx9)
  have HRD := hid hrd
  clear hx9 hrd HX8 HS8
  go_wp2_with fail
  refine Calls.mono (same_ A _ 3 ca _ [(1, 3), (63, 64), (65, 66)] _ (HRD.out.ext (Ext.alloc (Ext.refl w9) _)) (fun _ => ⟨w9.heap.size, 0, rfl, by simp, fun i hi => by
    match i, hi with
    | 0, _ => simp [go_sem]
    | 1, _ => simp [go_sem]
    | 2, _ => simp [go_sem]⟩) rfl (by decide)) ?_
  rintro e w10 ⟨rfl, hx10⟩
  have HX10 := hid (Ext.trans HX9.out (Ext.trans (Ext.alloc (Ext.refl w9) _) hx10))
  clear hx10
  go_wp2
  go_ret
  exact ⟨rfl, HX10.out⟩

end Go.Proofs.Ytgjjimpialgojaa
