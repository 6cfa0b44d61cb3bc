/- Layer 6: the walk of ClosClosed. -/
import Derived.Test.YtlapemeoffpmgaaCloLw
namespace Go.Proofs.Ytlapemeoffpmgaa
set_option linter.unusedSimpArgs false
set_option linter.unusedVariables false
open Go.RowKit

theorem wf8 {n : Int} (h : (Lit.int .u8 n).wf = true) : 0 ≤ n ∧ n ≤ 255 := by
  simpa [Lit.wf, IntKind.min, IntKind.max, IntKind.signed, IntKind.bits] using h
namespace closClosed
set_option linter.unusedSimpArgs false
set_option linter.unusedVariables false
set_option maxRecDepth 100000 in
set_option maxHeartbeats 8000000 in
theorem walk (A0 : Option Addr) (cap0 : Nat) (zs0 : List Cap) (t1 : Bool) (b1 tp1 at1 pm1 ty1 : Int) (t2 : Bool) (b2 tp2 at2 pm2 ty2 : Int) (a3 : Int) (a4 : Int) (w : World) (wl0 : zs0.length ≤ maxLen) (hs0 : SlAtN w A0 6 (zs0.map Cap.cells)) (wz0 : ∀ z ∈ zs0, wfC z) (wb1 : (Lit.int .i64 b1).wf = true) (wtp1 : (Lit.int .i64 tp1).wf = true) (wat1 : (Lit.int .i64 at1).wf = true) (wpm1 : (Lit.int .i64 pm1).wf = true) (wty1 : (Lit.int .i64 ty1).wf = true) (wb2 : (Lit.int .i64 b2).wf = true) (wtp2 : (Lit.int .i64 tp2).wf = true) (wat2 : (Lit.int .i64 at2).wf = true) (wpm2 : (Lit.int .i64 pm2).wf = true) (wty2 : (Lit.int .i64 ty2).wf = true) (w3 : (Lit.int .i64 a3).wf = true) (w4 : (Lit.int .u8 a4).wf = true) :
    Calls Try.prog 4 #[.slice A0 zs0.length cap0, .agg #[.bool t1, .int .i64 b1, .int .i64 tp1, .int .i64 at1, .int .i64 pm1, .int .i64 ty1], .agg #[.bool t2, .int .i64 b2, .int .i64 tp2, .int .i64 at2, .int .i64 pm2, .int .i64 ty2], .int .i64 a3, .int .u8 a4] w fun e w' => e = .returned (.bool true) ∧ Ext w w' := by
  have HA := hid (rdF_of cap_len (by decide) hs0)
  clear hs0
  obtain ⟨m, hm⟩ : ∃ x, zs0.length = x := ⟨_, rfl⟩
  rw [hm]
  have HM := hid hm
  clear hm wl0
  by_cases hb : 40 < m
  · have hb1 : (40 : Int) < (m : Int) := by omega
    go_enter Try.func4, Try.ntmps4
    go_upto_region 1 with (fail)
    refine wp_gen (fun V => Hid (Ext w V) ∧ Hid (Row V (w.heap.size) 0 (Cap.cells (Cap.mk t1 b1 tp1 at1 pm1 ty1))) ∧ Hid (Row V (w.heap.size + 1) 0 (Cap.cells (Cap.mk t2 b2 tp2 at2 pm2 ty2)))) ⟨hid (by repeat (first | (with_reducible exact Ext.refl _) | (with_reducible refine Ext.undrew ?_) | (with_reducible refine Ext.grow ?_ _) | (with_reducible refine Ext.drew ?_) | (with_reducible refine Ext.drewN ?_ _) | (with_reducible refine Ext.alloc ?_ _) | (with_reducible assumption) | ((with_reducible refine Ext.setCell ?_ ?_ _); rotate_left; (first | exact Nat.le_refl _ | ((try dsimp only); (try simp only [World.size_alloc, grow_size, World.size_setCell]); omega))))), hid (by have h9 := ((Row.new w #[.bool t1, .int .i64 b1, .int .i64 tp1, .int .i64 at1, .int .i64 pm1, .int .i64 ty1] 24).ext (Ext.alloc (Ext.refl _) (.cells #[.bool t2, .int .i64 b2, .int .i64 tp2, .int .i64 at2, .int .i64 pm2, .int .i64 ty2] 24))); exact h9), hid (by have h9 := (Row.new (w.alloc (.cells #[.bool t1, .int .i64 b1, .int .i64 tp1, .int .i64 at1, .int .i64 pm1, .int .i64 ty1] 24)) #[.bool t2, .int .i64 b2, .int .i64 tp2, .int .i64 at2, .int .i64 pm2, .int .i64 ty2] 24); rw [World.size_alloc] at h9; exact h9)⟩ ?_
    rintro V ⟨HB, HR1, HR2⟩
    generalize w.heap.size = x1 at HR1 HR2 ⊢
    go_wp2_with fail
    refine (head_ _).mono ?_
    rintro e W1 ⟨rfl, hx⟩
    go_wp2
    go_ret
    exact ⟨rfl, HB.out.trans hx⟩
  · have hb1 : ¬ (40 : Int) < (m : Int) := by omega
    go_enter Try.func4, Try.ntmps4
    go_upto_region 1 with (fail)
    refine wp_gen (fun V => Hid (Ext w V) ∧ Hid (Row V (w.heap.size) 0 (Cap.cells (Cap.mk t1 b1 tp1 at1 pm1 ty1))) ∧ Hid (Row V (w.heap.size + 1) 0 (Cap.cells (Cap.mk t2 b2 tp2 at2 pm2 ty2)))) ⟨hid (by repeat (first | (with_reducible exact Ext.refl _) | (with_reducible refine Ext.undrew ?_) | (with_reducible refine Ext.grow ?_ _) | (with_reducible refine Ext.drew ?_) | (with_reducible refine Ext.drewN ?_ _) | (with_reducible refine Ext.alloc ?_ _) | (with_reducible assumption) | ((with_reducible refine Ext.setCell ?_ ?_ _); rotate_left; (first | exact Nat.le_refl _ | ((try dsimp only); (try simp only [World.size_alloc, grow_size, World.size_setCell]); omega))))), hid (by have h9 := ((Row.new w #[.bool t1, .int .i64 b1, .int .i64 tp1, .int .i64 at1, .int .i64 pm1, .int .i64 ty1] 24).ext (Ext.alloc (Ext.refl _) (.cells #[.bool t2, .int .i64 b2, .int .i64 tp2, .int .i64 at2, .int .i64 pm2, .int .i64 ty2] 24))); exact h9), hid (by have h9 := (Row.new (w.alloc (.cells #[.bool t1, .int .i64 b1, .int .i64 tp1, .int .i64 at1, .int .i64 pm1, .int .i64 ty1] 24)) #[.bool t2, .int .i64 b2, .int .i64 tp2, .int .i64 at2, .int .i64 pm2, .int .i64 ty2] 24); rw [World.size_alloc] at h9; exact h9)⟩ ?_
    rintro V ⟨HB, HR1, HR2⟩
    generalize w.heap.size = x1 at HR1 HR2 ⊢
    go_wp2_with fail
    refine (head_ _).mono ?_
    rintro e W1 ⟨rfl, hx1⟩
    go_wp2_with fail
    refine (sNew A0 m cap0 zs0 _ (HA.out.ext (HB.out.trans hx1)) HM.out (by omega)).mono ?_
    rintro e W2 ⟨s, out, rfl, HS, HG, hx2⟩
    have HE2 := hid (hx1.trans hx2)
    clear hx1 hx2
    obtain ⟨p0, p1, p2, p3, p4, p5, p6⟩ := Row.six (c := (Cap.mk t1 b1 tp1 at1 pm1 ty1)) (HR1.out.ext HE2.out)
    simp only [Nat.zero_add] at p2 p3 p4 p5 p6
    go_wp2_with fail
    refine (sHas t1 b1 tp1 at1 pm1 ty1 _ HS.out).mono ?_
    rintro e W3 ⟨he, hx⟩
    have HE3 := hid (HE2.out.trans hx)
    have HS3 := hid (HS.out.ext hx)
    clear hx
    clear p0 p1 p2 p3 p4 p5 p6
    cases h1 : hv zs0 (Cap.mk t1 b1 tp1 at1 pm1 ty1) with
    | false =>
      rw [h1] at he
      subst he
      go_wp2
      go_ret
      exact ⟨rfl, HB.out.trans HE3.out⟩
    | true =>
      rw [h1] at he
      subst he
      obtain ⟨q0, q1, q2, q3, q4, q5, q6⟩ := Row.six (c := (Cap.mk t2 b2 tp2 at2 pm2 ty2)) (HR2.out.ext HE3.out)
      simp only [Nat.zero_add] at q2 q3 q4 q5 q6
      go_wp2_with fail
      refine (sHas t2 b2 tp2 at2 pm2 ty2 _ HS3.out).mono ?_
      rintro e W4 ⟨he, hx⟩
      have HE4 := hid (HE3.out.trans hx)
      have HS4 := hid (HS3.out.ext hx)
      clear hx
      clear q0 q1 q2 q3 q4 q5 q6
      cases h2 : hv zs0 (Cap.mk t2 b2 tp2 at2 pm2 ty2) with
      | false =>
        rw [h2] at he
        subst he
        go_wp2
        go_ret
        exact ⟨rfl, HB.out.trans HE4.out⟩
      | true =>
        rw [h2] at he
        subst he
        have h3 := hid (hv_made h1 h2 a3 (a4.tmod 8) (wf64 w3).1 (wf64 w3).2)
        clear h1 h2
        obtain ⟨p0, p1, p2, p3, p4, p5, p6⟩ := Row.six (c := (Cap.mk t1 b1 tp1 at1 pm1 ty1)) (HR1.out.ext HE4.out)
        simp only [Nat.zero_add] at p2 p3 p4 p5 p6
        obtain ⟨q0, q1, q2, q3, q4, q5, q6⟩ := Row.six (c := (Cap.mk t2 b2 tp2 at2 pm2 ty2)) (HR2.out.ext HE4.out)
        simp only [Nat.zero_add] at q2 q3 q4 q5 q6
        go_wp2_with fail
        refine (made_ t1 b1 tp1 at1 pm1 ty1 t2 b2 tp2 at2 pm2 ty2 a3 a4 (wf8 w4).1 _).mono ?_
        rintro e W5 ⟨z, rfl, hz, hx⟩
        have HE5 := hid (HE4.out.trans hx)
        have HS5 := hid (HS4.out.ext hx)
        rw [← hz] at h3
        have h4 : hv zs0 (Cap.mk z.tag z.base z.top z.at_ z.perms z.type) = true := h3.out
        clear hx hz h3
        clear p0 p1 p2 p3 p4 p5 p6 q0 q1 q2 q3 q4 q5 q6
        go_wp2_with fail
        refine (sHas z.tag z.base z.top z.at_ z.perms z.type _ HS5.out).mono ?_
        rintro e W6 ⟨he, hx⟩
        have HE6 := hid (HE5.out.trans hx)
        rw [h4] at he
        subst he
        clear hx
        go_wp2
        go_ret
        exact ⟨rfl, HB.out.trans HE6.out⟩
end closClosed

end Go.Proofs.Ytlapemeoffpmgaa
