/- The walk of the law RegsBack. -/
import Derived.Test.YtjepkdfiihgheaaOps18
namespace Go.Proofs.Ytjepkdfiihgheaa
set_option linter.unusedSimpArgs false
set_option linter.unusedVariables false
open Go.RowKit

theorem right_null : ∀ i, i < 8 → rightC ((fun _ => nullC : Nat → Cap) i) = true := fun _ _ => by show rightC nullC = true; decide
theorem right_upd {L : Nat → Cap} (h : ∀ i, i < 8 → rightC (L i) = true) {c : Cap} (hc : rightC c = true) {k : Nat} : ∀ i, i < 8 → rightC (upd L k c i) = true := fun i hi => by
  unfold upd
  split
  · exact hc
  · exact h i hi
theorem right_set {L : Nat → Cap} (h : ∀ i, i < 8 → rightC (L i) = true) {r : Int} {c : Cap} : ∀ i, i < 8 → rightC (setL L r c i) = true := fun i hi => by
  cases ho : okSet r c with
  | true =>
    rw [setL_yes ho]
    unfold okSet at ho
    simp only [Bool.and_eq_true] at ho
    exact right_upd h ho.2 i hi
  | false => rw [setL_no ho]; exact h i hi
namespace regsBack
set_option maxRecDepth 100000 in
set_option maxHeartbeats 16000000 in
theorem walk (A0 : Option Addr) (cap0 : Nat) (zs0 : List RegOp) (t1 : Bool) (b1 tp1 at1 pm1 ty1 : Int) (a2 : Int) (w : World) (wl0 : zs0.length ≤ maxLen) (hs0 : SlAtN w A0 10 (zs0.map RegOp.cells)) (wz0 : ∀ z ∈ zs0, z.good w) (wb1 : (Lit.int .i64 b1).wf = true) (wtp1 : (Lit.int .i64 tp1).wf = true) (wat1 : (Lit.int .i64 at1).wf = true) (wpm1 : (Lit.int .i64 pm1).wf = true) (wty1 : (Lit.int .i64 ty1).wf = true) (w2 : (Lit.int .u8 a2).wf = true) :
    Calls Try.prog 5 #[.slice A0 zs0.length cap0, .agg #[.bool t1, .int .i64 b1, .int .i64 tp1, .int .i64 at1, .int .i64 pm1, .int .i64 ty1], .int .u8 a2] w fun e w' => e = .returned (.bool true) ∧ Ext w w' := by
  obtain ⟨a2l, a2h⟩ := wfu8 w2
  clear w2
  obtain ⟨kk, hkk, hk8⟩ : ∃ kk : Nat, a2 % 8 = (kk : Int) ∧ kk < 8 := ⟨(a2 % 8).toNat, by omega, by omega⟩
  have hkk2 : a2.tmod 8 = (kk : Int) := by rw [Int.tmod_eq_emod_of_nonneg a2l]; exact hkk
  have hki0 : (0 : Int) ≤ (kk : Int) := by omega
  have hki8 : (kk : Int) < 8 := by omega
  have HK := hid hkk
  have HK2 := hid hkk2
  clear hkk hkk2
  unfold maxLen at wl0
  clear wb1 wtp1 wat1 wpm1 wty1
  by_cases hlen : zs0.length ≤ 300
  · have HS := hid hs0
    have HZ := hid wz0
    clear hs0 wz0
    cases hrc : rightC ⟨t1, b1, tp1, at1, pm1, ty1⟩ with
    | false =>
      go_enter Try.func5, Try.ntmps5
      go_wp2_with (first | (go_at_call 7; refine Calls.mono (head _) ?_; rintro e wh ⟨rfl, hxh⟩; obtain ⟨dh, rfl⟩ := hxh.grown; clear hxh) | (go_at_call 8; refine Calls.mono (new_ _) ?_; rintro e w1 ⟨q1, rfl, hq1, hx1, hF1⟩; obtain ⟨dn, rfl⟩ := hx1.grown; clear hx1; have hF1 := hid hF1) | (go_at_call 23; refine Calls.mono (rcapRight _ _ _ _ _ _ _) ?_; rintro e w' ⟨rfl, hy⟩; obtain ⟨dr, rfl⟩ := hy.grown; clear hy))
      all_goals go_ret
      all_goals exact ⟨rfl, (by repeat (first | (with_reducible exact Ext.refl _) | (with_reducible refine Ext.undrew ?_) | (with_reducible refine Ext.grow ?_ _) | (with_reducible refine Ext.drew ?_) | (with_reducible refine Ext.alloc ?_ _) | (with_reducible assumption) | ((with_reducible refine Ext.turn ?_ ?_ _); rotate_left; (first | omega | (with_reducible assumption) | (simp only [World.size_alloc, grow_size, turn_size, World.size_setCell] at *; omega))) | ((with_reducible refine Ext.setCell ?_ ?_ _); rotate_left; ((try dsimp only); (first | omega | (with_reducible assumption) | (simp only [World.size_alloc, grow_size, turn_size, World.size_setCell] at *; omega))))))⟩
    | true =>
    go_enter Try.func5, Try.ntmps5
    go_wp2_with (first | (go_at_call 7; refine Calls.mono (head _) ?_; rintro e wh ⟨rfl, hxh⟩; obtain ⟨dh, rfl⟩ := hxh.grown; clear hxh) | (go_at_call 8; refine Calls.mono (new_ _) ?_; rintro e w1 ⟨q1, rfl, hq1, hx1, hF1⟩; obtain ⟨dn, rfl⟩ := hx1.grown; clear hx1; have hF1 := hid hF1) | (go_at_call 23; refine Calls.mono (rcapRight _ _ _ _ _ _ _) ?_; rintro e w' ⟨rfl, hy⟩; obtain ⟨dr, rfl⟩ := hy.grown; clear hy))
    have hw1 : w.heap.size < q1 := by simp only [grow_size, World.size_alloc] at hq1; omega
    have hx1' : True := trivial
    have hF1' := hF1
    have hBX := hid (Row.new w #[.bool t1, .int .i64 b1, .int .i64 tp1, .int .i64 at1, .int .i64 pm1, .int .i64 ty1] 29)
    clear hF1 hq1
    go_loopw [9] (fun i wr => ∃ (k : Nat) (L : Nat → Cap), k ≤ zs0.length ∧ i = .int .i64 k ∧ Hid (Fil wr q1 L) ∧ Hid (∀ i, i < 8 → rightC (L i) = true) ∧ Hid (Row wr w.heap.size 0 (⟨t1, b1, tp1, at1, pm1, ty1⟩ : Cap).cells) ∧ Ext w wr) (fun i _ => zs0.length - (intOf i).toNat)
    case atStart => exact ⟨0, fun _ => nullC, Nat.zero_le _, rfl, hid (Fil.keep hF1'.out (by repeat (first | (with_reducible exact Keep.refl _ _) | (with_reducible refine Keep.drew ?_) | (with_reducible refine Keep.grow ?_ _) | (with_reducible refine Keep.alloc ?_ _) | (with_reducible assumption) | ((with_reducible refine Keep.turn ?_ ?_ _); rotate_left; (first | omega | (with_reducible assumption) | (simp only [World.size_alloc, grow_size, turn_size, World.size_setCell] at *; omega))) | ((with_reducible refine Keep.setCell ?_ ?_ _); rotate_left; (first | omega | (with_reducible assumption) | (simp only [World.size_alloc, grow_size, turn_size, World.size_setCell] at *; omega)))))), hid right_null, hid (Row.ext hBX.out (by repeat (first | (with_reducible exact Ext.refl _) | (with_reducible refine Ext.undrew ?_) | (with_reducible refine Ext.grow ?_ _) | (with_reducible refine Ext.drew ?_) | (with_reducible refine Ext.alloc ?_ _) | (with_reducible assumption) | ((with_reducible refine Ext.turn ?_ ?_ _); rotate_left; (first | omega | (with_reducible assumption) | (simp only [World.size_alloc, grow_size, turn_size, World.size_setCell] at *; omega))) | ((with_reducible refine Ext.setCell ?_ ?_ _); rotate_left; ((try dsimp only); (first | omega | (with_reducible assumption) | (simp only [World.size_alloc, grow_size, turn_size, World.size_setCell] at *; omega))))))), (by repeat (first | (with_reducible exact Ext.refl _) | (with_reducible refine Ext.undrew ?_) | (with_reducible refine Ext.grow ?_ _) | (with_reducible refine Ext.drew ?_) | (with_reducible refine Ext.alloc ?_ _) | (with_reducible assumption) | ((with_reducible refine Ext.turn ?_ ?_ _); rotate_left; (first | omega | (with_reducible assumption) | (simp only [World.size_alloc, grow_size, turn_size, World.size_setCell] at *; omega))) | ((with_reducible refine Ext.setCell ?_ ?_ _); rotate_left; ((try dsimp only); (first | omega | (with_reducible assumption) | (simp only [World.size_alloc, grow_size, turn_size, World.size_setCell] at *; omega))))))⟩
    case round =>
      obtain ⟨k, L, hk, rfl, hF1, hR, hB, hx⟩ := hrel
      clear hF1' hx1'
      by_cases hlt : k < zs0.length
      · obtain ⟨z, hz⟩ : ∃ z, zs0[k] = z := ⟨_, rfl⟩
        obtain ⟨b, o, rfl, hb, c0, c1, c2, c3, c4, c5, c6, c7, c8, c9⟩ := RegOp.facts HS.out hlt z hz
        have e0 := (hx.cells b (o + k * 10) hb).trans c0
        have e1 := (hx.cells b (o + k * 10 + 1) hb).trans c1
        have e2 := (hx.cells b (o + k * 10 + 2) hb).trans c2
        have e3 := (hx.cells b (o + k * 10 + 3) hb).trans c3
        have e4 := (hx.cells b (o + k * 10 + 4) hb).trans c4
        have e5 := (hx.cells b (o + k * 10 + 5) hb).trans c5
        have e6 := (hx.cells b (o + k * 10 + 6) hb).trans c6
        have e7 := (hx.cells b (o + k * 10 + 7) hb).trans c7
        have e8 := (hx.cells b (o + k * 10 + 8) hb).trans c8
        have e9 := (hx.cells b (o + k * 10 + 9) hb).trans c9
        clear hz c0 c1 c2 c3 c4 c5 c6 c7 c8 c9
        have hq1 : q1 < wr.heap.size := (hF1.out.at_ (show 0 < 8 by omega)).lt
        have hbx := hx.size
        have hbr : b < wr.heap.size := by omega
        have hk0 : (0 : Int) ≤ (k : Int) := by omega
        have hk1 : (k : Int) < (zs0.length : Int) := by omega
        have hbq : ¬ b = q1 := by omega
        go_wp2
        go_region_held3 (fun w' => w'.cell? ⟨b, o + k * 10 + 1, none⟩ = some (.int .i64 z.a) ∧ w'.cell? ⟨b, o + k * 10 + 3, none⟩ = some (.bool z.c.tag) ∧ w'.cell? ⟨b, o + k * 10 + 4, none⟩ = some (.int .i64 z.c.base) ∧ w'.cell? ⟨b, o + k * 10 + 5, none⟩ = some (.int .i64 z.c.top) ∧ w'.cell? ⟨b, o + k * 10 + 6, none⟩ = some (.int .i64 z.c.at_) ∧ w'.cell? ⟨b, o + k * 10 + 7, none⟩ = some (.int .i64 z.c.perms) ∧ w'.cell? ⟨b, o + k * 10 + 8, none⟩ = some (.int .i64 z.c.type)) (first | (simp [go_sem, *]; done) | go_keep) ((go_at_call 14; refine Calls.mono (set_ q1 L z.a z.c.tag z.c.base z.c.top z.c.at_ z.c.perms z.c.type _ (Fil.keep hF1.out (by repeat (first | (with_reducible exact Keep.refl _ _) | (with_reducible refine Keep.drew ?_) | (with_reducible refine Keep.grow ?_ _) | (with_reducible refine Keep.alloc ?_ _) | (with_reducible assumption) | ((with_reducible refine Keep.turn ?_ ?_ _); rotate_left; (first | omega | (with_reducible assumption) | (simp only [World.size_alloc, grow_size, turn_size, World.size_setCell] at *; omega))) | ((with_reducible refine Keep.setCell ?_ ?_ _); rotate_left; (first | omega | (with_reducible assumption) | (simp only [World.size_alloc, grow_size, turn_size, World.size_setCell] at *; omega))))))) ?_; rintro e w' ⟨rfl, hG1, hO⟩; obtain ⟨ob1, d1, rfl⟩ := hO.turned; clear hO; have hG1 := hid hG1))
        go_wp2
        go_roundw
        case rel => exact ⟨k + 1, _, by omega, by go_num, hid (Fil.keep hG1.out (by repeat (first | (with_reducible exact Keep.refl _ _) | (with_reducible refine Keep.drew ?_) | (with_reducible refine Keep.grow ?_ _) | (with_reducible refine Keep.alloc ?_ _) | (with_reducible assumption) | ((with_reducible refine Keep.turn ?_ ?_ _); rotate_left; (first | omega | (with_reducible assumption) | (simp only [World.size_alloc, grow_size, turn_size, World.size_setCell] at *; omega))) | ((with_reducible refine Keep.setCell ?_ ?_ _); rotate_left; (first | omega | (with_reducible assumption) | (simp only [World.size_alloc, grow_size, turn_size, World.size_setCell] at *; omega)))))), hid (right_set hR.out), hid (Row.keep hB.out (by repeat (first | (with_reducible exact Keep.refl _ _) | (with_reducible refine Keep.drew ?_) | (with_reducible refine Keep.grow ?_ _) | (with_reducible refine Keep.alloc ?_ _) | (with_reducible assumption) | ((with_reducible refine Keep.turn ?_ ?_ _); rotate_left; (first | omega | (with_reducible assumption) | (simp only [World.size_alloc, grow_size, turn_size, World.size_setCell] at *; omega))) | ((with_reducible refine Keep.setCell ?_ ?_ _); rotate_left; (first | omega | (with_reducible assumption) | (simp only [World.size_alloc, grow_size, turn_size, World.size_setCell] at *; omega)))))), (by repeat (first | (with_reducible exact Ext.refl _) | (with_reducible refine Ext.undrew ?_) | (with_reducible refine Ext.grow ?_ _) | (with_reducible refine Ext.drew ?_) | (with_reducible refine Ext.alloc ?_ _) | (with_reducible assumption) | ((with_reducible refine Ext.turn ?_ ?_ _); rotate_left; (first | omega | (with_reducible assumption) | (simp only [World.size_alloc, grow_size, turn_size, World.size_setCell] at *; omega))) | ((with_reducible refine Ext.setCell ?_ ?_ _); rotate_left; ((try dsimp only); (first | omega | (with_reducible assumption) | (simp only [World.size_alloc, grow_size, turn_size, World.size_setCell] at *; omega))))))⟩
        case measure => simp [intOf]; omega
      · have hq1 : q1 < wr.heap.size := (hF1.out.at_ (show 0 < 8 by omega)).lt
        have hbl := hB.out.lt
        go_wp2_with fail
        refine Calls.mono (all_ q1 _ _ (Fil.keep hF1.out (by repeat (first | (with_reducible exact Keep.refl _ _) | (with_reducible refine Keep.drew ?_) | (with_reducible refine Keep.grow ?_ _) | (with_reducible refine Keep.alloc ?_ _) | (with_reducible assumption) | ((with_reducible refine Keep.turn ?_ ?_ _); rotate_left; (first | omega | (with_reducible assumption) | (simp only [World.size_alloc, grow_size, turn_size, World.size_setCell] at *; omega))) | ((with_reducible refine Keep.setCell ?_ ?_ _); rotate_left; (first | omega | (with_reducible assumption) | (simp only [World.size_alloc, grow_size, turn_size, World.size_setCell] at *; omega))))))) ?_
        rintro e w2 ⟨B1, rfl, hB1, hy2, hC1⟩
        have hF2 := hid (hF1.out.ext hy2)
        have hs2 := hy2.size
        have hx2 := hx.trans hy2
        have hn1 : ¬ B1 = q1 := by omega
        go_wp2_with fail
        refine Calls.mono (all_ q1 _ _ (Fil.keep hF2.out (by repeat (first | (with_reducible exact Keep.refl _ _) | (with_reducible refine Keep.drew ?_) | (with_reducible refine Keep.grow ?_ _) | (with_reducible refine Keep.alloc ?_ _) | (with_reducible assumption) | ((with_reducible refine Keep.turn ?_ ?_ _); rotate_left; (first | omega | (with_reducible assumption) | (simp only [World.size_alloc, grow_size, turn_size, World.size_setCell] at *; omega))) | ((with_reducible refine Keep.setCell ?_ ?_ _); rotate_left; (first | omega | (with_reducible assumption) | (simp only [World.size_alloc, grow_size, turn_size, World.size_setCell] at *; omega))))))) ?_
        rintro e w3 ⟨B2, rfl, hB2, hy3, hC2⟩
        have hF3 := hid (hF2.out.ext hy3)
        have hs3 := hy3.size
        have hx3 := hx2.trans hy3
        have hl1 : B1 < w2.heap.size := (hC1 0 (by omega)).lt
        have hl2 : B2 < w3.heap.size := (hC2 0 (by omega)).lt
        have hC1 := hid (Caps.ext hC1 hy3)
        have hC2 := hid hC2
        have hB3 := hid ((hB.out.ext hy2).ext hy3)
        clear hF1 hF2 hB hy2 hy3 hx hx2 hBX
        have hkk := HK.out
        have hkk2 := HK2.out
        have n1 : ¬ q1 = B1 := by omega
        have n2 : ¬ w.heap.size = B1 := by omega
        have n3 : ¬ B1 = w.heap.size := by omega
        have n4 : ¬ B2 = B1 := by omega
        have n5 : ¬ B1 = B2 := by omega
        have n6 : ¬ B2 = q1 := by omega
        have n61 : ¬ q1 = B2 := by omega
        have n62 : ¬ q1 = w.heap.size := by omega
        have n7 : ¬ w.heap.size = q1 := by omega
        have n8 : B1 < w3.heap.size := by omega
        have n9 : w.heap.size < w3.heap.size := by omega
        have n10 : q1 < w3.heap.size := by omega
        have hR1 := hC1.out kk hk8
        rw [Nat.zero_add] at hR1
        obtain ⟨_, c0, c1, c2, c3, c4, c5⟩ := hR1.six
        obtain ⟨f0, f1, f2, f3, f4, f5⟩ := hR1.frees
        obtain ⟨_, v0, v1, v2, v3, v4, v5⟩ := hB3.out.six
        clear hR1
        have hP := Caps.put hC1.out hk8 ⟨t1, b1, tp1, at1, pm1, ty1⟩
        simp only [Cap.cells, World.setCells, Nat.zero_add, Nat.add_assoc, Nat.reduceAdd] at hP
        have hP := hid hP
        have hok2 : okPut 8 (upd L kk ⟨t1, b1, tp1, at1, pm1, ty1⟩) = true := by rw [okPut_8]; exact allR_yes (right_upd hR.out hrc)
        have hok3 : okPut 8 L = true := by rw [okPut_8]; exact allR_yes hR.out
        have HK2 := hid hok2
        have HK3 := hid hok3
        have hget : getL (upd L kk ⟨t1, b1, tp1, at1, pm1, ty1⟩) (kk : Int) = ⟨t1, b1, tp1, at1, pm1, ty1⟩ := (getL_nat _ hk8).trans (by unfold upd; rw [if_pos rfl])
        go_wp2_with (first | (go_at_call 17; refine Calls.mono (all_ q1 _ _ (Fil.keep hF3.out (by repeat (first | (with_reducible exact Keep.refl _ _) | (with_reducible refine Keep.drew ?_) | (with_reducible refine Keep.grow ?_ _) | (with_reducible refine Keep.alloc ?_ _) | (with_reducible assumption) | ((with_reducible refine Keep.turn ?_ ?_ _); rotate_left; (first | omega | (with_reducible assumption) | (simp only [World.size_alloc, grow_size, turn_size, World.size_setCell] at *; omega))) | ((with_reducible refine Keep.setCell ?_ ?_ _); rotate_left; (first | omega | (with_reducible assumption) | (simp only [World.size_alloc, grow_size, turn_size, World.size_setCell] at *; omega))))))) ?_; rintro e w' ⟨B5, rfl, hB5, hy, hC5⟩; obtain ⟨d5, rfl⟩ := hy.grown; clear hy; have hC5 := hid hC5) | (go_at_call 16; refine Calls.mono (same_ _ _ 8 _ _ L _ (Caps.rd (Caps.keep hC5.out (by repeat (first | (with_reducible exact Keep.refl _ _) | (with_reducible refine Keep.drew ?_) | (with_reducible refine Keep.grow ?_ _) | (with_reducible refine Keep.alloc ?_ _) | (with_reducible assumption) | ((with_reducible refine Keep.turn ?_ ?_ _); rotate_left; (first | omega | (with_reducible assumption) | (simp only [World.size_alloc, grow_size, turn_size, World.size_setCell] at *; omega))) | ((with_reducible refine Keep.setCell ?_ ?_ _); rotate_left; (first | omega | (with_reducible assumption) | (simp only [World.size_alloc, grow_size, turn_size, World.size_setCell] at *; omega))))))) (Caps.rd (Caps.keep hC2.out (by repeat (first | (with_reducible exact Keep.refl _ _) | (with_reducible refine Keep.drew ?_) | (with_reducible refine Keep.grow ?_ _) | (with_reducible refine Keep.alloc ?_ _) | (with_reducible assumption) | ((with_reducible refine Keep.turn ?_ ?_ _); rotate_left; (first | omega | (with_reducible assumption) | (simp only [World.size_alloc, grow_size, turn_size, World.size_setCell] at *; omega))) | ((with_reducible refine Keep.setCell ?_ ?_ _); rotate_left; (first | omega | (with_reducible assumption) | (simp only [World.size_alloc, grow_size, turn_size, World.size_setCell] at *; omega))))))) (by omega)) ?_; rintro e w' ⟨rfl, hy⟩; obtain ⟨d6, rfl⟩ := hy.grown; clear hy))
        go_wp2_with fail
        refine Calls.mono (put_ q1 (L) _ 8 _ (upd L kk ⟨t1, b1, tp1, at1, pm1, ty1⟩) _ (Fil.keep hF3.out (by repeat (first | (with_reducible exact Keep.refl _ _) | (with_reducible refine Keep.drew ?_) | (with_reducible refine Keep.grow ?_ _) | (with_reducible refine Keep.alloc ?_ _) | (with_reducible assumption) | ((with_reducible refine Keep.turn ?_ ?_ _); rotate_left; (first | omega | (with_reducible assumption) | (simp only [World.size_alloc, grow_size, turn_size, World.size_setCell] at *; omega))) | ((with_reducible refine Keep.setCell ?_ ?_ _); rotate_left; (first | omega | (with_reducible assumption) | (simp only [World.size_alloc, grow_size, turn_size, World.size_setCell] at *; omega)))))) (Caps.rd (Caps.keep hP.out (by repeat (first | (with_reducible exact Keep.refl _ _) | (with_reducible refine Keep.drew ?_) | (with_reducible refine Keep.grow ?_ _) | (with_reducible refine Keep.alloc ?_ _) | (with_reducible assumption) | ((with_reducible refine Keep.turn ?_ ?_ _); rotate_left; (first | omega | (with_reducible assumption) | (simp only [World.size_alloc, grow_size, turn_size, World.size_setCell] at *; omega))) | ((with_reducible refine Keep.setCell ?_ ?_ _); rotate_left; (first | omega | (with_reducible assumption) | (simp only [World.size_alloc, grow_size, turn_size, World.size_setCell] at *; omega))))))) (by omega)) ?_
        rintro e w' ⟨rfl, hG2, hO⟩
        obtain ⟨ob2, dp2, rfl⟩ := hO.turned
        rw [putL_yes hok2] at hG2
        have hG2 := hid hG2
        clear hO
        go_wp2_with (go_at_call 19; refine Calls.mono (get_ q1 _ _ _ (Fil.keep hG2.out (by repeat (first | (with_reducible exact Keep.refl _ _) | (with_reducible refine Keep.drew ?_) | (with_reducible refine Keep.grow ?_ _) | (with_reducible refine Keep.alloc ?_ _) | (with_reducible assumption) | ((with_reducible refine Keep.turn ?_ ?_ _); rotate_left; (first | omega | (with_reducible assumption) | (simp only [World.size_alloc, grow_size, turn_size, World.size_setCell] at *; omega))) | ((with_reducible refine Keep.setCell ?_ ?_ _); rotate_left; (first | omega | (with_reducible assumption) | (simp only [World.size_alloc, grow_size, turn_size, World.size_setCell] at *; omega))))))) ?_; rintro e w' ⟨rfl, hy⟩; obtain ⟨d7, rfl⟩ := hy.grown; clear hy)
        go_wp2_with fail
        refine Calls.mono (put_ q1 (upd L kk ⟨t1, b1, tp1, at1, pm1, ty1⟩) _ 8 _ (L) _ (Fil.keep hG2.out (by repeat (first | (with_reducible exact Keep.refl _ _) | (with_reducible refine Keep.drew ?_) | (with_reducible refine Keep.grow ?_ _) | (with_reducible refine Keep.alloc ?_ _) | (with_reducible assumption) | ((with_reducible refine Keep.turn ?_ ?_ _); rotate_left; (first | omega | (with_reducible assumption) | (simp only [World.size_alloc, grow_size, turn_size, World.size_setCell] at *; omega))) | ((with_reducible refine Keep.setCell ?_ ?_ _); rotate_left; (first | omega | (with_reducible assumption) | (simp only [World.size_alloc, grow_size, turn_size, World.size_setCell] at *; omega)))))) (Caps.rd (Caps.keep hC2.out (by repeat (first | (with_reducible exact Keep.refl _ _) | (with_reducible refine Keep.drew ?_) | (with_reducible refine Keep.grow ?_ _) | (with_reducible refine Keep.alloc ?_ _) | (with_reducible assumption) | ((with_reducible refine Keep.turn ?_ ?_ _); rotate_left; (first | omega | (with_reducible assumption) | (simp only [World.size_alloc, grow_size, turn_size, World.size_setCell] at *; omega))) | ((with_reducible refine Keep.setCell ?_ ?_ _); rotate_left; (first | omega | (with_reducible assumption) | (simp only [World.size_alloc, grow_size, turn_size, World.size_setCell] at *; omega))))))) (by omega)) ?_
        rintro e w' ⟨rfl, hG3, hO⟩
        obtain ⟨ob3, dp3, rfl⟩ := hO.turned
        rw [putL_yes hok3] at hG3
        have hG3 := hid hG3
        clear hO
        go_wp2_with (first | (go_at_call 17; refine Calls.mono (all_ q1 _ _ (Fil.keep hG3.out (by repeat (first | (with_reducible exact Keep.refl _ _) | (with_reducible refine Keep.drew ?_) | (with_reducible refine Keep.grow ?_ _) | (with_reducible refine Keep.alloc ?_ _) | (with_reducible assumption) | ((with_reducible refine Keep.turn ?_ ?_ _); rotate_left; (first | omega | (with_reducible assumption) | (simp only [World.size_alloc, grow_size, turn_size, World.size_setCell] at *; omega))) | ((with_reducible refine Keep.setCell ?_ ?_ _); rotate_left; (first | omega | (with_reducible assumption) | (simp only [World.size_alloc, grow_size, turn_size, World.size_setCell] at *; omega))))))) ?_; rintro e w' ⟨B9, rfl, hB9, hy, hC9⟩; obtain ⟨d8, rfl⟩ := hy.grown; clear hy; have hC9 := hid hC9) | (go_at_call 16; refine Calls.mono (same_ _ _ 8 _ _ L _ (Caps.rd (Caps.keep hC9.out (by repeat (first | (with_reducible exact Keep.refl _ _) | (with_reducible refine Keep.drew ?_) | (with_reducible refine Keep.grow ?_ _) | (with_reducible refine Keep.alloc ?_ _) | (with_reducible assumption) | ((with_reducible refine Keep.turn ?_ ?_ _); rotate_left; (first | omega | (with_reducible assumption) | (simp only [World.size_alloc, grow_size, turn_size, World.size_setCell] at *; omega))) | ((with_reducible refine Keep.setCell ?_ ?_ _); rotate_left; (first | omega | (with_reducible assumption) | (simp only [World.size_alloc, grow_size, turn_size, World.size_setCell] at *; omega))))))) (Caps.rd (Caps.keep hC2.out (by repeat (first | (with_reducible exact Keep.refl _ _) | (with_reducible refine Keep.drew ?_) | (with_reducible refine Keep.grow ?_ _) | (with_reducible refine Keep.alloc ?_ _) | (with_reducible assumption) | ((with_reducible refine Keep.turn ?_ ?_ _); rotate_left; (first | omega | (with_reducible assumption) | (simp only [World.size_alloc, grow_size, turn_size, World.size_setCell] at *; omega))) | ((with_reducible refine Keep.setCell ?_ ?_ _); rotate_left; (first | omega | (with_reducible assumption) | (simp only [World.size_alloc, grow_size, turn_size, World.size_setCell] at *; omega))))))) (by omega)) ?_; rintro e w' ⟨rfl, hy⟩; obtain ⟨d9, rfl⟩ := hy.grown; clear hy))
        go_ret
        exact ⟨rfl, (by repeat (first | (with_reducible exact Ext.refl _) | (with_reducible refine Ext.undrew ?_) | (with_reducible refine Ext.grow ?_ _) | (with_reducible refine Ext.drew ?_) | (with_reducible refine Ext.alloc ?_ _) | (with_reducible assumption) | ((with_reducible refine Ext.turn ?_ ?_ _); rotate_left; (first | omega | (with_reducible assumption) | (simp only [World.size_alloc, grow_size, turn_size, World.size_setCell] at *; omega))) | ((with_reducible refine Ext.setCell ?_ ?_ _); rotate_left; ((try dsimp only); (first | omega | (with_reducible assumption) | (simp only [World.size_alloc, grow_size, turn_size, World.size_setCell] at *; omega))))))⟩
  · clear hs0 wz0
    go_enter Try.func5, Try.ntmps5
    go_wp2_with (first | (go_at_call 7; refine Calls.mono (head _) ?_; rintro e wh ⟨rfl, hxh⟩; obtain ⟨dh, rfl⟩ := hxh.grown; clear hxh) | (go_at_call 8; refine Calls.mono (new_ _) ?_; rintro e w1 ⟨q1, rfl, hq1, hx1, hF1⟩; obtain ⟨dn, rfl⟩ := hx1.grown; clear hx1; have hF1 := hid hF1) | (go_at_call 23; refine Calls.mono (rcapRight _ _ _ _ _ _ _) ?_; rintro e w' ⟨rfl, hy⟩; obtain ⟨dr, rfl⟩ := hy.grown; clear hy))
    all_goals go_ret
    all_goals exact ⟨rfl, (by repeat (first | (with_reducible exact Ext.refl _) | (with_reducible refine Ext.undrew ?_) | (with_reducible refine Ext.grow ?_ _) | (with_reducible refine Ext.drew ?_) | (with_reducible refine Ext.alloc ?_ _) | (with_reducible assumption) | ((with_reducible refine Ext.turn ?_ ?_ _); rotate_left; (first | omega | (with_reducible assumption) | (simp only [World.size_alloc, grow_size, turn_size, World.size_setCell] at *; omega))) | ((with_reducible refine Ext.setCell ?_ ?_ _); rotate_left; ((try dsimp only); (first | omega | (with_reducible assumption) | (simp only [World.size_alloc, grow_size, turn_size, World.size_setCell] at *; omega))))))⟩
end regsBack

end Go.Proofs.Ytjepkdfiihgheaa
