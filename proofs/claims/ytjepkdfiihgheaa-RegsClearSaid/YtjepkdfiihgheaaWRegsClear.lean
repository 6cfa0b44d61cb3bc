/- The walk of the law RegsClear. -/
import Derived.Test.YtjepkdfiihgheaaOps18
namespace Go.Proofs.Ytjepkdfiihgheaa
set_option linter.unusedSimpArgs false
set_option linter.unusedVariables false
open Go.RowKit

namespace regsClear
set_option maxRecDepth 100000 in
set_option maxHeartbeats 16000000 in
theorem walk (A0 : Option Addr) (cap0 : Nat) (zs0 : List RegOp) (a1 : Int) (a2 : Int) (w : World) (wl0 : zs0.length ≤ maxLen) (hs0 : SlAtN w A0 10 (zs0.map RegOp.cells)) (wz0 : ∀ z ∈ zs0, z.good w) (w1 : (Lit.int .i64 a1).wf = true) (w2 : (Lit.int .i64 a2).wf = true) :
    Calls Try.prog 6 #[.slice A0 zs0.length cap0, .int .i64 a1, .int .i64 a2] w fun e w' => e = .returned (.bool true) ∧ Ext w w' := by
  unfold maxLen at wl0
  by_cases hlen : zs0.length ≤ 300
  · have HS := hid hs0
    have HZ := hid wz0
    clear hs0 wz0
    go_enter Try.func6, Try.ntmps6
    go_wp2_with (first | (go_at_call 7; refine Calls.mono (head _) ?_; rintro e wh ⟨rfl, hxh⟩; obtain ⟨dh, rfl⟩ := hxh.grown; clear hxh) | (go_at_call 8; refine Calls.mono (new_ _) ?_; rintro e w1 ⟨q1, rfl, hq1, hx1, hF1⟩))
    have hq1s : q1 < w1.heap.size := (hF1.at_ (show 0 < 8 by omega)).lt
    have hw1 : w.heap.size ≤ q1 := by simp only [grow_size] at hq1; omega
    have hx1' : Ext w w1 := Ext.trans (Ext.grow (Ext.refl w) _) hx1
    have hF1' := hid hF1
    clear hx1 hF1 hq1
    go_loopw [9] (fun i wr => ∃ (k : Nat) (L : Nat → Cap), k ≤ zs0.length ∧ i = .int .i64 k ∧ Hid (Fil wr q1 L) ∧ Ext w wr) (fun i _ => zs0.length - (intOf i).toNat)
    case atStart => exact ⟨0, fun _ => nullC, Nat.zero_le _, rfl, hid (Fil.keep hF1'.out (by repeat (first | (with_reducible exact Keep.refl _ _) | (with_reducible refine Keep.drew ?_) | (with_reducible refine Keep.grow ?_ _) | (with_reducible refine Keep.alloc ?_ _) | (with_reducible assumption) | ((with_reducible refine Keep.turn ?_ ?_ _); rotate_left; (first | omega | (with_reducible assumption) | (simp only [World.size_alloc, grow_size, turn_size, World.size_setCell] at *; omega))) | ((with_reducible refine Keep.setCell ?_ ?_ _); rotate_left; (first | omega | (with_reducible assumption) | (simp only [World.size_alloc, grow_size, turn_size, World.size_setCell] at *; omega)))))), (by repeat (first | (with_reducible exact Ext.refl _) | (with_reducible refine Ext.undrew ?_) | (with_reducible refine Ext.grow ?_ _) | (with_reducible refine Ext.drew ?_) | (with_reducible refine Ext.alloc ?_ _) | (with_reducible assumption) | ((with_reducible refine Ext.turn ?_ ?_ _); rotate_left; (first | omega | (with_reducible assumption) | (simp only [World.size_alloc, grow_size, turn_size, World.size_setCell] at *; omega))) | ((with_reducible refine Ext.setCell ?_ ?_ _); rotate_left; ((try dsimp only); (first | omega | (with_reducible assumption) | (simp only [World.size_alloc, grow_size, turn_size, World.size_setCell] at *; omega))))))⟩
    case round =>
      obtain ⟨k, L, hk, rfl, hF1, hx⟩ := hrel
      clear hF1' hx1'
      by_cases hlt : k < zs0.length
      · obtain ⟨z, hz⟩ : ∃ z, zs0[k] = z := ⟨_, rfl⟩
        obtain ⟨b, o, rfl, hb, c0, c1, c2, c3, c4, c5, c6, c7, c8, c9⟩ := RegOp.facts HS.out hlt z hz
        have e0 := (hx.cells b (o + k * 10) hb).trans c0
        have e1 := (hx.cells b (o + k * 10 + 1) hb).trans c1
        have e2 := (hx.cells b (o + k * 10 + 2) hb).trans c2
        have e3 := (hx.cells b (o + k * 10 + 3) hb).trans c3
        have e4 := (hx.cells b (o + k * 10 + 4) hb).trans c4
        have e5 := (hx.cells b (o + k * 10 + 5) hb).trans c5
        have e6 := (hx.cells b (o + k * 10 + 6) hb).trans c6
        have e7 := (hx.cells b (o + k * 10 + 7) hb).trans c7
        have e8 := (hx.cells b (o + k * 10 + 8) hb).trans c8
        have e9 := (hx.cells b (o + k * 10 + 9) hb).trans c9
        clear hz c0 c1 c2 c3 c4 c5 c6 c7 c8 c9
        have hq1 : q1 < wr.heap.size := (hF1.out.at_ (show 0 < 8 by omega)).lt
        have hbx := hx.size
        have hbr : b < wr.heap.size := by omega
        have hk0 : (0 : Int) ≤ (k : Int) := by omega
        have hk1 : (k : Int) < (zs0.length : Int) := by omega
        have hbq : ¬ b = q1 := by omega
        go_wp2
        go_region_held3 (fun w' => w'.cell? ⟨b, o + k * 10 + 1, none⟩ = some (.int .i64 z.a) ∧ w'.cell? ⟨b, o + k * 10 + 3, none⟩ = some (.bool z.c.tag) ∧ w'.cell? ⟨b, o + k * 10 + 4, none⟩ = some (.int .i64 z.c.base) ∧ w'.cell? ⟨b, o + k * 10 + 5, none⟩ = some (.int .i64 z.c.top) ∧ w'.cell? ⟨b, o + k * 10 + 6, none⟩ = some (.int .i64 z.c.at_) ∧ w'.cell? ⟨b, o + k * 10 + 7, none⟩ = some (.int .i64 z.c.perms) ∧ w'.cell? ⟨b, o + k * 10 + 8, none⟩ = some (.int .i64 z.c.type)) (first | (simp [go_sem, *]; done) | go_keep) ((go_at_call 14; refine Calls.mono (set_ q1 L z.a z.c.tag z.c.base z.c.top z.c.at_ z.c.perms z.c.type _ (Fil.keep hF1.out (by repeat (first | (with_reducible exact Keep.refl _ _) | (with_reducible refine Keep.drew ?_) | (with_reducible refine Keep.grow ?_ _) | (with_reducible refine Keep.alloc ?_ _) | (with_reducible assumption) | ((with_reducible refine Keep.turn ?_ ?_ _); rotate_left; (first | omega | (with_reducible assumption) | (simp only [World.size_alloc, grow_size, turn_size, World.size_setCell] at *; omega))) | ((with_reducible refine Keep.setCell ?_ ?_ _); rotate_left; (first | omega | (with_reducible assumption) | (simp only [World.size_alloc, grow_size, turn_size, World.size_setCell] at *; omega))))))) ?_; rintro e w' ⟨rfl, hG1, hO⟩; obtain ⟨ob1, d1, rfl⟩ := hO.turned; clear hO; have hG1 := hid hG1))
        go_wp2
        go_roundw
        case rel => exact ⟨k + 1, _, by omega, by go_num, hid (Fil.keep hG1.out (by repeat (first | (with_reducible exact Keep.refl _ _) | (with_reducible refine Keep.drew ?_) | (with_reducible refine Keep.grow ?_ _) | (with_reducible refine Keep.alloc ?_ _) | (with_reducible assumption) | ((with_reducible refine Keep.turn ?_ ?_ _); rotate_left; (first | omega | (with_reducible assumption) | (simp only [World.size_alloc, grow_size, turn_size, World.size_setCell] at *; omega))) | ((with_reducible refine Keep.setCell ?_ ?_ _); rotate_left; (first | omega | (with_reducible assumption) | (simp only [World.size_alloc, grow_size, turn_size, World.size_setCell] at *; omega)))))), (by repeat (first | (with_reducible exact Ext.refl _) | (with_reducible refine Ext.undrew ?_) | (with_reducible refine Ext.grow ?_ _) | (with_reducible refine Ext.drew ?_) | (with_reducible refine Ext.alloc ?_ _) | (with_reducible assumption) | ((with_reducible refine Ext.turn ?_ ?_ _); rotate_left; (first | omega | (with_reducible assumption) | (simp only [World.size_alloc, grow_size, turn_size, World.size_setCell] at *; omega))) | ((with_reducible refine Ext.setCell ?_ ?_ _); rotate_left; ((try dsimp only); (first | omega | (with_reducible assumption) | (simp only [World.size_alloc, grow_size, turn_size, World.size_setCell] at *; omega))))))⟩
        case measure => simp [intOf]; omega
      · have hq1 : q1 < wr.heap.size := (hF1.out.at_ (show 0 < 8 by omega)).lt
        go_wp2_with fail
        refine Calls.mono (all_ q1 _ _ (Fil.keep hF1.out (by repeat (first | (with_reducible exact Keep.refl _ _) | (with_reducible refine Keep.drew ?_) | (with_reducible refine Keep.grow ?_ _) | (with_reducible refine Keep.alloc ?_ _) | (with_reducible assumption) | ((with_reducible refine Keep.turn ?_ ?_ _); rotate_left; (first | omega | (with_reducible assumption) | (simp only [World.size_alloc, grow_size, turn_size, World.size_setCell] at *; omega))) | ((with_reducible refine Keep.setCell ?_ ?_ _); rotate_left; (first | omega | (with_reducible assumption) | (simp only [World.size_alloc, grow_size, turn_size, World.size_setCell] at *; omega))))))) ?_
        rintro e w2 ⟨B1, rfl, hB1, hy2, hC1⟩
        have hF2 := hid (hF1.out.ext hy2)
        have hs2 := hy2.size
        have hx2 := hx.trans hy2
        have hn1 : ¬ B1 = q1 := by omega
        go_wp2_with fail
        refine Calls.mono (clear_ q1 _ a1 a2 _ (Fil.keep hF2.out (by repeat (first | (with_reducible exact Keep.refl _ _) | (with_reducible refine Keep.drew ?_) | (with_reducible refine Keep.grow ?_ _) | (with_reducible refine Keep.alloc ?_ _) | (with_reducible assumption) | ((with_reducible refine Keep.turn ?_ ?_ _); rotate_left; (first | omega | (with_reducible assumption) | (simp only [World.size_alloc, grow_size, turn_size, World.size_setCell] at *; omega))) | ((with_reducible refine Keep.setCell ?_ ?_ _); rotate_left; (first | omega | (with_reducible assumption) | (simp only [World.size_alloc, grow_size, turn_size, World.size_setCell] at *; omega))))))) ?_
        rintro e w3 ⟨⟨_, rfl⟩, hF3, hO⟩
        have hC1 := Caps.only hC1 hO hn1
        have hx3 : Ext w w3 := Ext.only hx2 hO (by rintro i rfl; omega)
        have hs3 := hO.size
        have hF3 := hid hF3
        clear hO hF2 hy2 hx2
        go_wp2_with fail
        refine Calls.mono (all_ q1 _ _ (Fil.keep hF3.out (by repeat (first | (with_reducible exact Keep.refl _ _) | (with_reducible refine Keep.drew ?_) | (with_reducible refine Keep.grow ?_ _) | (with_reducible refine Keep.alloc ?_ _) | (with_reducible assumption) | ((with_reducible refine Keep.turn ?_ ?_ _); rotate_left; (first | omega | (with_reducible assumption) | (simp only [World.size_alloc, grow_size, turn_size, World.size_setCell] at *; omega))) | ((with_reducible refine Keep.setCell ?_ ?_ _); rotate_left; (first | omega | (with_reducible assumption) | (simp only [World.size_alloc, grow_size, turn_size, World.size_setCell] at *; omega))))))) ?_
        rintro e w4 ⟨B2, rfl, hB2, hy4, hC2⟩
        have hC1 := hid (Caps.ext hC1 hy4)
        have hC2 := hid hC2
        have hx4 := hx3.trans hy4
        clear hF3 hy4 hx3 hx hF1
        go_wp2
        obtain ⟨wo, rfl⟩ : ∃ wo : World, wo = wr := ⟨_, rfl⟩
        go_loopw [12] (fun i wr => ∃ (k : Nat), k ≤ 8 ∧ i = .int .i64 k ∧ Hid (Caps wr B1 0 8 L) ∧ Hid (Caps wr B2 0 8 (clrL L a1 a2)) ∧ Ext w wr) (fun i _ => 8 - (intOf i).toNat)
        case atStart => exact ⟨0, Nat.zero_le _, rfl, hC1, hC2, (by repeat (first | (with_reducible exact Ext.refl _) | (with_reducible refine Ext.undrew ?_) | (with_reducible refine Ext.grow ?_ _) | (with_reducible refine Ext.drew ?_) | (with_reducible refine Ext.alloc ?_ _) | (with_reducible assumption) | ((with_reducible refine Ext.turn ?_ ?_ _); rotate_left; (first | omega | (with_reducible assumption) | (simp only [World.size_alloc, grow_size, turn_size, World.size_setCell] at *; omega))) | ((with_reducible refine Ext.setCell ?_ ?_ _); rotate_left; ((try dsimp only); (first | omega | (with_reducible assumption) | (simp only [World.size_alloc, grow_size, turn_size, World.size_setCell] at *; omega))))))⟩
        case round =>
          obtain ⟨k, hk, rfl, hC1, hC2, hx⟩ := hrel
          clear hx4
          by_cases hlt : k < 8
          · have r1 := hC1.out k hlt
            have r2 := hC2.out k hlt
            rw [Nat.zero_add] at r1 r2
            have hk0 : (0 : Int) ≤ (k : Int) := by omega
            have hk1 : (k : Int) < 8 := by omega
            by_cases hc1 : a1 ≤ (k : Int)
            · by_cases hc2 : (k : Int) < a2
              · rw [show clrL L a1 a2 k = ⟨false, 0, 0, 0, 0, 0⟩ by unfold clrL; rw [if_pos ⟨hc1, hc2⟩]; rfl] at r2
                obtain ⟨g1, c0, c1, c2, c3, c4, c5⟩ := r1.six
                obtain ⟨g2, d0, d1, d2, d3, d4, d5⟩ := r2.six
                have t1 : decide (a1 ≤ (k : Int)) = true := by simp; omega
                have t2 : decide ((k : Int) < a1) = false := by simp; omega
                have t3 : decide ((k : Int) < a2) = true := by simp; omega
                have t4 : decide (a2 ≤ (k : Int)) = false := by simp; omega
                clear r1 r2
                go_wp2
                refine wp_region_grow (by kernel_rfl) (by kernel_rfl) (by first | (simp only [List.append]; rfl) | rfl) ?_; (repeat (go_big_quiet_step (fail))); refine wpQuiet_nil ?_; intro wq hq; obtain ⟨d, rfl⟩ := hq
                go_wp2
                go_roundw
                case rel => exact ⟨k + 1, by omega, by go_num, hid (hC1.out.ext (by repeat (first | (with_reducible exact Ext.refl _) | (with_reducible refine Ext.undrew ?_) | (with_reducible refine Ext.grow ?_ _) | (with_reducible refine Ext.drew ?_) | (with_reducible refine Ext.alloc ?_ _) | (with_reducible assumption) | ((with_reducible refine Ext.turn ?_ ?_ _); rotate_left; (first | omega | (with_reducible assumption) | (simp only [World.size_alloc, grow_size, turn_size, World.size_setCell] at *; omega))) | ((with_reducible refine Ext.setCell ?_ ?_ _); rotate_left; ((try dsimp only); (first | omega | (with_reducible assumption) | (simp only [World.size_alloc, grow_size, turn_size, World.size_setCell] at *; omega))))))), hid (hC2.out.ext (by repeat (first | (with_reducible exact Ext.refl _) | (with_reducible refine Ext.undrew ?_) | (with_reducible refine Ext.grow ?_ _) | (with_reducible refine Ext.drew ?_) | (with_reducible refine Ext.alloc ?_ _) | (with_reducible assumption) | ((with_reducible refine Ext.turn ?_ ?_ _); rotate_left; (first | omega | (with_reducible assumption) | (simp only [World.size_alloc, grow_size, turn_size, World.size_setCell] at *; omega))) | ((with_reducible refine Ext.setCell ?_ ?_ _); rotate_left; ((try dsimp only); (first | omega | (with_reducible assumption) | (simp only [World.size_alloc, grow_size, turn_size, World.size_setCell] at *; omega))))))), (by repeat (first | (with_reducible exact Ext.refl _) | (with_reducible refine Ext.undrew ?_) | (with_reducible refine Ext.grow ?_ _) | (with_reducible refine Ext.drew ?_) | (with_reducible refine Ext.alloc ?_ _) | (with_reducible assumption) | ((with_reducible refine Ext.turn ?_ ?_ _); rotate_left; (first | omega | (with_reducible assumption) | (simp only [World.size_alloc, grow_size, turn_size, World.size_setCell] at *; omega))) | ((with_reducible refine Ext.setCell ?_ ?_ _); rotate_left; ((try dsimp only); (first | omega | (with_reducible assumption) | (simp only [World.size_alloc, grow_size, turn_size, World.size_setCell] at *; omega))))))⟩
                case measure => simp [intOf]; omega
              · rw [show clrL L a1 a2 k = L k by unfold clrL; rw [if_neg (by omega)]] at r2
                obtain ⟨g1, c0, c1, c2, c3, c4, c5⟩ := r1.six
                obtain ⟨g2, d0, d1, d2, d3, d4, d5⟩ := r2.six
                have t1 : decide (a1 ≤ (k : Int)) = true := by simp; omega
                have t2 : decide ((k : Int) < a1) = false := by simp; omega
                have t3 : decide ((k : Int) < a2) = false := by simp; omega
                have t4 : decide (a2 ≤ (k : Int)) = true := by simp; omega
                clear r1 r2
                go_wp2
                refine wp_region_grow (by kernel_rfl) (by kernel_rfl) (by first | (simp only [List.append]; rfl) | rfl) ?_; (repeat (go_big_quiet_step (fail))); refine wpQuiet_nil ?_; intro wq hq; obtain ⟨d, rfl⟩ := hq
                go_wp2
                go_roundw
                case rel => exact ⟨k + 1, by omega, by go_num, hid (hC1.out.ext (by repeat (first | (with_reducible exact Ext.refl _) | (with_reducible refine Ext.undrew ?_) | (with_reducible refine Ext.grow ?_ _) | (with_reducible refine Ext.drew ?_) | (with_reducible refine Ext.alloc ?_ _) | (with_reducible assumption) | ((with_reducible refine Ext.turn ?_ ?_ _); rotate_left; (first | omega | (with_reducible assumption) | (simp only [World.size_alloc, grow_size, turn_size, World.size_setCell] at *; omega))) | ((with_reducible refine Ext.setCell ?_ ?_ _); rotate_left; ((try dsimp only); (first | omega | (with_reducible assumption) | (simp only [World.size_alloc, grow_size, turn_size, World.size_setCell] at *; omega))))))), hid (hC2.out.ext (by repeat (first | (with_reducible exact Ext.refl _) | (with_reducible refine Ext.undrew ?_) | (with_reducible refine Ext.grow ?_ _) | (with_reducible refine Ext.drew ?_) | (with_reducible refine Ext.alloc ?_ _) | (with_reducible assumption) | ((with_reducible refine Ext.turn ?_ ?_ _); rotate_left; (first | omega | (with_reducible assumption) | (simp only [World.size_alloc, grow_size, turn_size, World.size_setCell] at *; omega))) | ((with_reducible refine Ext.setCell ?_ ?_ _); rotate_left; ((try dsimp only); (first | omega | (with_reducible assumption) | (simp only [World.size_alloc, grow_size, turn_size, World.size_setCell] at *; omega))))))), (by repeat (first | (with_reducible exact Ext.refl _) | (with_reducible refine Ext.undrew ?_) | (with_reducible refine Ext.grow ?_ _) | (with_reducible refine Ext.drew ?_) | (with_reducible refine Ext.alloc ?_ _) | (with_reducible assumption) | ((with_reducible refine Ext.turn ?_ ?_ _); rotate_left; (first | omega | (with_reducible assumption) | (simp only [World.size_alloc, grow_size, turn_size, World.size_setCell] at *; omega))) | ((with_reducible refine Ext.setCell ?_ ?_ _); rotate_left; ((try dsimp only); (first | omega | (with_reducible assumption) | (simp only [World.size_alloc, grow_size, turn_size, World.size_setCell] at *; omega))))))⟩
                case measure => simp [intOf]; omega
            · rw [show clrL L a1 a2 k = L k by unfold clrL; rw [if_neg (by omega)]] at r2
              obtain ⟨g1, c0, c1, c2, c3, c4, c5⟩ := r1.six
              obtain ⟨g2, d0, d1, d2, d3, d4, d5⟩ := r2.six
              have t1 : decide (a1 ≤ (k : Int)) = false := by simp; omega
              have t2 : decide ((k : Int) < a1) = true := by simp; omega
              clear r1 r2
              go_wp2
              refine wp_region_grow (by kernel_rfl) (by kernel_rfl) (by first | (simp only [List.append]; rfl) | rfl) ?_; (repeat (go_big_quiet_step (fail))); refine wpQuiet_nil ?_; intro wq hq; obtain ⟨d, rfl⟩ := hq
              go_wp2
              go_roundw
              case rel => exact ⟨k + 1, by omega, by go_num, hid (hC1.out.ext (by repeat (first | (with_reducible exact Ext.refl _) | (with_reducible refine Ext.undrew ?_) | (with_reducible refine Ext.grow ?_ _) | (with_reducible refine Ext.drew ?_) | (with_reducible refine Ext.alloc ?_ _) | (with_reducible assumption) | ((with_reducible refine Ext.turn ?_ ?_ _); rotate_left; (first | omega | (with_reducible assumption) | (simp only [World.size_alloc, grow_size, turn_size, World.size_setCell] at *; omega))) | ((with_reducible refine Ext.setCell ?_ ?_ _); rotate_left; ((try dsimp only); (first | omega | (with_reducible assumption) | (simp only [World.size_alloc, grow_size, turn_size, World.size_setCell] at *; omega))))))), hid (hC2.out.ext (by repeat (first | (with_reducible exact Ext.refl _) | (with_reducible refine Ext.undrew ?_) | (with_reducible refine Ext.grow ?_ _) | (with_reducible refine Ext.drew ?_) | (with_reducible refine Ext.alloc ?_ _) | (with_reducible assumption) | ((with_reducible refine Ext.turn ?_ ?_ _); rotate_left; (first | omega | (with_reducible assumption) | (simp only [World.size_alloc, grow_size, turn_size, World.size_setCell] at *; omega))) | ((with_reducible refine Ext.setCell ?_ ?_ _); rotate_left; ((try dsimp only); (first | omega | (with_reducible assumption) | (simp only [World.size_alloc, grow_size, turn_size, World.size_setCell] at *; omega))))))), (by repeat (first | (with_reducible exact Ext.refl _) | (with_reducible refine Ext.undrew ?_) | (with_reducible refine Ext.grow ?_ _) | (with_reducible refine Ext.drew ?_) | (with_reducible refine Ext.alloc ?_ _) | (with_reducible assumption) | ((with_reducible refine Ext.turn ?_ ?_ _); rotate_left; (first | omega | (with_reducible assumption) | (simp only [World.size_alloc, grow_size, turn_size, World.size_setCell] at *; omega))) | ((with_reducible refine Ext.setCell ?_ ?_ _); rotate_left; ((try dsimp only); (first | omega | (with_reducible assumption) | (simp only [World.size_alloc, grow_size, turn_size, World.size_setCell] at *; omega))))))⟩
              case measure => simp [intOf]; omega
          · go_wp2
            go_ret
            exact ⟨rfl, (by repeat (first | (with_reducible exact Ext.refl _) | (with_reducible refine Ext.undrew ?_) | (with_reducible refine Ext.grow ?_ _) | (with_reducible refine Ext.drew ?_) | (with_reducible refine Ext.alloc ?_ _) | (with_reducible assumption) | ((with_reducible refine Ext.turn ?_ ?_ _); rotate_left; (first | omega | (with_reducible assumption) | (simp only [World.size_alloc, grow_size, turn_size, World.size_setCell] at *; omega))) | ((with_reducible refine Ext.setCell ?_ ?_ _); rotate_left; ((try dsimp only); (first | omega | (with_reducible assumption) | (simp only [World.size_alloc, grow_size, turn_size, World.size_setCell] at *; omega))))))⟩
  · clear hs0 wz0
    go_enter Try.func6, Try.ntmps6
    go_wp2_with (first | (go_at_call 7; refine Calls.mono (head _) ?_; rintro e wh ⟨rfl, hxh⟩; obtain ⟨dh, rfl⟩ := hxh.grown; clear hxh) | (go_at_call 8; refine Calls.mono (new_ _) ?_; rintro e w1 ⟨q1, rfl, hq1, hx1, hF1⟩))
    all_goals go_ret
    all_goals exact ⟨rfl, Ext.trans (Ext.grow (Ext.refl w) _) hx1⟩
end regsClear

end Go.Proofs.Ytjepkdfiihgheaa
