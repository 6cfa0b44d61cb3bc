/- The walk of the law EpochWhole. -/
import Derived.Test.YtgckgljffooodaaHead09
namespace Go.Proofs.Ytgckgljffooodaa
set_option linter.unusedSimpArgs false
set_option linter.unusedVariables false
open Go.RowKit

namespace epochWhole
set_option maxRecDepth 100000 in
set_option maxHeartbeats 8000000 in
theorem walk (A0 : Option Addr) (cap0 : Nat) (zs0 : List Bool) (a1 : Int) (w : World) (wl0 : zs0.length ≤ maxLen) (hs0 : SlAt w A0 (zs0.map Value.bool)) (w1 : (Lit.int .u16 a1).wf = true) :
    Calls Try.prog 4 #[.slice A0 zs0.length cap0, .int .u16 a1] w fun e w' => e = .returned (.bool true) ∧ Ext w w' := by
  obtain ⟨a1l, a1h⟩ := wfu16 w1
  have HS := hid hs0
  clear hs0 w1
  unfold maxLen at wl0
  by_cases hlen : zs0.length ≤ 2000
  · go_enter Try.func4, Try.ntmps4
    go_wp2_with (first | (go_at_call 8; refine (head _).mono ?_; rintro e wh ⟨rfl, hxh⟩) | (go_at_call 9; refine (new _).mono ?_; rintro e w1 ⟨b1, rfl, hx1, hb1, hk1⟩))
    have hx1 := hxh.trans hx1
    have hw1 : w.heap.size ≤ b1 := Nat.le_trans hxh.size hb1
    clear hxh
    go_loopw [7, 8, 9, 10] (fun at_ bg ov i wr => ∃ (k : Nat) (t a : Int) (g v : Bool), at_ = .int .i64 a ∧ bg = .bool g ∧ ov = .bool v ∧ i = .int .i64 k ∧ Hid (g = decide (0 ≤ a ∧ a + a % 2 < t)) ∧ Hid (v = decide (0 ≤ a ∧ a + a % 2 + 2 ≤ t)) ∧ (a = -1 ∧ (k : Int) ≤ a1 ∨ 0 ≤ a ∧ a ≤ t ∧ a1 < k) ∧ 0 ≤ t ∧ t ≤ k ∧ k ≤ zs0.length ∧ Hid (Clk wr b1 t) ∧ Ext w wr) (fun _ _ _ i _ => zs0.length + 1 - (intOf i).toNat)
    case atStart => exact ⟨0, 0, -1, false, false, rfl, rfl, rfl, rfl, hid (decide_eq_false (by omega)).symm, hid (decide_eq_false (by omega)).symm, .inl ⟨rfl, by omega⟩, by omega, by omega, by omega, hid hk1, hx1⟩
    case round =>
      obtain ⟨k, t, a, g, v, rfl, rfl, rfl, rfl, hg, hv, hA, ht0, htk, hkl, hc1, hx⟩ := hrel
      clear hk1 hx1
      obtain ⟨c1b, c1c, c1f⟩ := hc1.out
      rcases hA with ⟨ha, hka⟩ | ⟨ha0, hat, hka⟩
      · subst ha
        obtain rfl : g = false := by rw [hg.out]; exact decide_eq_false (by omega)
        obtain rfl : v = false := by rw [hv.out]; exact decide_eq_false (by omega)
        clear hg hv
        by_cases hk1 : (k : Int) = a1
        · have hke1 : ((k : Int) == a1) = true := by simp [hk1]
          have hwt : decide (whenT t ≤ t) = false := by
            unfold whenT
            rw [clampT_of (by omega) (by omega)]
            simp
            omega
          have HK := hid hk1
          have hka' : a1 ≤ k := by omega
          clear hk1
          by_cases hend : k < zs0.length
          · obtain ⟨b, o, rfl, hb, hcell0⟩ := HS.out (by rw [List.length_map]; omega)
            have hcell : wr.cell? ⟨b, o + k, none⟩ = some (.bool zs0[k]) := by
              rw [hx.cells b _ hb, hcell0 k (by rw [List.length_map]; omega), List.getElem_map]
            clear hcell0
            have hn1 : ¬ b1 = b := by omega
            have hbw : b < wr.heap.size := Nat.lt_of_lt_of_le hb hx.size
            cases hz : zs0[k] <;> rw [hz] at hcell <;> cases ho : oddB t
            · have e1 := endT_even ho
              have hod := oddB_no ho
              first
              | (exfalso; omega)
              | skip
                go_wp2_with (first | (go_at_call 15; refine (now b1 t _ (Clk.mk (by (try simp only [World.size_alloc, grow_size, World.size_setCell] at *); omega) (by simp [go_sem, *] <;> omega) (by simp [go_sem, *] <;> omega)) (by omega) (by omega)).mono ?_; rintro e w1 ⟨rfl, rfl⟩) | (go_at_call 19; refine (over b1 t _ _ (Clk.mk (by (try simp only [World.size_alloc, grow_size, World.size_setCell] at *); omega) (by simp [go_sem, *] <;> omega) (by simp [go_sem, *] <;> omega)) (by omega) (by omega) (by omega) (by omega)).mono ?_; rintro e w1 ⟨rfl, hy⟩; obtain ⟨d, rfl⟩ := hy.grown; clear hy) | (go_at_call 13; refine (end_ b1 t _ (Clk.mk (by (try simp only [World.size_alloc, grow_size, World.size_setCell] at *); omega) (by simp [go_sem, *] <;> omega) (by simp [go_sem, *] <;> omega)) (by omega) (by omega)).mono ?_; rintro e w1 ⟨rfl, d, rfl⟩))
                go_roundw
                case rel => exact ⟨k + 1, t, t, false, false, rfl, rfl, rfl, by go_num, hid (decide_eq_false (by omega)).symm, hid (decide_eq_false (by omega)).symm, by omega, by omega, by omega, by omega, hid (Clk.mk (by (try simp only [World.size_alloc, grow_size, World.size_setCell] at *); omega) (by simp [go_sem, *] <;> omega) (by simp [go_sem, *] <;> omega)), (by repeat (first | (with_reducible exact Ext.refl _) | (with_reducible refine Ext.undrew ?_) | (with_reducible refine Ext.grow ?_ _) | (with_reducible refine Ext.drew ?_) | (with_reducible refine Ext.drewN ?_ _) | (with_reducible refine Ext.alloc ?_ _) | (with_reducible assumption) | ((with_reducible refine Ext.setCell ?_ ?_ _); rotate_left; (first | exact Nat.le_refl _ | ((try dsimp only); (try simp only [World.size_alloc, grow_size, World.size_setCell]); omega)))))⟩
                case measure => simp [intOf]; omega
            · have e1 := endT_odd ho
              have hod := (oddB_iff t).1 ho
              first
              | (exfalso; omega)
              | skip
                go_wp2_with (first | (go_at_call 15; refine (now b1 t _ (Clk.mk (by (try simp only [World.size_alloc, grow_size, World.size_setCell] at *); omega) (by simp [go_sem, *] <;> omega) (by simp [go_sem, *] <;> omega)) (by omega) (by omega)).mono ?_; rintro e w1 ⟨rfl, rfl⟩) | (go_at_call 19; refine (over b1 t _ _ (Clk.mk (by (try simp only [World.size_alloc, grow_size, World.size_setCell] at *); omega) (by simp [go_sem, *] <;> omega) (by simp [go_sem, *] <;> omega)) (by omega) (by omega) (by omega) (by omega)).mono ?_; rintro e w1 ⟨rfl, hy⟩; obtain ⟨d, rfl⟩ := hy.grown; clear hy) | (go_at_call 13; refine (end_ b1 t _ (Clk.mk (by (try simp only [World.size_alloc, grow_size, World.size_setCell] at *); omega) (by simp [go_sem, *] <;> omega) (by simp [go_sem, *] <;> omega)) (by omega) (by omega)).mono ?_; rintro e w1 ⟨rfl, d, rfl⟩))
                go_roundw
                case rel => exact ⟨k + 1, (t + 1), t, false, false, rfl, rfl, rfl, by go_num, hid (decide_eq_false (by omega)).symm, hid (decide_eq_false (by omega)).symm, by omega, by omega, by omega, by omega, hid (Clk.mk (by (try simp only [World.size_alloc, grow_size, World.size_setCell] at *); omega) (by simp [go_sem, *] <;> omega) (by simp [go_sem, *] <;> omega)), (by repeat (first | (with_reducible exact Ext.refl _) | (with_reducible refine Ext.undrew ?_) | (with_reducible refine Ext.grow ?_ _) | (with_reducible refine Ext.drew ?_) | (with_reducible refine Ext.drewN ?_ _) | (with_reducible refine Ext.alloc ?_ _) | (with_reducible assumption) | ((with_reducible refine Ext.setCell ?_ ?_ _); rotate_left; (first | exact Nat.le_refl _ | ((try dsimp only); (try simp only [World.size_alloc, grow_size, World.size_setCell]); omega)))))⟩
                case measure => simp [intOf]; omega
            · have e1 := beginT_even ho
              have hod := oddB_no ho
              first
              | (exfalso; omega)
              | skip
                go_wp2_with (first | (go_at_call 15; refine (now b1 t _ (Clk.mk (by (try simp only [World.size_alloc, grow_size, World.size_setCell] at *); omega) (by simp [go_sem, *] <;> omega) (by simp [go_sem, *] <;> omega)) (by omega) (by omega)).mono ?_; rintro e w1 ⟨rfl, rfl⟩) | (go_at_call 19; refine (over b1 t _ _ (Clk.mk (by (try simp only [World.size_alloc, grow_size, World.size_setCell] at *); omega) (by simp [go_sem, *] <;> omega) (by simp [go_sem, *] <;> omega)) (by omega) (by omega) (by omega) (by omega)).mono ?_; rintro e w1 ⟨rfl, hy⟩; obtain ⟨d, rfl⟩ := hy.grown; clear hy) | (go_at_call 11; refine (begin_ b1 t _ (Clk.mk (by (try simp only [World.size_alloc, grow_size, World.size_setCell] at *); omega) (by simp [go_sem, *] <;> omega) (by simp [go_sem, *] <;> omega)) (by omega) (by omega)).mono ?_; rintro e w1 ⟨rfl, d, rfl⟩))
                go_roundw
                case rel => exact ⟨k + 1, (t + 1), t, true, false, rfl, rfl, rfl, by go_num, hid (decide_eq_true (by omega)).symm, hid (decide_eq_false (by omega)).symm, by omega, by omega, by omega, by omega, hid (Clk.mk (by (try simp only [World.size_alloc, grow_size, World.size_setCell] at *); omega) (by simp [go_sem, *] <;> omega) (by simp [go_sem, *] <;> omega)), (by repeat (first | (with_reducible exact Ext.refl _) | (with_reducible refine Ext.undrew ?_) | (with_reducible refine Ext.grow ?_ _) | (with_reducible refine Ext.drew ?_) | (with_reducible refine Ext.drewN ?_ _) | (with_reducible refine Ext.alloc ?_ _) | (with_reducible assumption) | ((with_reducible refine Ext.setCell ?_ ?_ _); rotate_left; (first | exact Nat.le_refl _ | ((try dsimp only); (try simp only [World.size_alloc, grow_size, World.size_setCell]); omega)))))⟩
                case measure => simp [intOf]; omega
            · have e1 := beginT_odd ho
              have hod := (oddB_iff t).1 ho
              first
              | (exfalso; omega)
              | skip
                go_wp2_with (first | (go_at_call 15; refine (now b1 t _ (Clk.mk (by (try simp only [World.size_alloc, grow_size, World.size_setCell] at *); omega) (by simp [go_sem, *] <;> omega) (by simp [go_sem, *] <;> omega)) (by omega) (by omega)).mono ?_; rintro e w1 ⟨rfl, rfl⟩) | (go_at_call 19; refine (over b1 t _ _ (Clk.mk (by (try simp only [World.size_alloc, grow_size, World.size_setCell] at *); omega) (by simp [go_sem, *] <;> omega) (by simp [go_sem, *] <;> omega)) (by omega) (by omega) (by omega) (by omega)).mono ?_; rintro e w1 ⟨rfl, hy⟩; obtain ⟨d, rfl⟩ := hy.grown; clear hy) | (go_at_call 11; refine (begin_ b1 t _ (Clk.mk (by (try simp only [World.size_alloc, grow_size, World.size_setCell] at *); omega) (by simp [go_sem, *] <;> omega) (by simp [go_sem, *] <;> omega)) (by omega) (by omega)).mono ?_; rintro e w1 ⟨rfl, d, rfl⟩))
                go_roundw
                case rel => exact ⟨k + 1, t, t, false, false, rfl, rfl, rfl, by go_num, hid (decide_eq_false (by omega)).symm, hid (decide_eq_false (by omega)).symm, by omega, by omega, by omega, by omega, hid (Clk.mk (by (try simp only [World.size_alloc, grow_size, World.size_setCell] at *); omega) (by simp [go_sem, *] <;> omega) (by simp [go_sem, *] <;> omega)), (by repeat (first | (with_reducible exact Ext.refl _) | (with_reducible refine Ext.undrew ?_) | (with_reducible refine Ext.grow ?_ _) | (with_reducible refine Ext.drew ?_) | (with_reducible refine Ext.drewN ?_ _) | (with_reducible refine Ext.alloc ?_ _) | (with_reducible assumption) | ((with_reducible refine Ext.setCell ?_ ?_ _); rotate_left; (first | exact Nat.le_refl _ | ((try dsimp only); (try simp only [World.size_alloc, grow_size, World.size_setCell]); omega)))))⟩
                case measure => simp [intOf]; omega
          · have hke : ((k : Int) == (zs0.length : Int)) = true := by simp; omega
            go_wp2_with (first | (go_at_call 15; refine (now b1 t _ (Clk.mk (by (try simp only [World.size_alloc, grow_size, World.size_setCell] at *); omega) (by simp [go_sem, *] <;> omega) (by simp [go_sem, *] <;> omega)) (by omega) (by omega)).mono ?_; rintro e w1 ⟨rfl, rfl⟩) | (go_at_call 19; refine (over b1 t _ _ (Clk.mk (by (try simp only [World.size_alloc, grow_size, World.size_setCell] at *); omega) (by simp [go_sem, *] <;> omega) (by simp [go_sem, *] <;> omega)) (by omega) (by omega) (by omega) (by omega)).mono ?_; rintro e w1 ⟨rfl, hy⟩; obtain ⟨d, rfl⟩ := hy.grown; clear hy))
            go_ret
            exact ⟨rfl, (by repeat (first | (with_reducible exact Ext.refl _) | (with_reducible refine Ext.undrew ?_) | (with_reducible refine Ext.grow ?_ _) | (with_reducible refine Ext.drew ?_) | (with_reducible refine Ext.drewN ?_ _) | (with_reducible refine Ext.alloc ?_ _) | (with_reducible assumption) | ((with_reducible refine Ext.setCell ?_ ?_ _); rotate_left; (first | exact Nat.le_refl _ | ((try dsimp only); (try simp only [World.size_alloc, grow_size, World.size_setCell]); omega)))))⟩
        · have hke1 : ((k : Int) == a1) = false := by simpa using hk1
          have hka' : (k : Int) < a1 := by omega
          clear hk1
          by_cases hend : k < zs0.length
          · obtain ⟨b, o, rfl, hb, hcell0⟩ := HS.out (by rw [List.length_map]; omega)
            have hcell : wr.cell? ⟨b, o + k, none⟩ = some (.bool zs0[k]) := by
              rw [hx.cells b _ hb, hcell0 k (by rw [List.length_map]; omega), List.getElem_map]
            clear hcell0
            have hn1 : ¬ b1 = b := by omega
            have hbw : b < wr.heap.size := Nat.lt_of_lt_of_le hb hx.size
            cases hz : zs0[k] <;> rw [hz] at hcell <;> cases ho : oddB t
            · have e1 := endT_even ho
              have hod := oddB_no ho
              first
              | (exfalso; omega)
              | skip
                go_wp2_with (first | (go_at_call 15; refine (now b1 t _ (Clk.mk (by (try simp only [World.size_alloc, grow_size, World.size_setCell] at *); omega) (by simp [go_sem, *] <;> omega) (by simp [go_sem, *] <;> omega)) (by omega) (by omega)).mono ?_; rintro e w1 ⟨rfl, rfl⟩) | (go_at_call 19; refine (over b1 t _ _ (Clk.mk (by (try simp only [World.size_alloc, grow_size, World.size_setCell] at *); omega) (by simp [go_sem, *] <;> omega) (by simp [go_sem, *] <;> omega)) (by omega) (by omega) (by omega) (by omega)).mono ?_; rintro e w1 ⟨rfl, hy⟩; obtain ⟨d, rfl⟩ := hy.grown; clear hy) | (go_at_call 13; refine (end_ b1 t _ (Clk.mk (by (try simp only [World.size_alloc, grow_size, World.size_setCell] at *); omega) (by simp [go_sem, *] <;> omega) (by simp [go_sem, *] <;> omega)) (by omega) (by omega)).mono ?_; rintro e w1 ⟨rfl, d, rfl⟩))
                go_roundw
                case rel => exact ⟨k + 1, t, (-1), false, false, rfl, rfl, rfl, by go_num, hid (decide_eq_false (by omega)).symm, hid (decide_eq_false (by omega)).symm, by omega, by omega, by omega, by omega, hid (Clk.mk (by (try simp only [World.size_alloc, grow_size, World.size_setCell] at *); omega) (by simp [go_sem, *] <;> omega) (by simp [go_sem, *] <;> omega)), (by repeat (first | (with_reducible exact Ext.refl _) | (with_reducible refine Ext.undrew ?_) | (with_reducible refine Ext.grow ?_ _) | (with_reducible refine Ext.drew ?_) | (with_reducible refine Ext.drewN ?_ _) | (with_reducible refine Ext.alloc ?_ _) | (with_reducible assumption) | ((with_reducible refine Ext.setCell ?_ ?_ _); rotate_left; (first | exact Nat.le_refl _ | ((try dsimp only); (try simp only [World.size_alloc, grow_size, World.size_setCell]); omega)))))⟩
                case measure => simp [intOf]; omega
            · have e1 := endT_odd ho
              have hod := (oddB_iff t).1 ho
              first
              | (exfalso; omega)
              | skip
                go_wp2_with (first | (go_at_call 15; refine (now b1 t _ (Clk.mk (by (try simp only [World.size_alloc, grow_size, World.size_setCell] at *); omega) (by simp [go_sem, *] <;> omega) (by simp [go_sem, *] <;> omega)) (by omega) (by omega)).mono ?_; rintro e w1 ⟨rfl, rfl⟩) | (go_at_call 19; refine (over b1 t _ _ (Clk.mk (by (try simp only [World.size_alloc, grow_size, World.size_setCell] at *); omega) (by simp [go_sem, *] <;> omega) (by simp [go_sem, *] <;> omega)) (by omega) (by omega) (by omega) (by omega)).mono ?_; rintro e w1 ⟨rfl, hy⟩; obtain ⟨d, rfl⟩ := hy.grown; clear hy) | (go_at_call 13; refine (end_ b1 t _ (Clk.mk (by (try simp only [World.size_alloc, grow_size, World.size_setCell] at *); omega) (by simp [go_sem, *] <;> omega) (by simp [go_sem, *] <;> omega)) (by omega) (by omega)).mono ?_; rintro e w1 ⟨rfl, d, rfl⟩))
                go_roundw
                case rel => exact ⟨k + 1, (t + 1), (-1), false, false, rfl, rfl, rfl, by go_num, hid (decide_eq_false (by omega)).symm, hid (decide_eq_false (by omega)).symm, by omega, by omega, by omega, by omega, hid (Clk.mk (by (try simp only [World.size_alloc, grow_size, World.size_setCell] at *); omega) (by simp [go_sem, *] <;> omega) (by simp [go_sem, *] <;> omega)), (by repeat (first | (with_reducible exact Ext.refl _) | (with_reducible refine Ext.undrew ?_) | (with_reducible refine Ext.grow ?_ _) | (with_reducible refine Ext.drew ?_) | (with_reducible refine Ext.drewN ?_ _) | (with_reducible refine Ext.alloc ?_ _) | (with_reducible assumption) | ((with_reducible refine Ext.setCell ?_ ?_ _); rotate_left; (first | exact Nat.le_refl _ | ((try dsimp only); (try simp only [World.size_alloc, grow_size, World.size_setCell]); omega)))))⟩
                case measure => simp [intOf]; omega
            · have e1 := beginT_even ho
              have hod := oddB_no ho
              first
              | (exfalso; omega)
              | skip
                go_wp2_with (first | (go_at_call 15; refine (now b1 t _ (Clk.mk (by (try simp only [World.size_alloc, grow_size, World.size_setCell] at *); omega) (by simp [go_sem, *] <;> omega) (by simp [go_sem, *] <;> omega)) (by omega) (by omega)).mono ?_; rintro e w1 ⟨rfl, rfl⟩) | (go_at_call 19; refine (over b1 t _ _ (Clk.mk (by (try simp only [World.size_alloc, grow_size, World.size_setCell] at *); omega) (by simp [go_sem, *] <;> omega) (by simp [go_sem, *] <;> omega)) (by omega) (by omega) (by omega) (by omega)).mono ?_; rintro e w1 ⟨rfl, hy⟩; obtain ⟨d, rfl⟩ := hy.grown; clear hy) | (go_at_call 11; refine (begin_ b1 t _ (Clk.mk (by (try simp only [World.size_alloc, grow_size, World.size_setCell] at *); omega) (by simp [go_sem, *] <;> omega) (by simp [go_sem, *] <;> omega)) (by omega) (by omega)).mono ?_; rintro e w1 ⟨rfl, d, rfl⟩))
                go_roundw
                case rel => exact ⟨k + 1, (t + 1), (-1), false, false, rfl, rfl, rfl, by go_num, hid (decide_eq_false (by omega)).symm, hid (decide_eq_false (by omega)).symm, by omega, by omega, by omega, by omega, hid (Clk.mk (by (try simp only [World.size_alloc, grow_size, World.size_setCell] at *); omega) (by simp [go_sem, *] <;> omega) (by simp [go_sem, *] <;> omega)), (by repeat (first | (with_reducible exact Ext.refl _) | (with_reducible refine Ext.undrew ?_) | (with_reducible refine Ext.grow ?_ _) | (with_reducible refine Ext.drew ?_) | (with_reducible refine Ext.drewN ?_ _) | (with_reducible refine Ext.alloc ?_ _) | (with_reducible assumption) | ((with_reducible refine Ext.setCell ?_ ?_ _); rotate_left; (first | exact Nat.le_refl _ | ((try dsimp only); (try simp only [World.size_alloc, grow_size, World.size_setCell]); omega)))))⟩
                case measure => simp [intOf]; omega
            · have e1 := beginT_odd ho
              have hod := (oddB_iff t).1 ho
              first
              | (exfalso; omega)
              | skip
                go_wp2_with (first | (go_at_call 15; refine (now b1 t _ (Clk.mk (by (try simp only [World.size_alloc, grow_size, World.size_setCell] at *); omega) (by simp [go_sem, *] <;> omega) (by simp [go_sem, *] <;> omega)) (by omega) (by omega)).mono ?_; rintro e w1 ⟨rfl, rfl⟩) | (go_at_call 19; refine (over b1 t _ _ (Clk.mk (by (try simp only [World.size_alloc, grow_size, World.size_setCell] at *); omega) (by simp [go_sem, *] <;> omega) (by simp [go_sem, *] <;> omega)) (by omega) (by omega) (by omega) (by omega)).mono ?_; rintro e w1 ⟨rfl, hy⟩; obtain ⟨d, rfl⟩ := hy.grown; clear hy) | (go_at_call 11; refine (begin_ b1 t _ (Clk.mk (by (try simp only [World.size_alloc, grow_size, World.size_setCell] at *); omega) (by simp [go_sem, *] <;> omega) (by simp [go_sem, *] <;> omega)) (by omega) (by omega)).mono ?_; rintro e w1 ⟨rfl, d, rfl⟩))
                go_roundw
                case rel => exact ⟨k + 1, t, (-1), false, false, rfl, rfl, rfl, by go_num, hid (decide_eq_false (by omega)).symm, hid (decide_eq_false (by omega)).symm, by omega, by omega, by omega, by omega, hid (Clk.mk (by (try simp only [World.size_alloc, grow_size, World.size_setCell] at *); omega) (by simp [go_sem, *] <;> omega) (by simp [go_sem, *] <;> omega)), (by repeat (first | (with_reducible exact Ext.refl _) | (with_reducible refine Ext.undrew ?_) | (with_reducible refine Ext.grow ?_ _) | (with_reducible refine Ext.drew ?_) | (with_reducible refine Ext.drewN ?_ _) | (with_reducible refine Ext.alloc ?_ _) | (with_reducible assumption) | ((with_reducible refine Ext.setCell ?_ ?_ _); rotate_left; (first | exact Nat.le_refl _ | ((try dsimp only); (try simp only [World.size_alloc, grow_size, World.size_setCell]); omega)))))⟩
                case measure => simp [intOf]; omega
          · have hke : ((k : Int) == (zs0.length : Int)) = true := by simp; omega
            go_wp2_with (first | (go_at_call 15; refine (now b1 t _ (Clk.mk (by (try simp only [World.size_alloc, grow_size, World.size_setCell] at *); omega) (by simp [go_sem, *] <;> omega) (by simp [go_sem, *] <;> omega)) (by omega) (by omega)).mono ?_; rintro e w1 ⟨rfl, rfl⟩) | (go_at_call 19; refine (over b1 t _ _ (Clk.mk (by (try simp only [World.size_alloc, grow_size, World.size_setCell] at *); omega) (by simp [go_sem, *] <;> omega) (by simp [go_sem, *] <;> omega)) (by omega) (by omega) (by omega) (by omega)).mono ?_; rintro e w1 ⟨rfl, hy⟩; obtain ⟨d, rfl⟩ := hy.grown; clear hy))
            go_ret
            exact ⟨rfl, (by repeat (first | (with_reducible exact Ext.refl _) | (with_reducible refine Ext.undrew ?_) | (with_reducible refine Ext.grow ?_ _) | (with_reducible refine Ext.drew ?_) | (with_reducible refine Ext.drewN ?_ _) | (with_reducible refine Ext.alloc ?_ _) | (with_reducible assumption) | ((with_reducible refine Ext.setCell ?_ ?_ _); rotate_left; (first | exact Nat.le_refl _ | ((try dsimp only); (try simp only [World.size_alloc, grow_size, World.size_setCell]); omega)))))⟩
      · have hke1 : ((k : Int) == a1) = false := by simp; omega
        have hge : decide (0 ≤ a) = true := by simpa using ha0
        have hwa : whenT a = a + 2 + a % 2 := by unfold whenT; rw [clampT_of (by omega) (by omega)]
        cases g <;> cases v
        · have hg' := of_decide_eq_false hg.out.symm
          have hv' := of_decide_eq_false hv.out.symm
          have hwt : decide (whenT a ≤ t) = false := by rw [hwa]; simp; omega
          have HWA := hid hwa
          have HG := hid hg'
          have HV := hid hv'
          clear hg hv hwa
          by_cases hend : k < zs0.length
          · obtain ⟨b, o, rfl, hb, hcell0⟩ := HS.out (by rw [List.length_map]; omega)
            have hcell : wr.cell? ⟨b, o + k, none⟩ = some (.bool zs0[k]) := by
              rw [hx.cells b _ hb, hcell0 k (by rw [List.length_map]; omega), List.getElem_map]
            clear hcell0
            have hn1 : ¬ b1 = b := by omega
            have hbw : b < wr.heap.size := Nat.lt_of_lt_of_le hb hx.size
            cases hz : zs0[k] <;> rw [hz] at hcell <;> cases ho : oddB t
            · have e1 := endT_even ho
              have hod := oddB_no ho
              first
              | (exfalso; omega)
              | skip
                go_wp2_with (first | (go_at_call 15; refine (now b1 t _ (Clk.mk (by (try simp only [World.size_alloc, grow_size, World.size_setCell] at *); omega) (by simp [go_sem, *] <;> omega) (by simp [go_sem, *] <;> omega)) (by omega) (by omega)).mono ?_; rintro e w1 ⟨rfl, rfl⟩) | (go_at_call 19; refine (over b1 t _ _ (Clk.mk (by (try simp only [World.size_alloc, grow_size, World.size_setCell] at *); omega) (by simp [go_sem, *] <;> omega) (by simp [go_sem, *] <;> omega)) (by omega) (by omega) (by omega) (by omega)).mono ?_; rintro e w1 ⟨rfl, hy⟩; obtain ⟨d, rfl⟩ := hy.grown; clear hy) | (go_at_call 13; refine (end_ b1 t _ (Clk.mk (by (try simp only [World.size_alloc, grow_size, World.size_setCell] at *); omega) (by simp [go_sem, *] <;> omega) (by simp [go_sem, *] <;> omega)) (by omega) (by omega)).mono ?_; rintro e w1 ⟨rfl, d, rfl⟩))
                go_roundw
                case rel => exact ⟨k + 1, t, a, false, false, rfl, rfl, rfl, by go_num, hid (decide_eq_false (by omega)).symm, hid (decide_eq_false (by omega)).symm, by omega, by omega, by omega, by omega, hid (Clk.mk (by (try simp only [World.size_alloc, grow_size, World.size_setCell] at *); omega) (by simp [go_sem, *] <;> omega) (by simp [go_sem, *] <;> omega)), (by repeat (first | (with_reducible exact Ext.refl _) | (with_reducible refine Ext.undrew ?_) | (with_reducible refine Ext.grow ?_ _) | (with_reducible refine Ext.drew ?_) | (with_reducible refine Ext.drewN ?_ _) | (with_reducible refine Ext.alloc ?_ _) | (with_reducible assumption) | ((with_reducible refine Ext.setCell ?_ ?_ _); rotate_left; (first | exact Nat.le_refl _ | ((try dsimp only); (try simp only [World.size_alloc, grow_size, World.size_setCell]); omega)))))⟩
                case measure => simp [intOf]; omega
            · have e1 := endT_odd ho
              have hod := (oddB_iff t).1 ho
              first
              | (exfalso; omega)
              | skip
                go_wp2_with (first | (go_at_call 15; refine (now b1 t _ (Clk.mk (by (try simp only [World.size_alloc, grow_size, World.size_setCell] at *); omega) (by simp [go_sem, *] <;> omega) (by simp [go_sem, *] <;> omega)) (by omega) (by omega)).mono ?_; rintro e w1 ⟨rfl, rfl⟩) | (go_at_call 19; refine (over b1 t _ _ (Clk.mk (by (try simp only [World.size_alloc, grow_size, World.size_setCell] at *); omega) (by simp [go_sem, *] <;> omega) (by simp [go_sem, *] <;> omega)) (by omega) (by omega) (by omega) (by omega)).mono ?_; rintro e w1 ⟨rfl, hy⟩; obtain ⟨d, rfl⟩ := hy.grown; clear hy) | (go_at_call 13; refine (end_ b1 t _ (Clk.mk (by (try simp only [World.size_alloc, grow_size, World.size_setCell] at *); omega) (by simp [go_sem, *] <;> omega) (by simp [go_sem, *] <;> omega)) (by omega) (by omega)).mono ?_; rintro e w1 ⟨rfl, d, rfl⟩))
                go_roundw
                case rel => exact ⟨k + 1, (t + 1), a, false, false, rfl, rfl, rfl, by go_num, hid (decide_eq_false (by omega)).symm, hid (decide_eq_false (by omega)).symm, by omega, by omega, by omega, by omega, hid (Clk.mk (by (try simp only [World.size_alloc, grow_size, World.size_setCell] at *); omega) (by simp [go_sem, *] <;> omega) (by simp [go_sem, *] <;> omega)), (by repeat (first | (with_reducible exact Ext.refl _) | (with_reducible refine Ext.undrew ?_) | (with_reducible refine Ext.grow ?_ _) | (with_reducible refine Ext.drew ?_) | (with_reducible refine Ext.drewN ?_ _) | (with_reducible refine Ext.alloc ?_ _) | (with_reducible assumption) | ((with_reducible refine Ext.setCell ?_ ?_ _); rotate_left; (first | exact Nat.le_refl _ | ((try dsimp only); (try simp only [World.size_alloc, grow_size, World.size_setCell]); omega)))))⟩
                case measure => simp [intOf]; omega
            · have e1 := beginT_even ho
              have hod := oddB_no ho
              first
              | (exfalso; omega)
              | skip
                go_wp2_with (first | (go_at_call 15; refine (now b1 t _ (Clk.mk (by (try simp only [World.size_alloc, grow_size, World.size_setCell] at *); omega) (by simp [go_sem, *] <;> omega) (by simp [go_sem, *] <;> omega)) (by omega) (by omega)).mono ?_; rintro e w1 ⟨rfl, rfl⟩) | (go_at_call 19; refine (over b1 t _ _ (Clk.mk (by (try simp only [World.size_alloc, grow_size, World.size_setCell] at *); omega) (by simp [go_sem, *] <;> omega) (by simp [go_sem, *] <;> omega)) (by omega) (by omega) (by omega) (by omega)).mono ?_; rintro e w1 ⟨rfl, hy⟩; obtain ⟨d, rfl⟩ := hy.grown; clear hy) | (go_at_call 11; refine (begin_ b1 t _ (Clk.mk (by (try simp only [World.size_alloc, grow_size, World.size_setCell] at *); omega) (by simp [go_sem, *] <;> omega) (by simp [go_sem, *] <;> omega)) (by omega) (by omega)).mono ?_; rintro e w1 ⟨rfl, d, rfl⟩))
                go_roundw
                case rel => exact ⟨k + 1, (t + 1), a, true, false, rfl, rfl, rfl, by go_num, hid (decide_eq_true (by omega)).symm, hid (decide_eq_false (by omega)).symm, by omega, by omega, by omega, by omega, hid (Clk.mk (by (try simp only [World.size_alloc, grow_size, World.size_setCell] at *); omega) (by simp [go_sem, *] <;> omega) (by simp [go_sem, *] <;> omega)), (by repeat (first | (with_reducible exact Ext.refl _) | (with_reducible refine Ext.undrew ?_) | (with_reducible refine Ext.grow ?_ _) | (with_reducible refine Ext.drew ?_) | (with_reducible refine Ext.drewN ?_ _) | (with_reducible refine Ext.alloc ?_ _) | (with_reducible assumption) | ((with_reducible refine Ext.setCell ?_ ?_ _); rotate_left; (first | exact Nat.le_refl _ | ((try dsimp only); (try simp only [World.size_alloc, grow_size, World.size_setCell]); omega)))))⟩
                case measure => simp [intOf]; omega
            · have e1 := beginT_odd ho
              have hod := (oddB_iff t).1 ho
              first
              | (exfalso; omega)
              | skip
                go_wp2_with (first | (go_at_call 15; refine (now b1 t _ (Clk.mk (by (try simp only [World.size_alloc, grow_size, World.size_setCell] at *); omega) (by simp [go_sem, *] <;> omega) (by simp [go_sem, *] <;> omega)) (by omega) (by omega)).mono ?_; rintro e w1 ⟨rfl, rfl⟩) | (go_at_call 19; refine (over b1 t _ _ (Clk.mk (by (try simp only [World.size_alloc, grow_size, World.size_setCell] at *); omega) (by simp [go_sem, *] <;> omega) (by simp [go_sem, *] <;> omega)) (by omega) (by omega) (by omega) (by omega)).mono ?_; rintro e w1 ⟨rfl, hy⟩; obtain ⟨d, rfl⟩ := hy.grown; clear hy) | (go_at_call 11; refine (begin_ b1 t _ (Clk.mk (by (try simp only [World.size_alloc, grow_size, World.size_setCell] at *); omega) (by simp [go_sem, *] <;> omega) (by simp [go_sem, *] <;> omega)) (by omega) (by omega)).mono ?_; rintro e w1 ⟨rfl, d, rfl⟩))
                go_roundw
                case rel => exact ⟨k + 1, t, a, false, false, rfl, rfl, rfl, by go_num, hid (decide_eq_false (by omega)).symm, hid (decide_eq_false (by omega)).symm, by omega, by omega, by omega, by omega, hid (Clk.mk (by (try simp only [World.size_alloc, grow_size, World.size_setCell] at *); omega) (by simp [go_sem, *] <;> omega) (by simp [go_sem, *] <;> omega)), (by repeat (first | (with_reducible exact Ext.refl _) | (with_reducible refine Ext.undrew ?_) | (with_reducible refine Ext.grow ?_ _) | (with_reducible refine Ext.drew ?_) | (with_reducible refine Ext.drewN ?_ _) | (with_reducible refine Ext.alloc ?_ _) | (with_reducible assumption) | ((with_reducible refine Ext.setCell ?_ ?_ _); rotate_left; (first | exact Nat.le_refl _ | ((try dsimp only); (try simp only [World.size_alloc, grow_size, World.size_setCell]); omega)))))⟩
                case measure => simp [intOf]; omega
          · have hke : ((k : Int) == (zs0.length : Int)) = true := by simp; omega
            go_wp2_with (first | (go_at_call 15; refine (now b1 t _ (Clk.mk (by (try simp only [World.size_alloc, grow_size, World.size_setCell] at *); omega) (by simp [go_sem, *] <;> omega) (by simp [go_sem, *] <;> omega)) (by omega) (by omega)).mono ?_; rintro e w1 ⟨rfl, rfl⟩) | (go_at_call 19; refine (over b1 t _ _ (Clk.mk (by (try simp only [World.size_alloc, grow_size, World.size_setCell] at *); omega) (by simp [go_sem, *] <;> omega) (by simp [go_sem, *] <;> omega)) (by omega) (by omega) (by omega) (by omega)).mono ?_; rintro e w1 ⟨rfl, hy⟩; obtain ⟨d, rfl⟩ := hy.grown; clear hy))
            go_ret
            exact ⟨rfl, (by repeat (first | (with_reducible exact Ext.refl _) | (with_reducible refine Ext.undrew ?_) | (with_reducible refine Ext.grow ?_ _) | (with_reducible refine Ext.drew ?_) | (with_reducible refine Ext.drewN ?_ _) | (with_reducible refine Ext.alloc ?_ _) | (with_reducible assumption) | ((with_reducible refine Ext.setCell ?_ ?_ _); rotate_left; (first | exact Nat.le_refl _ | ((try dsimp only); (try simp only [World.size_alloc, grow_size, World.size_setCell]); omega)))))⟩
        · have hg' := of_decide_eq_false hg.out.symm
          have hv' := of_decide_eq_true hv.out.symm
          have hwt : decide (whenT a ≤ t) = true := by rw [hwa]; simp; omega
          have HWA := hid hwa
          have HG := hid hg'
          have HV := hid hv'
          clear hg hv hwa
          exfalso; omega
        · have hg' := of_decide_eq_true hg.out.symm
          have hv' := of_decide_eq_false hv.out.symm
          have hwt : decide (whenT a ≤ t) = false := by rw [hwa]; simp; omega
          have HWA := hid hwa
          have HG := hid hg'
          have HV := hid hv'
          clear hg hv hwa
          by_cases hend : k < zs0.length
          · obtain ⟨b, o, rfl, hb, hcell0⟩ := HS.out (by rw [List.length_map]; omega)
            have hcell : wr.cell? ⟨b, o + k, none⟩ = some (.bool zs0[k]) := by
              rw [hx.cells b _ hb, hcell0 k (by rw [List.length_map]; omega), List.getElem_map]
            clear hcell0
            have hn1 : ¬ b1 = b := by omega
            have hbw : b < wr.heap.size := Nat.lt_of_lt_of_le hb hx.size
            cases hz : zs0[k] <;> rw [hz] at hcell <;> cases ho : oddB t
            · have e1 := endT_even ho
              have hod := oddB_no ho
              first
              | (exfalso; omega)
              | skip
                go_wp2_with (first | (go_at_call 15; refine (now b1 t _ (Clk.mk (by (try simp only [World.size_alloc, grow_size, World.size_setCell] at *); omega) (by simp [go_sem, *] <;> omega) (by simp [go_sem, *] <;> omega)) (by omega) (by omega)).mono ?_; rintro e w1 ⟨rfl, rfl⟩) | (go_at_call 19; refine (over b1 t _ _ (Clk.mk (by (try simp only [World.size_alloc, grow_size, World.size_setCell] at *); omega) (by simp [go_sem, *] <;> omega) (by simp [go_sem, *] <;> omega)) (by omega) (by omega) (by omega) (by omega)).mono ?_; rintro e w1 ⟨rfl, hy⟩; obtain ⟨d, rfl⟩ := hy.grown; clear hy) | (go_at_call 13; refine (end_ b1 t _ (Clk.mk (by (try simp only [World.size_alloc, grow_size, World.size_setCell] at *); omega) (by simp [go_sem, *] <;> omega) (by simp [go_sem, *] <;> omega)) (by omega) (by omega)).mono ?_; rintro e w1 ⟨rfl, d, rfl⟩))
                go_roundw
                case rel => exact ⟨k + 1, t, a, true, false, rfl, rfl, rfl, by go_num, hid (decide_eq_true (by omega)).symm, hid (decide_eq_false (by omega)).symm, by omega, by omega, by omega, by omega, hid (Clk.mk (by (try simp only [World.size_alloc, grow_size, World.size_setCell] at *); omega) (by simp [go_sem, *] <;> omega) (by simp [go_sem, *] <;> omega)), (by repeat (first | (with_reducible exact Ext.refl _) | (with_reducible refine Ext.undrew ?_) | (with_reducible refine Ext.grow ?_ _) | (with_reducible refine Ext.drew ?_) | (with_reducible refine Ext.drewN ?_ _) | (with_reducible refine Ext.alloc ?_ _) | (with_reducible assumption) | ((with_reducible refine Ext.setCell ?_ ?_ _); rotate_left; (first | exact Nat.le_refl _ | ((try dsimp only); (try simp only [World.size_alloc, grow_size, World.size_setCell]); omega)))))⟩
                case measure => simp [intOf]; omega
            · have e1 := endT_odd ho
              have hod := (oddB_iff t).1 ho
              first
              | (exfalso; omega)
              | skip
                go_wp2_with (first | (go_at_call 15; refine (now b1 t _ (Clk.mk (by (try simp only [World.size_alloc, grow_size, World.size_setCell] at *); omega) (by simp [go_sem, *] <;> omega) (by simp [go_sem, *] <;> omega)) (by omega) (by omega)).mono ?_; rintro e w1 ⟨rfl, rfl⟩) | (go_at_call 19; refine (over b1 t _ _ (Clk.mk (by (try simp only [World.size_alloc, grow_size, World.size_setCell] at *); omega) (by simp [go_sem, *] <;> omega) (by simp [go_sem, *] <;> omega)) (by omega) (by omega) (by omega) (by omega)).mono ?_; rintro e w1 ⟨rfl, hy⟩; obtain ⟨d, rfl⟩ := hy.grown; clear hy) | (go_at_call 13; refine (end_ b1 t _ (Clk.mk (by (try simp only [World.size_alloc, grow_size, World.size_setCell] at *); omega) (by simp [go_sem, *] <;> omega) (by simp [go_sem, *] <;> omega)) (by omega) (by omega)).mono ?_; rintro e w1 ⟨rfl, d, rfl⟩))
                go_roundw
                case rel => exact ⟨k + 1, (t + 1), a, true, true, rfl, rfl, rfl, by go_num, hid (decide_eq_true (by omega)).symm, hid (decide_eq_true (by omega)).symm, by omega, by omega, by omega, by omega, hid (Clk.mk (by (try simp only [World.size_alloc, grow_size, World.size_setCell] at *); omega) (by simp [go_sem, *] <;> omega) (by simp [go_sem, *] <;> omega)), (by repeat (first | (with_reducible exact Ext.refl _) | (with_reducible refine Ext.undrew ?_) | (with_reducible refine Ext.grow ?_ _) | (with_reducible refine Ext.drew ?_) | (with_reducible refine Ext.drewN ?_ _) | (with_reducible refine Ext.alloc ?_ _) | (with_reducible assumption) | ((with_reducible refine Ext.setCell ?_ ?_ _); rotate_left; (first | exact Nat.le_refl _ | ((try dsimp only); (try simp only [World.size_alloc, grow_size, World.size_setCell]); omega)))))⟩
                case measure => simp [intOf]; omega
            · have e1 := beginT_even ho
              have hod := oddB_no ho
              first
              | (exfalso; omega)
              | skip
                go_wp2_with (first | (go_at_call 15; refine (now b1 t _ (Clk.mk (by (try simp only [World.size_alloc, grow_size, World.size_setCell] at *); omega) (by simp [go_sem, *] <;> omega) (by simp [go_sem, *] <;> omega)) (by omega) (by omega)).mono ?_; rintro e w1 ⟨rfl, rfl⟩) | (go_at_call 19; refine (over b1 t _ _ (Clk.mk (by (try simp only [World.size_alloc, grow_size, World.size_setCell] at *); omega) (by simp [go_sem, *] <;> omega) (by simp [go_sem, *] <;> omega)) (by omega) (by omega) (by omega) (by omega)).mono ?_; rintro e w1 ⟨rfl, hy⟩; obtain ⟨d, rfl⟩ := hy.grown; clear hy) | (go_at_call 11; refine (begin_ b1 t _ (Clk.mk (by (try simp only [World.size_alloc, grow_size, World.size_setCell] at *); omega) (by simp [go_sem, *] <;> omega) (by simp [go_sem, *] <;> omega)) (by omega) (by omega)).mono ?_; rintro e w1 ⟨rfl, d, rfl⟩))
                go_roundw
                case rel => exact ⟨k + 1, (t + 1), a, true, false, rfl, rfl, rfl, by go_num, hid (decide_eq_true (by omega)).symm, hid (decide_eq_false (by omega)).symm, by omega, by omega, by omega, by omega, hid (Clk.mk (by (try simp only [World.size_alloc, grow_size, World.size_setCell] at *); omega) (by simp [go_sem, *] <;> omega) (by simp [go_sem, *] <;> omega)), (by repeat (first | (with_reducible exact Ext.refl _) | (with_reducible refine Ext.undrew ?_) | (with_reducible refine Ext.grow ?_ _) | (with_reducible refine Ext.drew ?_) | (with_reducible refine Ext.drewN ?_ _) | (with_reducible refine Ext.alloc ?_ _) | (with_reducible assumption) | ((with_reducible refine Ext.setCell ?_ ?_ _); rotate_left; (first | exact Nat.le_refl _ | ((try dsimp only); (try simp only [World.size_alloc, grow_size, World.size_setCell]); omega)))))⟩
                case measure => simp [intOf]; omega
            · have e1 := beginT_odd ho
              have hod := (oddB_iff t).1 ho
              first
              | (exfalso; omega)
              | skip
                go_wp2_with (first | (go_at_call 15; refine (now b1 t _ (Clk.mk (by (try simp only [World.size_alloc, grow_size, World.size_setCell] at *); omega) (by simp [go_sem, *] <;> omega) (by simp [go_sem, *] <;> omega)) (by omega) (by omega)).mono ?_; rintro e w1 ⟨rfl, rfl⟩) | (go_at_call 19; refine (over b1 t _ _ (Clk.mk (by (try simp only [World.size_alloc, grow_size, World.size_setCell] at *); omega) (by simp [go_sem, *] <;> omega) (by simp [go_sem, *] <;> omega)) (by omega) (by omega) (by omega) (by omega)).mono ?_; rintro e w1 ⟨rfl, hy⟩; obtain ⟨d, rfl⟩ := hy.grown; clear hy) | (go_at_call 11; refine (begin_ b1 t _ (Clk.mk (by (try simp only [World.size_alloc, grow_size, World.size_setCell] at *); omega) (by simp [go_sem, *] <;> omega) (by simp [go_sem, *] <;> omega)) (by omega) (by omega)).mono ?_; rintro e w1 ⟨rfl, d, rfl⟩))
                go_roundw
                case rel => exact ⟨k + 1, t, a, true, false, rfl, rfl, rfl, by go_num, hid (decide_eq_true (by omega)).symm, hid (decide_eq_false (by omega)).symm, by omega, by omega, by omega, by omega, hid (Clk.mk (by (try simp only [World.size_alloc, grow_size, World.size_setCell] at *); omega) (by simp [go_sem, *] <;> omega) (by simp [go_sem, *] <;> omega)), (by repeat (first | (with_reducible exact Ext.refl _) | (with_reducible refine Ext.undrew ?_) | (with_reducible refine Ext.grow ?_ _) | (with_reducible refine Ext.drew ?_) | (with_reducible refine Ext.drewN ?_ _) | (with_reducible refine Ext.alloc ?_ _) | (with_reducible assumption) | ((with_reducible refine Ext.setCell ?_ ?_ _); rotate_left; (first | exact Nat.le_refl _ | ((try dsimp only); (try simp only [World.size_alloc, grow_size, World.size_setCell]); omega)))))⟩
                case measure => simp [intOf]; omega
          · have hke : ((k : Int) == (zs0.length : Int)) = true := by simp; omega
            go_wp2_with (first | (go_at_call 15; refine (now b1 t _ (Clk.mk (by (try simp only [World.size_alloc, grow_size, World.size_setCell] at *); omega) (by simp [go_sem, *] <;> omega) (by simp [go_sem, *] <;> omega)) (by omega) (by omega)).mono ?_; rintro e w1 ⟨rfl, rfl⟩) | (go_at_call 19; refine (over b1 t _ _ (Clk.mk (by (try simp only [World.size_alloc, grow_size, World.size_setCell] at *); omega) (by simp [go_sem, *] <;> omega) (by simp [go_sem, *] <;> omega)) (by omega) (by omega) (by omega) (by omega)).mono ?_; rintro e w1 ⟨rfl, hy⟩; obtain ⟨d, rfl⟩ := hy.grown; clear hy))
            go_ret
            exact ⟨rfl, (by repeat (first | (with_reducible exact Ext.refl _) | (with_reducible refine Ext.undrew ?_) | (with_reducible refine Ext.grow ?_ _) | (with_reducible refine Ext.drew ?_) | (with_reducible refine Ext.drewN ?_ _) | (with_reducible refine Ext.alloc ?_ _) | (with_reducible assumption) | ((with_reducible refine Ext.setCell ?_ ?_ _); rotate_left; (first | exact Nat.le_refl _ | ((try dsimp only); (try simp only [World.size_alloc, grow_size, World.size_setCell]); omega)))))⟩
        · have hg' := of_decide_eq_true hg.out.symm
          have hv' := of_decide_eq_true hv.out.symm
          have hwt : decide (whenT a ≤ t) = true := by rw [hwa]; simp; omega
          have HWA := hid hwa
          have HG := hid hg'
          have HV := hid hv'
          clear hg hv hwa
          by_cases hend : k < zs0.length
          · obtain ⟨b, o, rfl, hb, hcell0⟩ := HS.out (by rw [List.length_map]; omega)
            have hcell : wr.cell? ⟨b, o + k, none⟩ = some (.bool zs0[k]) := by
              rw [hx.cells b _ hb, hcell0 k (by rw [List.length_map]; omega), List.getElem_map]
            clear hcell0
            have hn1 : ¬ b1 = b := by omega
            have hbw : b < wr.heap.size := Nat.lt_of_lt_of_le hb hx.size
            cases hz : zs0[k] <;> rw [hz] at hcell <;> cases ho : oddB t
            · have e1 := endT_even ho
              have hod := oddB_no ho
              first
              | (exfalso; omega)
              | skip
                go_wp2_with (first | (go_at_call 15; refine (now b1 t _ (Clk.mk (by (try simp only [World.size_alloc, grow_size, World.size_setCell] at *); omega) (by simp [go_sem, *] <;> omega) (by simp [go_sem, *] <;> omega)) (by omega) (by omega)).mono ?_; rintro e w1 ⟨rfl, rfl⟩) | (go_at_call 19; refine (over b1 t _ _ (Clk.mk (by (try simp only [World.size_alloc, grow_size, World.size_setCell] at *); omega) (by simp [go_sem, *] <;> omega) (by simp [go_sem, *] <;> omega)) (by omega) (by omega) (by omega) (by omega)).mono ?_; rintro e w1 ⟨rfl, hy⟩; obtain ⟨d, rfl⟩ := hy.grown; clear hy) | (go_at_call 13; refine (end_ b1 t _ (Clk.mk (by (try simp only [World.size_alloc, grow_size, World.size_setCell] at *); omega) (by simp [go_sem, *] <;> omega) (by simp [go_sem, *] <;> omega)) (by omega) (by omega)).mono ?_; rintro e w1 ⟨rfl, d, rfl⟩))
                go_roundw
                case rel => exact ⟨k + 1, t, a, true, true, rfl, rfl, rfl, by go_num, hid (decide_eq_true (by omega)).symm, hid (decide_eq_true (by omega)).symm, by omega, by omega, by omega, by omega, hid (Clk.mk (by (try simp only [World.size_alloc, grow_size, World.size_setCell] at *); omega) (by simp [go_sem, *] <;> omega) (by simp [go_sem, *] <;> omega)), (by repeat (first | (with_reducible exact Ext.refl _) | (with_reducible refine Ext.undrew ?_) | (with_reducible refine Ext.grow ?_ _) | (with_reducible refine Ext.drew ?_) | (with_reducible refine Ext.drewN ?_ _) | (with_reducible refine Ext.alloc ?_ _) | (with_reducible assumption) | ((with_reducible refine Ext.setCell ?_ ?_ _); rotate_left; (first | exact Nat.le_refl _ | ((try dsimp only); (try simp only [World.size_alloc, grow_size, World.size_setCell]); omega)))))⟩
                case measure => simp [intOf]; omega
            · have e1 := endT_odd ho
              have hod := (oddB_iff t).1 ho
              first
              | (exfalso; omega)
              | skip
                go_wp2_with (first | (go_at_call 15; refine (now b1 t _ (Clk.mk (by (try simp only [World.size_alloc, grow_size, World.size_setCell] at *); omega) (by simp [go_sem, *] <;> omega) (by simp [go_sem, *] <;> omega)) (by omega) (by omega)).mono ?_; rintro e w1 ⟨rfl, rfl⟩) | (go_at_call 19; refine (over b1 t _ _ (Clk.mk (by (try simp only [World.size_alloc, grow_size, World.size_setCell] at *); omega) (by simp [go_sem, *] <;> omega) (by simp [go_sem, *] <;> omega)) (by omega) (by omega) (by omega) (by omega)).mono ?_; rintro e w1 ⟨rfl, hy⟩; obtain ⟨d, rfl⟩ := hy.grown; clear hy) | (go_at_call 13; refine (end_ b1 t _ (Clk.mk (by (try simp only [World.size_alloc, grow_size, World.size_setCell] at *); omega) (by simp [go_sem, *] <;> omega) (by simp [go_sem, *] <;> omega)) (by omega) (by omega)).mono ?_; rintro e w1 ⟨rfl, d, rfl⟩))
                go_roundw
                case rel => exact ⟨k + 1, (t + 1), a, true, true, rfl, rfl, rfl, by go_num, hid (decide_eq_true (by omega)).symm, hid (decide_eq_true (by omega)).symm, by omega, by omega, by omega, by omega, hid (Clk.mk (by (try simp only [World.size_alloc, grow_size, World.size_setCell] at *); omega) (by simp [go_sem, *] <;> omega) (by simp [go_sem, *] <;> omega)), (by repeat (first | (with_reducible exact Ext.refl _) | (with_reducible refine Ext.undrew ?_) | (with_reducible refine Ext.grow ?_ _) | (with_reducible refine Ext.drew ?_) | (with_reducible refine Ext.drewN ?_ _) | (with_reducible refine Ext.alloc ?_ _) | (with_reducible assumption) | ((with_reducible refine Ext.setCell ?_ ?_ _); rotate_left; (first | exact Nat.le_refl _ | ((try dsimp only); (try simp only [World.size_alloc, grow_size, World.size_setCell]); omega)))))⟩
                case measure => simp [intOf]; omega
            · have e1 := beginT_even ho
              have hod := oddB_no ho
              first
              | (exfalso; omega)
              | skip
                go_wp2_with (first | (go_at_call 15; refine (now b1 t _ (Clk.mk (by (try simp only [World.size_alloc, grow_size, World.size_setCell] at *); omega) (by simp [go_sem, *] <;> omega) (by simp [go_sem, *] <;> omega)) (by omega) (by omega)).mono ?_; rintro e w1 ⟨rfl, rfl⟩) | (go_at_call 19; refine (over b1 t _ _ (Clk.mk (by (try simp only [World.size_alloc, grow_size, World.size_setCell] at *); omega) (by simp [go_sem, *] <;> omega) (by simp [go_sem, *] <;> omega)) (by omega) (by omega) (by omega) (by omega)).mono ?_; rintro e w1 ⟨rfl, hy⟩; obtain ⟨d, rfl⟩ := hy.grown; clear hy) | (go_at_call 11; refine (begin_ b1 t _ (Clk.mk (by (try simp only [World.size_alloc, grow_size, World.size_setCell] at *); omega) (by simp [go_sem, *] <;> omega) (by simp [go_sem, *] <;> omega)) (by omega) (by omega)).mono ?_; rintro e w1 ⟨rfl, d, rfl⟩))
                go_roundw
                case rel => exact ⟨k + 1, (t + 1), a, true, true, rfl, rfl, rfl, by go_num, hid (decide_eq_true (by omega)).symm, hid (decide_eq_true (by omega)).symm, by omega, by omega, by omega, by omega, hid (Clk.mk (by (try simp only [World.size_alloc, grow_size, World.size_setCell] at *); omega) (by simp [go_sem, *] <;> omega) (by simp [go_sem, *] <;> omega)), (by repeat (first | (with_reducible exact Ext.refl _) | (with_reducible refine Ext.undrew ?_) | (with_reducible refine Ext.grow ?_ _) | (with_reducible refine Ext.drew ?_) | (with_reducible refine Ext.drewN ?_ _) | (with_reducible refine Ext.alloc ?_ _) | (with_reducible assumption) | ((with_reducible refine Ext.setCell ?_ ?_ _); rotate_left; (first | exact Nat.le_refl _ | ((try dsimp only); (try simp only [World.size_alloc, grow_size, World.size_setCell]); omega)))))⟩
                case measure => simp [intOf]; omega
            · have e1 := beginT_odd ho
              have hod := (oddB_iff t).1 ho
              first
              | (exfalso; omega)
              | skip
                go_wp2_with (first | (go_at_call 15; refine (now b1 t _ (Clk.mk (by (try simp only [World.size_alloc, grow_size, World.size_setCell] at *); omega) (by simp [go_sem, *] <;> omega) (by simp [go_sem, *] <;> omega)) (by omega) (by omega)).mono ?_; rintro e w1 ⟨rfl, rfl⟩) | (go_at_call 19; refine (over b1 t _ _ (Clk.mk (by (try simp only [World.size_alloc, grow_size, World.size_setCell] at *); omega) (by simp [go_sem, *] <;> omega) (by simp [go_sem, *] <;> omega)) (by omega) (by omega) (by omega) (by omega)).mono ?_; rintro e w1 ⟨rfl, hy⟩; obtain ⟨d, rfl⟩ := hy.grown; clear hy) | (go_at_call 11; refine (begin_ b1 t _ (Clk.mk (by (try simp only [World.size_alloc, grow_size, World.size_setCell] at *); omega) (by simp [go_sem, *] <;> omega) (by simp [go_sem, *] <;> omega)) (by omega) (by omega)).mono ?_; rintro e w1 ⟨rfl, d, rfl⟩))
                go_roundw
                case rel => exact ⟨k + 1, t, a, true, true, rfl, rfl, rfl, by go_num, hid (decide_eq_true (by omega)).symm, hid (decide_eq_true (by omega)).symm, by omega, by omega, by omega, by omega, hid (Clk.mk (by (try simp only [World.size_alloc, grow_size, World.size_setCell] at *); omega) (by simp [go_sem, *] <;> omega) (by simp [go_sem, *] <;> omega)), (by repeat (first | (with_reducible exact Ext.refl _) | (with_reducible refine Ext.undrew ?_) | (with_reducible refine Ext.grow ?_ _) | (with_reducible refine Ext.drew ?_) | (with_reducible refine Ext.drewN ?_ _) | (with_reducible refine Ext.alloc ?_ _) | (with_reducible assumption) | ((with_reducible refine Ext.setCell ?_ ?_ _); rotate_left; (first | exact Nat.le_refl _ | ((try dsimp only); (try simp only [World.size_alloc, grow_size, World.size_setCell]); omega)))))⟩
                case measure => simp [intOf]; omega
          · have hke : ((k : Int) == (zs0.length : Int)) = true := by simp; omega
            go_wp2_with (first | (go_at_call 15; refine (now b1 t _ (Clk.mk (by (try simp only [World.size_alloc, grow_size, World.size_setCell] at *); omega) (by simp [go_sem, *] <;> omega) (by simp [go_sem, *] <;> omega)) (by omega) (by omega)).mono ?_; rintro e w1 ⟨rfl, rfl⟩) | (go_at_call 19; refine (over b1 t _ _ (Clk.mk (by (try simp only [World.size_alloc, grow_size, World.size_setCell] at *); omega) (by simp [go_sem, *] <;> omega) (by simp [go_sem, *] <;> omega)) (by omega) (by omega) (by omega) (by omega)).mono ?_; rintro e w1 ⟨rfl, hy⟩; obtain ⟨d, rfl⟩ := hy.grown; clear hy))
            go_ret
            exact ⟨rfl, (by repeat (first | (with_reducible exact Ext.refl _) | (with_reducible refine Ext.undrew ?_) | (with_reducible refine Ext.grow ?_ _) | (with_reducible refine Ext.drew ?_) | (with_reducible refine Ext.drewN ?_ _) | (with_reducible refine Ext.alloc ?_ _) | (with_reducible assumption) | ((with_reducible refine Ext.setCell ?_ ?_ _); rotate_left; (first | exact Nat.le_refl _ | ((try dsimp only); (try simp only [World.size_alloc, grow_size, World.size_setCell]); omega)))))⟩
  · go_enter Try.func4, Try.ntmps4
    go_wp2_with (first | (go_at_call 8; refine (head _).mono ?_; rintro e wh ⟨rfl, hxh⟩) | (go_at_call 9; refine (new _).mono ?_; rintro e w1 ⟨b1, rfl, hx1, hb1, hk1⟩))
    have hx1 := hxh.trans hx1
    go_ret
    exact ⟨rfl, (by repeat (first | (with_reducible exact Ext.refl _) | (with_reducible refine Ext.undrew ?_) | (with_reducible refine Ext.grow ?_ _) | (with_reducible refine Ext.drew ?_) | (with_reducible refine Ext.drewN ?_ _) | (with_reducible refine Ext.alloc ?_ _) | (with_reducible assumption) | ((with_reducible refine Ext.setCell ?_ ?_ _); rotate_left; (first | exact Nat.le_refl _ | ((try dsimp only); (try simp only [World.size_alloc, grow_size, World.size_setCell]); omega)))))⟩
end epochWhole

end Go.Proofs.Ytgckgljffooodaa
