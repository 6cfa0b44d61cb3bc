/- The walk of the law EpochTurns. -/
import Derived.Test.YtgckgljffooodaaHead09
namespace Go.Proofs.Ytgckgljffooodaa
set_option linter.unusedSimpArgs false
set_option linter.unusedVariables false
open Go.RowKit

namespace epochTurns
set_option maxRecDepth 100000 in
set_option maxHeartbeats 8000000 in
theorem walk (A0 : Option Addr) (cap0 : Nat) (zs0 : List Bool) (w : World) (wl0 : zs0.length ≤ maxLen) (hs0 : SlAt w A0 (zs0.map Value.bool)) :
    Calls Try.prog 5 #[.slice A0 zs0.length cap0] w fun e w' => e = .returned (.bool true) ∧ Ext w w' := by
  have HS := hid hs0
  clear hs0
  unfold maxLen at wl0
  by_cases hlen : zs0.length ≤ 2000
  · go_enter Try.func5, Try.ntmps5
    go_wp2_with (first | (go_at_call 8; refine (head _).mono ?_; rintro e wh ⟨rfl, hxh⟩) | (go_at_call 9; refine (new _).mono ?_; rintro e w1 ⟨b1, rfl, hx1, hb1, hk1⟩))
    have hx1 := hxh.trans hx1
    have hw1 : w.heap.size ≤ b1 := Nat.le_trans hxh.size hb1
    clear hxh
    go_loopw [5, 6, 7] (fun r m i wr => ∃ (k : Nat) (t : Int), k ≤ zs0.length ∧ i = .int .i64 k ∧ m = .int .i64 t ∧ r = .bool (oddB t) ∧ 0 ≤ t ∧ t ≤ k ∧ Hid (Clk wr b1 t) ∧ Ext w wr) (fun _ _ i _ => zs0.length - (intOf i).toNat)
    case atStart => exact ⟨0, 0, Nat.zero_le _, rfl, rfl, rfl, by omega, by omega, hid hk1, hx1⟩
    case round =>
      obtain ⟨k, t, hk, rfl, rfl, rfl, ht0, htk, hc1, hx⟩ := hrel
      clear hk1 hx1
      obtain ⟨c1b, c1c, c1f⟩ := hc1.out
      by_cases hlt : k < zs0.length
      · obtain ⟨b, o, rfl, hb, hcell0⟩ := HS.out (by rw [List.length_map]; omega)
        have hcell : wr.cell? ⟨b, o + k, none⟩ = some (.bool zs0[k]) := by
          rw [hx.cells b _ hb, hcell0 k (by rw [List.length_map]; omega), List.getElem_map]
        clear hcell0
        have hn1 : ¬ b1 = b := by omega
        have hbw : b < wr.heap.size := Nat.lt_of_lt_of_le hb hx.size
        cases hz : zs0[k] <;> rw [hz] at hcell <;> cases ho : oddB t
        · have e1 := endT_even ho
          go_wp2_with (first | (go_at_call 13; refine (end_ b1 t _ (Clk.mk (by (try simp only [World.size_alloc, grow_size, World.size_setCell] at *); omega) (by simp [go_sem, *] <;> omega) (by simp [go_sem, *] <;> omega)) (by omega) (by omega)).mono ?_; rintro e w1 ⟨rfl, d, rfl⟩) | (go_at_call 15; refine (now b1 (endT t) _ (Clk.mk (by (try simp only [World.size_alloc, grow_size, World.size_setCell] at *); omega) (by simp [go_sem, *] <;> omega) (by simp [go_sem, *] <;> omega)) (by omega) (by omega)).mono ?_; rintro e w1 ⟨rfl, rfl⟩) | (go_at_call 17; refine (runs b1 (endT t) _ (Clk.mk (by (try simp only [World.size_alloc, grow_size, World.size_setCell] at *); omega) (by simp [go_sem, *] <;> omega) (by simp [go_sem, *] <;> omega)) (by omega) (by omega)).mono ?_; rintro e w1 ⟨rfl, rfl⟩))
          go_roundw
          case rel => exact ⟨k + 1, t, by omega, by go_num, rfl, by rw [ho], by omega, by omega, hid (Clk.mk (by (try simp only [World.size_alloc, grow_size, World.size_setCell] at *); omega) (by simp [go_sem, *] <;> omega) (by simp [go_sem, *] <;> omega)), (by repeat (first | (with_reducible exact Ext.refl _) | (with_reducible refine Ext.undrew ?_) | (with_reducible refine Ext.grow ?_ _) | (with_reducible refine Ext.drew ?_) | (with_reducible refine Ext.drewN ?_ _) | (with_reducible refine Ext.alloc ?_ _) | (with_reducible assumption) | ((with_reducible refine Ext.setCell ?_ ?_ _); rotate_left; (first | exact Nat.le_refl _ | ((try dsimp only); (try simp only [World.size_alloc, grow_size, World.size_setCell]); omega)))))⟩
          case measure => simp [intOf]; omega
        · have e1 := endT_odd ho
          have ho2 : oddB (t + 1) = false := by simp [oddB] at ho ⊢; omega
          go_wp2_with (first | (go_at_call 13; refine (end_ b1 t _ (Clk.mk (by (try simp only [World.size_alloc, grow_size, World.size_setCell] at *); omega) (by simp [go_sem, *] <;> omega) (by simp [go_sem, *] <;> omega)) (by omega) (by omega)).mono ?_; rintro e w1 ⟨rfl, d, rfl⟩) | (go_at_call 15; refine (now b1 (endT t) _ (Clk.mk (by (try simp only [World.size_alloc, grow_size, World.size_setCell] at *); omega) (by simp [go_sem, *] <;> omega) (by simp [go_sem, *] <;> omega)) (by omega) (by omega)).mono ?_; rintro e w1 ⟨rfl, rfl⟩) | (go_at_call 15; refine (now b1 (t + 1) _ (Clk.mk (by (try simp only [World.size_alloc, grow_size, World.size_setCell] at *); omega) (by simp [go_sem, *] <;> omega) (by simp [go_sem, *] <;> omega)) (by omega) (by omega)).mono ?_; rintro e w1 ⟨rfl, rfl⟩) | (go_at_call 17; refine (runs b1 (t + 1) _ (Clk.mk (by (try simp only [World.size_alloc, grow_size, World.size_setCell] at *); omega) (by simp [go_sem, *] <;> omega) (by simp [go_sem, *] <;> omega)) (by omega) (by omega)).mono ?_; rintro e w1 ⟨rfl, rfl⟩))
          go_roundw
          case rel => exact ⟨k + 1, t + 1, by omega, by go_num, rfl, by rw [ho2], by omega, by omega, hid (Clk.mk (by (try simp only [World.size_alloc, grow_size, World.size_setCell] at *); omega) (by simp [go_sem, *] <;> omega) (by simp [go_sem, *] <;> omega)), (by repeat (first | (with_reducible exact Ext.refl _) | (with_reducible refine Ext.undrew ?_) | (with_reducible refine Ext.grow ?_ _) | (with_reducible refine Ext.drew ?_) | (with_reducible refine Ext.drewN ?_ _) | (with_reducible refine Ext.alloc ?_ _) | (with_reducible assumption) | ((with_reducible refine Ext.setCell ?_ ?_ _); rotate_left; (first | exact Nat.le_refl _ | ((try dsimp only); (try simp only [World.size_alloc, grow_size, World.size_setCell]); omega)))))⟩
          case measure => simp [intOf]; omega
        · have e1 := beginT_even ho
          have ho2 : oddB (t + 1) = true := by simp [oddB] at ho ⊢; omega
          go_wp2_with (first | (go_at_call 11; refine (begin_ b1 t _ (Clk.mk (by (try simp only [World.size_alloc, grow_size, World.size_setCell] at *); omega) (by simp [go_sem, *] <;> omega) (by simp [go_sem, *] <;> omega)) (by omega) (by omega)).mono ?_; rintro e w1 ⟨rfl, d, rfl⟩) | (go_at_call 15; refine (now b1 (t + 1) _ (Clk.mk (by (try simp only [World.size_alloc, grow_size, World.size_setCell] at *); omega) (by simp [go_sem, *] <;> omega) (by simp [go_sem, *] <;> omega)) (by omega) (by omega)).mono ?_; rintro e w1 ⟨rfl, rfl⟩) | (go_at_call 17; refine (runs b1 (t + 1) _ (Clk.mk (by (try simp only [World.size_alloc, grow_size, World.size_setCell] at *); omega) (by simp [go_sem, *] <;> omega) (by simp [go_sem, *] <;> omega)) (by omega) (by omega)).mono ?_; rintro e w1 ⟨rfl, rfl⟩))
          go_roundw
          case rel => exact ⟨k + 1, t + 1, by omega, by go_num, rfl, by rw [ho2], by omega, by omega, hid (Clk.mk (by (try simp only [World.size_alloc, grow_size, World.size_setCell] at *); omega) (by simp [go_sem, *] <;> omega) (by simp [go_sem, *] <;> omega)), (by repeat (first | (with_reducible exact Ext.refl _) | (with_reducible refine Ext.undrew ?_) | (with_reducible refine Ext.grow ?_ _) | (with_reducible refine Ext.drew ?_) | (with_reducible refine Ext.drewN ?_ _) | (with_reducible refine Ext.alloc ?_ _) | (with_reducible assumption) | ((with_reducible refine Ext.setCell ?_ ?_ _); rotate_left; (first | exact Nat.le_refl _ | ((try dsimp only); (try simp only [World.size_alloc, grow_size, World.size_setCell]); omega)))))⟩
          case measure => simp [intOf]; omega
        · have e1 := beginT_odd ho
          go_wp2_with (first | (go_at_call 11; refine (begin_ b1 t _ (Clk.mk (by (try simp only [World.size_alloc, grow_size, World.size_setCell] at *); omega) (by simp [go_sem, *] <;> omega) (by simp [go_sem, *] <;> omega)) (by omega) (by omega)).mono ?_; rintro e w1 ⟨rfl, d, rfl⟩) | (go_at_call 15; refine (now b1 t _ (Clk.mk (by (try simp only [World.size_alloc, grow_size, World.size_setCell] at *); omega) (by simp [go_sem, *] <;> omega) (by simp [go_sem, *] <;> omega)) (by omega) (by omega)).mono ?_; rintro e w1 ⟨rfl, rfl⟩) | (go_at_call 17; refine (runs b1 t _ (Clk.mk (by (try simp only [World.size_alloc, grow_size, World.size_setCell] at *); omega) (by simp [go_sem, *] <;> omega) (by simp [go_sem, *] <;> omega)) (by omega) (by omega)).mono ?_; rintro e w1 ⟨rfl, rfl⟩))
          go_roundw
          case rel => exact ⟨k + 1, t, by omega, by go_num, rfl, by rw [ho], by omega, by omega, hid (Clk.mk (by (try simp only [World.size_alloc, grow_size, World.size_setCell] at *); omega) (by simp [go_sem, *] <;> omega) (by simp [go_sem, *] <;> omega)), (by repeat (first | (with_reducible exact Ext.refl _) | (with_reducible refine Ext.undrew ?_) | (with_reducible refine Ext.grow ?_ _) | (with_reducible refine Ext.drew ?_) | (with_reducible refine Ext.drewN ?_ _) | (with_reducible refine Ext.alloc ?_ _) | (with_reducible assumption) | ((with_reducible refine Ext.setCell ?_ ?_ _); rotate_left; (first | exact Nat.le_refl _ | ((try dsimp only); (try simp only [World.size_alloc, grow_size, World.size_setCell]); omega)))))⟩
          case measure => simp [intOf]; omega
      · go_wp2
        go_ret
        exact ⟨rfl, (by repeat (first | (with_reducible exact Ext.refl _) | (with_reducible refine Ext.undrew ?_) | (with_reducible refine Ext.grow ?_ _) | (with_reducible refine Ext.drew ?_) | (with_reducible refine Ext.drewN ?_ _) | (with_reducible refine Ext.alloc ?_ _) | (with_reducible assumption) | ((with_reducible refine Ext.setCell ?_ ?_ _); rotate_left; (first | exact Nat.le_refl _ | ((try dsimp only); (try simp only [World.size_alloc, grow_size, World.size_setCell]); omega)))))⟩
  · go_enter Try.func5, Try.ntmps5
    go_wp2_with (first | (go_at_call 8; refine (head _).mono ?_; rintro e wh ⟨rfl, hxh⟩) | (go_at_call 9; refine (new _).mono ?_; rintro e w1 ⟨b1, rfl, hx1, hb1, hk1⟩))
    have hx1 := hxh.trans hx1
    go_ret
    exact ⟨rfl, (by repeat (first | (with_reducible exact Ext.refl _) | (with_reducible refine Ext.undrew ?_) | (with_reducible refine Ext.grow ?_ _) | (with_reducible refine Ext.drew ?_) | (with_reducible refine Ext.drewN ?_ _) | (with_reducible refine Ext.alloc ?_ _) | (with_reducible assumption) | ((with_reducible refine Ext.setCell ?_ ?_ _); rotate_left; (first | exact Nat.le_refl _ | ((try dsimp only); (try simp only [World.size_alloc, grow_size, World.size_setCell]); omega)))))⟩
end epochTurns

end Go.Proofs.Ytgckgljffooodaa
