/- The walk of the law EpochPlays. -/
import Derived.Test.YtgckgljffooodaaHead09
namespace Go.Proofs.Ytgckgljffooodaa
set_option linter.unusedSimpArgs false
set_option linter.unusedVariables false
open Go.RowKit

namespace epochPlays
set_option maxRecDepth 100000 in
set_option maxHeartbeats 8000000 in
theorem walk (A0 : Option Addr) (cap0 : Nat) (zs0 : List Bool) (a1 : Int) (w : World) (wl0 : zs0.length ≤ maxLen) (hs0 : SlAt w A0 (zs0.map Value.bool)) (w1 : (Lit.int .i64 a1).wf = true) :
    Calls Try.prog 3 #[.slice A0 zs0.length cap0, .int .i64 a1] w fun e w' => e = .returned (.bool true) ∧ Ext w w' := by
  obtain ⟨a1l, a1h⟩ := wf64 w1
  have HS := hid hs0
  clear hs0 w1
  unfold maxLen at wl0
  by_cases hlen : zs0.length ≤ 2000
  · go_enter Try.func3, Try.ntmps3
    go_wp2_with (first | (go_at_call 8; refine (head _).mono ?_; rintro e wh ⟨rfl, hxh⟩) | (go_at_call 9; refine (new _).mono ?_; rintro e w1 ⟨b1, rfl, hx1, hb1, hk1⟩) | (go_at_call 10; refine (rnew _).mono ?_; rintro e w2 ⟨b2, rfl, hx2, hb2, hk2⟩))
    have hn : b1 < b2 := Nat.lt_of_lt_of_le hk1.1 hb2
    have hk1' := hk1.ext hx2
    have hx12 := hxh.trans (hx1.trans hx2)
    have hw1 : w.heap.size ≤ b1 := Nat.le_trans hxh.size hb1
    have hw2 : w.heap.size ≤ b2 := by omega
    clear hx1 hx2 hk1 hxh
    go_loopw [8] (fun i wr => ∃ (k : Nat) (t : Int), k ≤ zs0.length ∧ i = .int .i64 k ∧ 0 ≤ t ∧ t ≤ k ∧ Hid (Clk wr b1 t) ∧ Hid (Clk wr b2 t) ∧ Ext w wr) (fun i _ => zs0.length - (intOf i).toNat)
    case atStart => exact ⟨0, 0, Nat.zero_le _, rfl, by omega, by omega, hid hk1', hid hk2, hx12⟩
    case round =>
      obtain ⟨k, t, hk, rfl, ht0, htk, hc1, hc2, hx⟩ := hrel
      clear hk1' hk2 hx12
      obtain ⟨c1b, c1c, c1f⟩ := hc1.out
      obtain ⟨c2b, c2c, c2f⟩ := hc2.out
      have hn1 : ¬ b1 = b2 := by omega
      have hn2 : ¬ b2 = b1 := by omega
      have hbt := beginT_bd ht0
      have het := endT_bd ht0
      by_cases hlt : k < zs0.length
      · obtain ⟨b, o, rfl, hb, hcell0⟩ := HS.out (by rw [List.length_map]; omega)
        have hcell : wr.cell? ⟨b, o + k, none⟩ = some (.bool zs0[k]) := by
          rw [hx.cells b _ hb, hcell0 k (by rw [List.length_map]; omega), List.getElem_map]
        clear hcell0
        cases hz : zs0[k]
        · rw [hz] at hcell
          go_wp2_with (first | (go_at_call 13; refine (end_ b1 t _ (Clk.mk (by (try simp only [World.size_alloc, grow_size, World.size_setCell] at *); omega) (by simp [go_sem, *] <;> omega) (by simp [go_sem, *] <;> omega)) (by omega) (by omega)).mono ?_; rintro e w1 ⟨rfl, d, rfl⟩) | (go_at_call 14; refine (rend b2 t _ (Clk.mk (by (try simp only [World.size_alloc, grow_size, World.size_setCell] at *); omega) (by simp [go_sem, *] <;> omega) (by simp [go_sem, *] <;> omega)) (by omega) (by omega)).mono ?_; rintro e w1 ⟨rfl, d, rfl⟩) | (go_at_call 15; refine (now b1 (endT t) _ (Clk.mk (by (try simp only [World.size_alloc, grow_size, World.size_setCell] at *); omega) (by simp [go_sem, *] <;> omega) (by simp [go_sem, *] <;> omega)) (by omega) (by omega)).mono ?_; rintro e w1 ⟨rfl, rfl⟩) | (go_at_call 16; refine (rnow b2 (endT t) _ (Clk.mk (by (try simp only [World.size_alloc, grow_size, World.size_setCell] at *); omega) (by simp [go_sem, *] <;> omega) (by simp [go_sem, *] <;> omega)) (by omega) (by omega)).mono ?_; rintro e w1 ⟨rfl, rfl⟩) | (go_at_call 17; refine (runs b1 (endT t) _ (Clk.mk (by (try simp only [World.size_alloc, grow_size, World.size_setCell] at *); omega) (by simp [go_sem, *] <;> omega) (by simp [go_sem, *] <;> omega)) (by omega) (by omega)).mono ?_; rintro e w1 ⟨rfl, rfl⟩) | (go_at_call 18; refine (rruns b2 (endT t) _ (Clk.mk (by (try simp only [World.size_alloc, grow_size, World.size_setCell] at *); omega) (by simp [go_sem, *] <;> omega) (by simp [go_sem, *] <;> omega)) (by omega) (by omega)).mono ?_; rintro e w1 ⟨rfl, rfl⟩) | (go_at_call 19; refine (over b1 (endT t) _ _ (Clk.mk (by (try simp only [World.size_alloc, grow_size, World.size_setCell] at *); omega) (by simp [go_sem, *] <;> omega) (by simp [go_sem, *] <;> omega)) (by omega) (by omega) (by omega) (by omega)).mono ?_; rintro e w1 ⟨rfl, hy⟩; obtain ⟨d, rfl⟩ := hy.grown; clear hy) | (go_at_call 20; refine (rover b2 (endT t) _ _ (Clk.mk (by (try simp only [World.size_alloc, grow_size, World.size_setCell] at *); omega) (by simp [go_sem, *] <;> omega) (by simp [go_sem, *] <;> omega)) (by omega) (by omega) (by omega) (by omega)).mono ?_; rintro e w1 ⟨rfl, hy⟩; obtain ⟨d, rfl⟩ := hy.grown; clear hy))
          go_roundw
          case rel => exact ⟨k + 1, endT t, by omega, by go_num, by omega, by omega, hid (Clk.mk (by (try simp only [World.size_alloc, grow_size, World.size_setCell] at *); omega) (by simp [go_sem, *] <;> omega) (by simp [go_sem, *] <;> omega)), hid (Clk.mk (by (try simp only [World.size_alloc, grow_size, World.size_setCell] at *); omega) (by simp [go_sem, *] <;> omega) (by simp [go_sem, *] <;> omega)), (by repeat (first | (with_reducible exact Ext.refl _) | (with_reducible refine Ext.undrew ?_) | (with_reducible refine Ext.grow ?_ _) | (with_reducible refine Ext.drew ?_) | (with_reducible refine Ext.drewN ?_ _) | (with_reducible refine Ext.alloc ?_ _) | (with_reducible assumption) | ((with_reducible refine Ext.setCell ?_ ?_ _); rotate_left; (first | exact Nat.le_refl _ | ((try dsimp only); (try simp only [World.size_alloc, grow_size, World.size_setCell]); omega)))))⟩
          case measure => simp [intOf]; omega
        · rw [hz] at hcell
          go_wp2_with (first | (go_at_call 11; refine (begin_ b1 t _ (Clk.mk (by (try simp only [World.size_alloc, grow_size, World.size_setCell] at *); omega) (by simp [go_sem, *] <;> omega) (by simp [go_sem, *] <;> omega)) (by omega) (by omega)).mono ?_; rintro e w1 ⟨rfl, d, rfl⟩) | (go_at_call 12; refine (rbegin b2 t _ (Clk.mk (by (try simp only [World.size_alloc, grow_size, World.size_setCell] at *); omega) (by simp [go_sem, *] <;> omega) (by simp [go_sem, *] <;> omega)) (by omega) (by omega)).mono ?_; rintro e w1 ⟨rfl, d, rfl⟩) | (go_at_call 15; refine (now b1 (beginT t) _ (Clk.mk (by (try simp only [World.size_alloc, grow_size, World.size_setCell] at *); omega) (by simp [go_sem, *] <;> omega) (by simp [go_sem, *] <;> omega)) (by omega) (by omega)).mono ?_; rintro e w1 ⟨rfl, rfl⟩) | (go_at_call 16; refine (rnow b2 (beginT t) _ (Clk.mk (by (try simp only [World.size_alloc, grow_size, World.size_setCell] at *); omega) (by simp [go_sem, *] <;> omega) (by simp [go_sem, *] <;> omega)) (by omega) (by omega)).mono ?_; rintro e w1 ⟨rfl, rfl⟩) | (go_at_call 17; refine (runs b1 (beginT t) _ (Clk.mk (by (try simp only [World.size_alloc, grow_size, World.size_setCell] at *); omega) (by simp [go_sem, *] <;> omega) (by simp [go_sem, *] <;> omega)) (by omega) (by omega)).mono ?_; rintro e w1 ⟨rfl, rfl⟩) | (go_at_call 18; refine (rruns b2 (beginT t) _ (Clk.mk (by (try simp only [World.size_alloc, grow_size, World.size_setCell] at *); omega) (by simp [go_sem, *] <;> omega) (by simp [go_sem, *] <;> omega)) (by omega) (by omega)).mono ?_; rintro e w1 ⟨rfl, rfl⟩) | (go_at_call 19; refine (over b1 (beginT t) _ _ (Clk.mk (by (try simp only [World.size_alloc, grow_size, World.size_setCell] at *); omega) (by simp [go_sem, *] <;> omega) (by simp [go_sem, *] <;> omega)) (by omega) (by omega) (by omega) (by omega)).mono ?_; rintro e w1 ⟨rfl, hy⟩; obtain ⟨d, rfl⟩ := hy.grown; clear hy) | (go_at_call 20; refine (rover b2 (beginT t) _ _ (Clk.mk (by (try simp only [World.size_alloc, grow_size, World.size_setCell] at *); omega) (by simp [go_sem, *] <;> omega) (by simp [go_sem, *] <;> omega)) (by omega) (by omega) (by omega) (by omega)).mono ?_; rintro e w1 ⟨rfl, hy⟩; obtain ⟨d, rfl⟩ := hy.grown; clear hy))
          go_roundw
          case rel => exact ⟨k + 1, beginT t, by omega, by go_num, by omega, by omega, hid (Clk.mk (by (try simp only [World.size_alloc, grow_size, World.size_setCell] at *); omega) (by simp [go_sem, *] <;> omega) (by simp [go_sem, *] <;> omega)), hid (Clk.mk (by (try simp only [World.size_alloc, grow_size, World.size_setCell] at *); omega) (by simp [go_sem, *] <;> omega) (by simp [go_sem, *] <;> omega)), (by repeat (first | (with_reducible exact Ext.refl _) | (with_reducible refine Ext.undrew ?_) | (with_reducible refine Ext.grow ?_ _) | (with_reducible refine Ext.drew ?_) | (with_reducible refine Ext.drewN ?_ _) | (with_reducible refine Ext.alloc ?_ _) | (with_reducible assumption) | ((with_reducible refine Ext.setCell ?_ ?_ _); rotate_left; (first | exact Nat.le_refl _ | ((try dsimp only); (try simp only [World.size_alloc, grow_size, World.size_setCell]); omega)))))⟩
          case measure => simp [intOf]; omega
      · go_wp2_with (first | (go_at_call 21; refine (when_ _ _ (by omega) (by omega)).mono ?_; rintro e w1 ⟨rfl, rfl⟩) | (go_at_call 22; refine (rwhen _ _ (by omega) (by omega)).mono ?_; rintro e w1 ⟨rfl, rfl⟩))
        all_goals go_ret
        all_goals exact ⟨by simp, (by repeat (first | (with_reducible exact Ext.refl _) | (with_reducible refine Ext.undrew ?_) | (with_reducible refine Ext.grow ?_ _) | (with_reducible refine Ext.drew ?_) | (with_reducible refine Ext.drewN ?_ _) | (with_reducible refine Ext.alloc ?_ _) | (with_reducible assumption) | ((with_reducible refine Ext.setCell ?_ ?_ _); rotate_left; (first | exact Nat.le_refl _ | ((try dsimp only); (try simp only [World.size_alloc, grow_size, World.size_setCell]); omega)))))⟩
  · go_enter Try.func3, Try.ntmps3
    go_wp2_with (first | (go_at_call 8; refine (head _).mono ?_; rintro e wh ⟨rfl, hxh⟩) | (go_at_call 9; refine (new _).mono ?_; rintro e w1 ⟨b1, rfl, hx1, hb1, hk1⟩) | (go_at_call 10; refine (rnew _).mono ?_; rintro e w2 ⟨b2, rfl, hx2, hb2, hk2⟩))
    have hn : b1 < b2 := Nat.lt_of_lt_of_le hk1.1 hb2
    have hx12 := hxh.trans (hx1.trans hx2)
    go_ret
    exact ⟨rfl, (by repeat (first | (with_reducible exact Ext.refl _) | (with_reducible refine Ext.undrew ?_) | (with_reducible refine Ext.grow ?_ _) | (with_reducible refine Ext.drew ?_) | (with_reducible refine Ext.drewN ?_ _) | (with_reducible refine Ext.alloc ?_ _) | (with_reducible assumption) | ((with_reducible refine Ext.setCell ?_ ?_ _); rotate_left; (first | exact Nat.le_refl _ | ((try dsimp only); (try simp only [World.size_alloc, grow_size, World.size_setCell]); omega)))))⟩
end epochPlays

end Go.Proofs.Ytgckgljffooodaa
