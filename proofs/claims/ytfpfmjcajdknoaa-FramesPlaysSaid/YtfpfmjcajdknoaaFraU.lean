/- Layer 19: the document's Caps. -/
import Derived.Test.YtfpfmjcajdknoaaFraR
import Derived.Test.YtfpfmjcajdknoaaStepO
namespace Go.Proofs.Ytfpfmjcajdknoaa
set_option linter.unusedSimpArgs false
set_option linter.unusedVariables false
open Go.RowKit

open Go.Deep Go.RowKit
theorem RStk.capAt {w : World} {q base : Nat} {v : Value} {n : Nat} {L : Nat → Cap} (h : RStk w q base v n L) {i : Nat} (hi : i < n * 5) : ∃ g cap, v = .slice (some ⟨g, 0, none⟩) n cap ∧ Rng w g (i * 6) (L i).cells := by
  obtain ⟨g, cap, hv, _, hlt⟩ := h.2.2.2.1.form (by omega)
  refine ⟨g, cap, hv, hlt, fun j u hj => ?_⟩
  have hl := (List.getElem?_eq_some_iff.1 hj).1
  rw [cells_length] at hl
  subst hv
  rw [h.2.2.2.1.cellAt (i * 6 + j) (by omega), capsList_at _ L i j hi hl]
  exact hj
set_option maxRecDepth 100000 in
set_option maxHeartbeats 4000000 in
theorem rcaps_ (q base : Nat) (v : Value) (n : Nat) (L : Nat → Cap) (w : World) (h : RStk w q base v n L) (hn : n ≤ 100000) :
    Calls Try.prog 20 #[.pointer (some ⟨q, 0, none⟩)] w fun e w' => ∃ v', e = .returned v' ∧ Hid (w'.ownsRow w.heap.size 29 6 v' (n * 5) (capsList (n * 5) L)) ∧ Ext w w' := by
  have HS := hid h
  obtain ⟨A, cap, rfl, _, _⟩ := h.slice
  have hq := h.1
  have hc := h.2.1
  clear h
  obtain ⟨i0, hi, hz0, hz1, hz2⟩ := info_parts info_cap
  have HI := hid hi
  clear hi
  go_enter Try.func20, Try.ntmps20
  go_wp2
  go_loopw [3, 4] (fun v i wr => ∃ k : Nat, k ≤ n ∧ i = .int .i64 k ∧ Hid (wr.ownsRow w.heap.size 29 6 v (k * 5) (capsList (k * 5) L)) ∧ Hid (Ext w wr)) (fun _ i _ => n - (intOf i).toNat)
  case atStart => exact ⟨0, Nat.zero_le _, rfl, hid (owns_nil _ _ _ _), hid (by repeat (first | (with_reducible exact Ext.refl _) | (with_reducible refine Ext.undrew ?_) | (with_reducible refine Ext.grow ?_ _) | (with_reducible refine Ext.drew ?_) | (with_reducible refine Ext.drewN ?_ _) | (with_reducible refine Ext.alloc ?_ _) | (with_reducible assumption) | ((with_reducible refine Ext.setCell ?_ ?_ _); rotate_left; (first | exact Nat.le_refl _ | ((try dsimp only); (try simp only [World.size_alloc, grow_size, World.size_setCell]); omega)))))⟩
  case round =>
    obtain ⟨k, hk, rfl, hown, hx⟩ := hrel
    have hqr : q < wr.heap.size := Nat.lt_of_lt_of_le hq hx.out.size
    have hcr := (hx.out.cells q 0 hq).trans hc
    by_cases hlt : k < n
    · have hk1 : (k : Int) < (n : Int) := by omega
      have hk0 : (0 : Int) ≤ (k : Int) := by omega
      obtain ⟨g, cap', e, hC0⟩ := HS.out.capAt (i := k * 5) (by omega)
      simp only [Value.slice.injEq] at e
      obtain ⟨rfl, _, rfl⟩ := e
      have HC0 := hid (by have := hC0.ext hx.out; rwa [show k * 5 * 6 = k * 30 by omega] at this)
      clear hC0
      go_upto_region 6 with (first | (with_reducible refine wpList_load_mid rfl 29 (.tmp 22) rfl g (k * 30) rfl ((L (k * 5)).cells) _ (Rng.range HC0.out) Try.underlying29 rfl (by kernel_rfl) ?_) | (refine wpList_build1 rfl 37 29 (.tmp 23) rfl (L (k * 5)).cells.toArray 6 rfl rfl (by omega) (by omega) Try.underlying37 (by kernel_rfl) (by kernel_rfl) ?_) | (at_builtin; refine wpList_append_own _ rfl _ _ 37 rfl w.heap.size 29 i0 _ 6 48 Try.underlying37 HI.out hz0 hz1 hz2 rfl (by decide) _ _ _ rfl (ownsRow_ext hown.out (Ext.alloc (Ext.refl wr) _)) ⟨wr.heap.size, 0, none⟩ 1 1 ((L (k * 5)).cells) rfl rfl ?c1 (cells_one _) ?c3 ?c4 ?c5 ?_))
      case c1 => exact fun j u hj => by rw [Addr.add_lit]; exact (Row.new wr _ _).range j u hj
      case c3 => unfold maxLen; omega
      case c4 => omega
      case c5 => have := hx.out.size; simp; omega
      intro v' w1 hown1 hgrow _
      rw [← capsList_succ] at hown1
      have hx1 := hid (Ext.owned (Ext.alloc hx.out _) (ownsRow_ext hown.out (Ext.alloc (Ext.refl wr) _)) hgrow)
      have hown1 := hid hown1
      clear hgrow hown
      go_wp2
      go_loopw [3, 5] (fun v i wi => ∃ j : Nat, j ≤ 4 ∧ i = .int .i64 j ∧ Hid (wi.ownsRow w.heap.size 29 6 v (k * 5 + 1 + j) (capsList (k * 5 + 1 + j) L)) ∧ Hid (Ext w wi)) (fun _ i _ => 4 - (intOf i).toNat)
      case atStart => exact ⟨0, Nat.zero_le _, rfl, hown1, hx1⟩
      case round =>
        clear hx hown1 hx1 HC0 hqr hcr
        obtain ⟨j, hj, rfl, hown, hx⟩ := hrel
        have hqi : q < wr.heap.size := Nat.lt_of_lt_of_le hq hx.out.size
        have hci := (hx.out.cells q 0 hq).trans hc
        by_cases hl4 : j < 4
        · have hj1 : (j : Int) < 4 := by omega
          have hj0 : (0 : Int) ≤ (j : Int) := by omega
          obtain ⟨g', cap', e, hCj⟩ := HS.out.capAt (i := k * 5 + 1 + j) (by omega)
          simp only [Value.slice.injEq, Option.some.injEq, Addr.mk.injEq, and_true, true_and] at e
          obtain ⟨rfl, rfl⟩ := e
          have HCj := hid (by have := hCj.ext hx.out; rwa [show (k * 5 + 1 + j) * 6 = k * 30 + 6 + j * 6 by omega] at this)
          clear hCj
          go_wp2_with (first | (with_reducible refine wpList_load_mid rfl 29 (.tmp 39) rfl g (k * 30 + 6 + j * 6) rfl ((L (k * 5 + 1 + j)).cells) _ (Rng.range HCj.out) Try.underlying29 rfl (by kernel_rfl) ?_) | (refine wpList_build1 rfl 37 29 (.tmp 40) rfl (L (k * 5 + 1 + j)).cells.toArray 6 rfl rfl (by omega) (by omega) Try.underlying37 (by kernel_rfl) (by kernel_rfl) ?_) | (at_builtin; refine wpList_append_own _ rfl _ _ 37 rfl w.heap.size 29 i0 _ 6 48 Try.underlying37 HI.out hz0 hz1 hz2 rfl (by decide) _ _ _ rfl (ownsRow_ext hown.out (Ext.alloc (Ext.refl wr) _)) ⟨wr.heap.size, 0, none⟩ 1 1 ((L (k * 5 + 1 + j)).cells) rfl rfl ?c1 (cells_one _) ?c3 ?c4 ?c5 ?_))
          case c1 => exact fun j u hj => by rw [Addr.add_lit]; exact (Row.new wr _ _).range j u hj
          case c3 => unfold maxLen; omega
          case c4 => omega
          case c5 => have := hx.out.size; simp; omega
          intro v' w1 hown1 hgrow _
          rw [← capsList_succ] at hown1
          have hx1 := hid (Ext.owned (Ext.alloc hx.out _) (ownsRow_ext hown.out (Ext.alloc (Ext.refl wr) _)) hgrow)
          have hown1 := hid hown1
          clear hgrow hown
          go_wp2
          go_roundw
          case rel => exact ⟨j + 1, by omega, by go_num, hown1, hx1⟩
          case measure => simp [intOf]; omega
        · obtain rfl : j = 4 := by omega
          have hown5 := hid (by have := hown.out; rwa [show k * 5 + 1 + 4 = (k + 1) * 5 by omega] at this)
          go_wp2
          go_roundw
          case rel => exact ⟨k + 1, by omega, by go_num, hown5, hx⟩
          case measure => simp [intOf]; omega
    · obtain rfl : k = n := by omega
      have hk1 : ¬ (k : Int) < (k : Int) := by omega
      go_wp2
      go_ret
      exact ⟨_, rfl, hown, hx.out⟩

end Go.Proofs.Ytfpfmjcajdknoaa
