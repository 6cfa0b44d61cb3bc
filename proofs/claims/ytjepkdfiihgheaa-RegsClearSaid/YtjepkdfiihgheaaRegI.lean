/- Layer 18: the document has all registers. -/
import Derived.Test.YtjepkdfiihgheaaRegA
import Derived.Test.YtjepkdfiihgheaaApp
namespace Go.Proofs.Ytjepkdfiihgheaa
set_option linter.unusedSimpArgs false
set_option linter.unusedVariables false
open Go.RowKit

set_option maxHeartbeats 4000000 in
theorem rall (q : Nat) (L : Nat → Cap) (w : World) (h : Fil w q L) :
    Calls Try.prog 18 #[.pointer (some ⟨q, 0, none⟩)] w fun e w' => ∃ A ca, e = .returned (.slice A 8 ca) ∧ RdC w' A 8 L ∧ Ext w w' := by
  have H := hid h
  clear h
  obtain ⟨i0, hi, hz0, hz1, hz2⟩ := info_parts info_cap
  have HI := hid hi
  go_enter Try.func18, Try.ntmps18
  go_wp2
  go_loopw [3, 4] (fun v i wr => ∃ k : Nat, k ≤ 8 ∧ i = .int .i64 k ∧ Hid (wr.ownsRow w.heap.size 29 6 v k (capsList k L)) ∧ Ext w wr) (fun _ i _ => 8 - (intOf i).toNat)
  case atStart => exact ⟨0, Nat.zero_le _, rfl, hid (owns_nil _ _ _ _), (by repeat (first | (with_reducible exact Ext.refl _) | (with_reducible refine Ext.undrew ?_) | (with_reducible refine Ext.grow ?_ _) | (with_reducible refine Ext.drew ?_) | (with_reducible refine Ext.drewN ?_ _) | (with_reducible refine Ext.alloc ?_ _) | (with_reducible assumption) | ((with_reducible refine Ext.setCell ?_ ?_ _); rotate_left; (first | exact Nat.le_refl _ | ((try dsimp only); (try simp only [World.size_alloc, grow_size, World.size_setCell]); omega)))))⟩
  case round =>
    obtain ⟨k, hk, rfl, hown, hx⟩ := hrel
    by_cases hlt : k < 8
    · have HR := (H.out.ext hx).at_ hlt
      obtain ⟨hq, d0, d1, d2, d3, d4, d5⟩ := HR.six
      have hk0 : (0 : Int) ≤ (k : Int) := by omega
      have hk1 : (k : Int) < 8 := by omega
      clear HR
      go_wp2_with (at_builtin; refine wpList_append_own _ rfl _ _ 30 rfl w.heap.size 29 i0 _ 6 48 Try.underlying30 hi hz0 hz1 hz2 rfl (by decide) _ _ _ rfl (hown.out.alloc _) ⟨wr.heap.size, 0, none⟩ 1 1 (L k).cells rfl rfl ?c1 (cells_one _) ?c3 ?c4 ?c5 ?_)
      case c1 => exact fun j u hj => World.news_of_block (heap_alloc_new wr _) j u (by simpa [Cap.cells] using hj)
      case c3 => unfold maxLen; omega
      case c4 => omega
      case c5 => have := hx.size; simp [go_sem]; omega
      intro v' w1 hown1 hgrow _
      rw [← capsList_succ] at hown1
      have hx1 := hid (Ext.owned (Ext.alloc hx _) (hown.out.alloc _) hgrow)
      have hown1 := hid hown1
      clear hgrow hown
      go_wp2
      go_roundw
      case rel => exact ⟨k + 1, by omega, by go_num, hown1, hx1.out⟩
      case measure => simp [intOf]; omega
    · obtain ⟨A, ca, rfl, hrd, _, _⟩ := owns_caps hown.out
      have hrd := hid hrd
      have hk8 : k = 8 := by omega
      clear hown
      go_wp2
      go_ret
      subst hk8
      exact ⟨A, ca, rfl, hrd.out, (by repeat (first | (with_reducible exact Ext.refl _) | (with_reducible refine Ext.undrew ?_) | (with_reducible refine Ext.grow ?_ _) | (with_reducible refine Ext.drew ?_) | (with_reducible refine Ext.drewN ?_ _) | (with_reducible refine Ext.alloc ?_ _) | (with_reducible assumption) | ((with_reducible refine Ext.setCell ?_ ?_ _); rotate_left; (first | exact Nat.le_refl _ | ((try dsimp only); (try simp only [World.size_alloc, grow_size, World.size_setCell]); omega)))))⟩


end Go.Proofs.Ytjepkdfiihgheaa
