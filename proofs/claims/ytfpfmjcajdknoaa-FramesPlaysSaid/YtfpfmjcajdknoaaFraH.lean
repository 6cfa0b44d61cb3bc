/- Layer 19: frames: all capabilities. -/
import Derived.Test.YtfpfmjcajdknoaaFraG
namespace Go.Proofs.Ytfpfmjcajdknoaa
set_option linter.unusedSimpArgs false
set_option linter.unusedVariables false
open Go.RowKit

theorem capsList_row (L : Nat → Cap) (k : Nat) : capsList (k * 5) L ++ rowCells L k = capsList ((k + 1) * 5) L := by
  rw [show (k + 1) * 5 = k * 5 + 1 + 1 + 1 + 1 + 1 by omega]
  simp only [capsList_succ]
  simp [rowCells, capsList, List.range_succ]
theorem rowCells_one (L : Nat → Cap) (k : Nat) : ∀ u ∈ rowCells L k, u.oneCell' = true := capsList_one 5 _
theorem rowArr_one (L : Nat → Cap) (k : Nat) : (rowCells L k).toArray.all (·.oneCell') = true := all_oneCell_toArray (rowCells_one L k)
theorem rowArr_size (L : Nat → Cap) (k : Nat) : (rowCells L k).toArray.size = 30 := by simp [rowCells_length]
set_option maxRecDepth 100000 in
set_option maxHeartbeats 4000000 in
theorem caps_ (q base : Nat) (v : Value) (n : Nat) (L : Nat → Cap) (w : World) (h : Stk w q base v n L) (hn : n ≤ 100000) :
    Calls Try.prog 12 #[.pointer (some ⟨q, 0, none⟩)] w fun e w' => ∃ v', e = .returned v' ∧ Hid (w'.ownsRow w.heap.size 29 6 v' (n * 5) (capsList (n * 5) L)) ∧ Ext w w' := by
  obtain ⟨A, cap, rfl, hA0, hA⟩ := h.slice
  have HS := hid h
  have hq := h.1
  have hc := h.2.1
  have HA0 := hid hA0
  have HA := hid hA
  clear h hA0 hA
  obtain ⟨i0, hi, hz0, hz1, hz2⟩ := info_parts info_cap
  have HI := hid hi
  go_enter Try.func12, Try.ntmps12
  go_wp2
  go_loopw [3, 11] (fun v i wr => ∃ k : Nat, k ≤ n ∧ i = .int .i64 k ∧ Hid (wr.ownsRow w.heap.size 29 6 v (k * 5) (capsList (k * 5) L)) ∧ Ext w wr) (fun _ i _ => n - (intOf i).toNat)
  case atStart => exact ⟨0, Nat.zero_le _, rfl, hid (owns_nil _ _ _ _), (by repeat (first | (with_reducible exact Ext.refl _) | (with_reducible refine Ext.undrew ?_) | (with_reducible refine Ext.grow ?_ _) | (with_reducible refine Ext.drew ?_) | (with_reducible refine Ext.drewN ?_ _) | (with_reducible refine Ext.alloc ?_ _) | (with_reducible assumption) | ((with_reducible refine Ext.setCell ?_ ?_ _); rotate_left; (first | exact Nat.le_refl _ | ((try dsimp only); (try simp only [World.size_alloc, grow_size, World.size_setCell]); omega)))))⟩
  case round =>
    obtain ⟨k, hk, rfl, hown, hx⟩ := hrel
    by_cases hlt : k < n
    · obtain ⟨g, rfl⟩ : ∃ g, A = some ⟨g, 0, none⟩ := by
        rcases A with _ | a
        · have := (HA0.out rfl).1; omega
        · obtain ⟨g, hg, _⟩ := HA.out _ rfl
          exact ⟨g, by rw [hg]⟩
      have HR := hid ((HS.out.row hlt).ext hx)
      have hk0 : (0 : Int) ≤ (k : Int) := by omega
      have hk1 : (k : Int) < (n : Int) := by omega
      clear HA HA0
      go_upto_region 5 with (first
        | (with_reducible refine wpList_load_mid rfl 54 (.tmp 13) rfl g (k * 30) rfl (rowCells L k) _ (Rng.range HR.out) Try.underlying54 rfl (by rw [rowCells_length]; kernel_rfl) ?_)
        | (refine wpList_store_mid rfl 54 (.tmp 5) (.tmp 14) rfl wr.heap.size 0 (rowCells L k).toArray rfl rfl (by rw [rowArr_size]; exact (there_newAt rfl rfl).2) (by rw [rowArr_size]; kernel_rfl) (rowArr_one _ _) ?_))
      refine wp_gen (fun W => Hid (Ext wr W) ∧ Hid (Row W wr.heap.size 0 (rowCells L k))) ⟨hid (Ext.only (Ext.alloc (Ext.refl wr) _) (Only.setCells (S := fun i => i = wr.heap.size) (.inl rfl) _ _ (Only.refl _ _)) (by rintro i rfl; exact Nat.le_refl _)), hid ?hr⟩ ?_
      case hr => refine Row.put (Row.new wr _ _) ?_; exact rowCells_length _ _
      rintro W1 ⟨hE, hR⟩
      have hown2 := hid (ownsRow_ext hown.out hE.out)
      have hxW := hid (hx.trans hE.out)
      clear hown
      go_wp2_with (at_builtin; refine wpList_append_own _ rfl _ _ 37 rfl w.heap.size 29 i0 _ 6 48 Try.underlying37 hi hz0 hz1 hz2 rfl (by decide) _ _ _ rfl hown2.out ⟨wr.heap.size, 0, none⟩ 5 5 (rowCells L k) rfl (by rw [rowCells_length]) ?c1 (rowCells_one _ _) ?c3 ?c4 ?c5 ?_)
      case c1 => exact fun j u hj => by rw [Addr.add_lit]; exact hR.out.range j u hj
      case c3 => unfold maxLen; omega
      case c4 => omega
      case c5 => exact hxW.out.size
      intro v' w1 hown1 hgrow _
      rw [capsList_row, show k * 5 + 5 = (k + 1) * 5 by omega] at hown1
      have hx1 := hid (Ext.owned hxW.out hown2.out hgrow)
      have hown1 := hid hown1
      clear hgrow hown2 hR hE
      go_wp2
      go_roundw
      case rel => exact ⟨k + 1, by omega, by go_num, hown1, hx1.out⟩
      case measure => simp [intOf]; omega
    · have hkn : k = n := by omega
      subst hkn
      have hk1 : ¬ (k : Int) < (k : Int) := by omega
      go_wp2
      go_ret
      exact ⟨_, rfl, hown, (by repeat (first | (with_reducible exact Ext.refl _) | (with_reducible refine Ext.undrew ?_) | (with_reducible refine Ext.grow ?_ _) | (with_reducible refine Ext.drew ?_) | (with_reducible refine Ext.drewN ?_ _) | (with_reducible refine Ext.alloc ?_ _) | (with_reducible assumption) | ((with_reducible refine Ext.setCell ?_ ?_ _); rotate_left; (first | exact Nat.le_refl _ | ((try dsimp only); (try simp only [World.size_alloc, grow_size, World.size_setCell]); omega)))))⟩
end Go.Proofs.Ytfpfmjcajdknoaa
