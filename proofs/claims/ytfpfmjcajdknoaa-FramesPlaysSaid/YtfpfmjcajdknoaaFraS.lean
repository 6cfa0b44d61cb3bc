/- Layer 19: the document's Pop. -/
import Derived.Test.YtfpfmjcajdknoaaFraR
namespace Go.Proofs.Ytfpfmjcajdknoaa
set_option linter.unusedSimpArgs false
set_option linter.unusedVariables false
open Go.RowKit

open Go.Deep Go.RowKit
set_option maxRecDepth 100000 in
set_option maxHeartbeats 4000000 in
theorem rpop_ (q base g m cap : Nat) (L : Nat → Cap) (w : World) (h : RStk w q base (.slice (some ⟨g, 0, none⟩) (m + 1) cap) (m + 1) L) (hm : m ≤ 1000000) :
    Calls Try.prog 11 #[.pointer (some ⟨q, 0, none⟩)] w fun e w' => e = .returned (.tuple #[.agg (rowCells L m).toArray, .bool true]) ∧ Only (· = q) w w' ∧ w'.cell? ⟨q, 0, none⟩ = some (.slice (some ⟨g, 0, none⟩) m cap) ∧ w'.frozen? ⟨q, 0, none⟩ = false := by
  have HR := hid (h.row (m := m) (by omega))
  have hq := h.1
  have hc := h.2.1
  have hfq := h.2.2.1
  have hmc : m + 1 ≤ cap := by
    rcases h.2.2.2.1.2 with ⟨h0, _⟩ | ⟨g', cap', cur, hv, _, _, hn, _⟩
    · cases h0
    · cases hv; exact hn
  have hmc' : (m : Int) ≤ (cap : Int) := by omega
  have h0m : (0 : Int) ≤ (m : Int) := by omega
  have h2m : (m : Int) < (m : Int) + 1 := by omega
  have h3m : ¬ (m : Int) + 1 = 0 := by omega
  clear h hmc
  go_enter Try.func11, Try.ntmps11
  go_upto_region 1 with (fail)
  refine wp_gen (fun W => Hid (Ext w W) ∧ Hid (w.heap.size < W.heap.size ∧ W.there w.heap.size 0 30)) ⟨hid (by repeat (first | (with_reducible exact Ext.refl _) | (with_reducible refine Ext.undrew ?_) | (with_reducible refine Ext.grow ?_ _) | (with_reducible refine Ext.drew ?_) | (with_reducible refine Ext.drewN ?_ _) | (with_reducible refine Ext.alloc ?_ _) | (with_reducible assumption) | ((with_reducible refine Ext.setCell ?_ ?_ _); rotate_left; (first | exact Nat.le_refl _ | ((try dsimp only); (try simp only [World.size_alloc, grow_size, World.size_setCell]); omega))))), hid (there_newAt rfl rfl)⟩ ?_
  rintro W1 ⟨hE, hth⟩
  have hq1 : q < W1.heap.size := by have := hE.out.size; omega
  have hc1 := (hE.out.cells q 0 hq).trans hc
  have HR2 := hid (HR.out.ext hE.out)
  clear HR
  go_upto_region 5 with (first | (with_reducible refine wpList_load_mid rfl 32 (.tmp 20) rfl g (m * 30) rfl (rowCells L m) _ (Rng.range HR2.out) Try.underlying32 rfl (by rw [rowCells_length]; kernel_rfl) ?_) | (refine wpList_store_mid rfl 32 (.tmp 5) (.tmp 21) rfl W1.heap.size 0 (rowCells L m).toArray rfl rfl (by rw [rowArr_size]; exact (there_newAt rfl rfl).2) (by rw [rowArr_size]; kernel_rfl) (rowArr_one _ _) ?_))
  refine wp_gen (fun W => Hid (Ext W1 W) ∧ Hid (Row W W1.heap.size 0 (rowCells L m))) ⟨hid (Ext.only (Ext.alloc (Ext.refl W1) _) (Only.setCells (S := fun i => i = W1.heap.size) (.inl rfl) _ _ (Only.refl _ _)) (by rintro i rfl; exact Nat.le_refl _)), hid ?hr⟩ ?_
  case hr => exact Row.put (Row.new W1 _ _) (rowCells_length _ _)
  rintro W2 ⟨hE2, hR5⟩
  have hth2 : Hid (w.heap.size < W2.heap.size ∧ W2.there w.heap.size 0 30) := hid ⟨Nat.lt_of_lt_of_le hth.out.1 hE2.out.size, there_ext hth.out hE2.out⟩
  have hq2 : q < W2.heap.size := Nat.lt_of_lt_of_le hq1 hE2.out.size
  have hc2 := (hE2.out.cells q 0 hq1).trans hc1
  have hf2 := (hE2.out.frozens q 0 hq1).trans ((hE.out.frozens q 0 hq).trans hfq)
  have hn1 : ¬ W1.heap.size = q := by omega
  have hn2 : ¬ w.heap.size = q := by omega
  have hO2 : ∀ v, Only (fun i => i = q) W2 (W2.setCell ⟨q, 0, none⟩ v) := fun v => Only.setCell (S := fun i => i = q) (Only.refl _ _) (.inl rfl) v
  have hE3 := hid (hE.out.trans hE2.out)
  clear hc1 hfq hE hth HR2 hc hE2
  generalize W1.heap.size = b5 at hR5 hn1 ⊢
  go_wp2_with (first | (with_reducible refine wpList_load_mid rfl 32 (.tmp 5) rfl b5 0 rfl (rowCells L m) _ ((hR5.out.only (hO2 _) hn1).range) Try.underlying32 rfl (by rw [rowCells_length]; kernel_rfl) ?_) | (refine wpList_store_mid rfl 32 (.tmp 2) (.tmp 32) rfl w.heap.size 0 (rowCells L m).toArray rfl rfl (by rw [rowArr_size]; exact there_only hth2.out (hO2 _) hn2) (by rw [rowArr_size]; kernel_rfl) (rowArr_one _ _) ?_))
  refine bodyPost_ret (results_mid_tmp rfl _ _ w.heap.size 0 (rowCells L m) _ (.bool true) rfl ?_ Try.underlying32 rfl (by rw [rowCells_length]; kernel_rfl) rfl) rfl ⟨rfl, ?_, ?_, ?_⟩
  · exact World.rangeAt_setCells_same _ _ _ _ (by rw [rowCells_length]; exact there_only hth2.out (hO2 _) hn2)
  · exact Only.setCells (S := fun i => i = q) (.inr (Nat.le_refl _)) _ _ (Only.setCell (S := fun i => i = q) (Only.ofExt hE3.out) (.inl rfl) _)
  · refine ((Only.setCells (S := fun i => i = w.heap.size) (.inl rfl) _ _ (Only.refl _ _)).cells q 0 (by simpa using hq2) (fun h => hn2 h.symm)).trans ?_
    simp [go_sem, hc2]
  · rw [World.frozen?_setCells]
    simp [go_sem, hf2]
set_option maxRecDepth 100000 in
set_option maxHeartbeats 4000000 in
theorem rpop0_ (q base : Nat) (v : Value) (L : Nat → Cap) (w : World) (h : RStk w q base v 0 L) :
    Calls Try.prog 11 #[.pointer (some ⟨q, 0, none⟩)] w fun e w' => e = .returned (.tuple #[.agg #[.bool false, .int .i64 0, .int .i64 0, .int .i64 0, .int .i64 0, .int .i64 0, .bool false, .int .i64 0, .int .i64 0, .int .i64 0, .int .i64 0, .int .i64 0, .bool false, .int .i64 0, .int .i64 0, .int .i64 0, .int .i64 0, .int .i64 0, .bool false, .int .i64 0, .int .i64 0, .int .i64 0, .int .i64 0, .int .i64 0, .bool false, .int .i64 0, .int .i64 0, .int .i64 0, .int .i64 0, .int .i64 0], .bool false]) ∧ Ext w w' := by
  obtain ⟨A, cap, rfl, _, _⟩ := h.slice
  have hq := h.1
  have hc := h.2.1
  have hst : ((#[.bool false, .int .i64 0, .int .i64 0, .int .i64 0, .int .i64 0, .int .i64 0, .bool false, .int .i64 0, .int .i64 0, .int .i64 0, .int .i64 0, .int .i64 0, .bool false, .int .i64 0, .int .i64 0, .int .i64 0, .int .i64 0, .int .i64 0, .bool false, .int .i64 0, .int .i64 0, .int .i64 0, .int .i64 0, .int .i64 0, .bool false, .int .i64 0, .int .i64 0, .int .i64 0, .int .i64 0, .int .i64 0] : Array Value).all (·.oneCell')) = true := by simp [Value.oneCell']
  have HST := hid hst
  clear h hst
  go_enter Try.func11, Try.ntmps11
  go_wp2_with (with_reducible refine wpList_store_mid rfl 32 (.tmp 2) (.tmp 13) rfl w.heap.size 0 #[.bool false, .int .i64 0, .int .i64 0, .int .i64 0, .int .i64 0, .int .i64 0, .bool false, .int .i64 0, .int .i64 0, .int .i64 0, .int .i64 0, .int .i64 0, .bool false, .int .i64 0, .int .i64 0, .int .i64 0, .int .i64 0, .int .i64 0, .bool false, .int .i64 0, .int .i64 0, .int .i64 0, .int .i64 0, .int .i64 0, .bool false, .int .i64 0, .int .i64 0, .int .i64 0, .int .i64 0, .int .i64 0] rfl rfl (there_newAt rfl (by kernel_rfl)).2 (by kernel_rfl) HST.out ?_)
  refine bodyPost_ret (results_mid_tmp rfl _ _ w.heap.size 0 [.bool false, .int .i64 0, .int .i64 0, .int .i64 0, .int .i64 0, .int .i64 0, .bool false, .int .i64 0, .int .i64 0, .int .i64 0, .int .i64 0, .int .i64 0, .bool false, .int .i64 0, .int .i64 0, .int .i64 0, .int .i64 0, .int .i64 0, .bool false, .int .i64 0, .int .i64 0, .int .i64 0, .int .i64 0, .int .i64 0, .bool false, .int .i64 0, .int .i64 0, .int .i64 0, .int .i64 0, .int .i64 0] _ (.bool false) rfl ?_ Try.underlying32 rfl (by kernel_rfl) rfl) rfl ⟨rfl, ?_⟩
  · exact World.rangeAt_setCells_same _ _ _ _ (there_newAt rfl rfl).2
  · exact Ext.only (Ext.alloc (Ext.refl w) _) (Only.setCells (S := fun i => i = w.heap.size) (.inl rfl) _ _ (Only.refl _ _)) (by rintro i rfl; exact Nat.le_refl _)

end Go.Proofs.Ytfpfmjcajdknoaa
