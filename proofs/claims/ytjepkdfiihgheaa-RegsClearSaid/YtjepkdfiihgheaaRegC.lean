/- Layer 18: contracts of registers: All. -/
import Derived.Test.YtjepkdfiihgheaaRegA
namespace Go.Proofs.Ytjepkdfiihgheaa
set_option linter.unusedSimpArgs false
set_option linter.unusedVariables false
open Go.RowKit

set_option maxRecDepth 100000 in
set_option maxHeartbeats 4000000 in
theorem all_ (q : Nat) (L : Nat → Cap) (w : World) (h : Fil w q L) :
    Calls Try.prog 17 #[.pointer (some ⟨q, 0, none⟩)] w fun e w' => ∃ B, e = .returned (.slice (some ⟨B, 0, none⟩) 8 8) ∧ w.heap.size ≤ B ∧ Ext w w' ∧ Caps w' B 0 8 L := by
  have HR := hid (Caps.row h (by omega))
  clear h
  go_enter Try.func17, Try.ntmps17
  go_wp2_with (first | (with_reducible refine wpList_load_mid rfl 45 (.tmp 6) rfl q 0 rfl (capsList 8 L) _ HR.out.range Try.underlying45 rfl (by rw [capsList_length]; kernel_rfl) ?_) | (with_reducible refine wpList_store_mid rfl 45 (.tmp 3) (.tmp 7) rfl w.heap.size 0 (capsList 8 L).toArray rfl rfl (there_new _ _ _ _ (by rw [capsArr_size]; kernel_rfl)) (by rw [capsArr_size]; kernel_rfl) (capsArr_one _ _) ?_))
  go_ret
  refine ⟨w.heap.size, rfl, Nat.le_refl _, ?_, ?_⟩
  · refine Only.ext (S := (· = w.heap.size)) ?_ (by rintro k rfl; exact Nat.le_refl _)
    refine Only.setCells (S := (· = w.heap.size)) (.inl rfl) _ _ ?_
    exact Only.ofExt (by repeat (first | (with_reducible exact Ext.refl _) | (with_reducible refine Ext.undrew ?_) | (with_reducible refine Ext.grow ?_ _) | (with_reducible refine Ext.drew ?_) | (with_reducible refine Ext.drewN ?_ _) | (with_reducible refine Ext.alloc ?_ _) | (with_reducible assumption) | ((with_reducible refine Ext.setCell ?_ ?_ _); rotate_left; (first | exact Nat.le_refl _ | ((try dsimp only); (try simp only [World.size_alloc, grow_size, World.size_setCell]); omega)))))
  · exact Caps.ofRow ((Row.new w _ _).put (by rw [capsList_length]; kernel_rfl))


end Go.Proofs.Ytjepkdfiihgheaa
