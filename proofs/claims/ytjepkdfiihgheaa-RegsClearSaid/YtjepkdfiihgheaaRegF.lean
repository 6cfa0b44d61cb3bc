/- Layer 18: contracts of registers: New. -/
import Derived.Test.YtjepkdfiihgheaaRegA
namespace Go.Proofs.Ytjepkdfiihgheaa
set_option linter.unusedSimpArgs false
set_option linter.unusedVariables false
open Go.RowKit

set_option maxRecDepth 100000 in
set_option maxHeartbeats 2000000 in
theorem new_  (w : World) :
    Calls Try.prog 8 #[] w fun e w' => ∃ q, e = .returned (.pointer (some ⟨q, 0, none⟩)) ∧ w.heap.size ≤ q ∧ Ext w w' ∧ Fil w' q (fun _ => nullC) := by
  go_enter Try.func8, Try.ntmps8
  go_wp2
  go_ret
  exact ⟨w.heap.size, rfl, Nat.le_refl _, Ext.alloc (Ext.refl w) _, Caps.ofAlloc (by kernel_rfl)⟩

set_option maxRecDepth 100000 in
set_option maxHeartbeats 2000000 in
theorem rnew  (w : World) :
    Calls Try.prog 9 #[] w fun e w' => ∃ q, e = .returned (.pointer (some ⟨q, 0, none⟩)) ∧ w.heap.size ≤ q ∧ Ext w w' ∧ Fil w' q (fun _ => nullC) := by
  go_enter Try.func9, Try.ntmps9
  go_wp2
  go_ret
  exact ⟨w.heap.size, rfl, Nat.le_refl _, Ext.alloc (Ext.refl w) _, Caps.ofAlloc (by kernel_rfl)⟩


end Go.Proofs.Ytjepkdfiihgheaa
