/- The walk of HeapApart. -/
import Derived.Test.YtoeiemeffiiidaaDoorHepW1
import Derived.Test.YtoeiemeffiiidaaDoorHepW2
import Derived.Test.YtoeiemeffiiidaaDoorHepW3
import Derived.Test.YtoeiemeffiiidaaDoorHepW4
namespace Go.Proofs.YtoeiemeffiiidaaDoor
set_option linter.unusedSimpArgs false
set_option linter.unusedVariables false
open Go.RowKit

namespace heapApart
set_option linter.unusedSimpArgs false
set_option linter.unusedVariables false
theorem walk (a0 : Int) (A1 : Option Addr) (cap1 : Nat) (zs1 : List POp) (w : World) (w0 : (Lit.int .u8 a0).wf = true) (wl1 : zs1.length ≤ maxLen) (hs1 : SlAtN w A1 8 (zs1.map POp.cells)) (wz1 : ∀ z ∈ zs1, z.good) (hTab : Tab w) : Calls Tryd.prog 3 #[.int .u8 a0, .slice A1 zs1.length cap1] w fun e w' => e = .returned (.bool true) ∧ Ext w w' := parts.2.2.2.2 ⟨part1⟩ ⟨part2⟩ ⟨part3⟩ ⟨part4⟩ a0 A1 cap1 zs1 w w0 wl1 hs1 wz1 hTab
end heapApart

end Go.Proofs.YtoeiemeffiiidaaDoor
