/- Layer 10: what the live question comes to. -/
import Derived.Test.YthamfkbopjagdaaSweE
import Derived.Test.YthamfkbopjagdaaSweG
namespace Go.Proofs.Ythamfkbopjagdaa
set_option linter.unusedSimpArgs false
set_option linter.unusedVariables false
open Go.RowKit

def hDead : Cap := ⟨true, 512, 544, 512, 3, 0⟩
def hLive : Cap := ⟨true, 544, 560, 512, 3, 0⟩
def h10B : Nat → Int := capB 4 768 hDead (capB 4 16 hLive (capB 4 0 hDead (fun _ => 0)))
def h10T : Nat → Bool := capT 4 768 hDead (capT 4 16 hLive (capT 4 0 hDead (fun _ => false)))
def h10D : Nat → Bool := capD 4 768 hDead (capD 4 16 hLive (capD 4 0 hDead (fun _ => false)))
def h10P : Nat → Bool := paintP 64 (fun _ => false) 512 544 true
def h10z : (Nat → Bool) × (Nat → Bool) × Nat := stS 4 64 h10P h10B (h10T, h10D, 0) [0]
def h10y : (Nat → Bool) × (Nat → Bool) × Nat := stS 4 64 h10P h10B h10z [3]
theorem h10_left : whichN h10D 4 = [0, 3] := by decide +kernel
theorem h10_tags : (whichN h10y.1 (16 * 4)).map (16 * ·) = [16] := by decide +kernel
theorem h10_dirty : whichN h10y.2.1 4 = [0] := by decide +kernel
theorem h10_gone : h10y.2.2 = 2 := by decide +kernel
theorem h10_dead : hitsP 64 h10P true 512 544 = true := by decide +kernel
theorem h10_live : hitsP 64 h10P true 544 560 = false := by decide +kernel

end Go.Proofs.Ythamfkbopjagdaa
