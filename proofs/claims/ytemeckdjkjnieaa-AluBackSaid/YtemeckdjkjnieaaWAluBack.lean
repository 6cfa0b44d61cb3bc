/- The walk of the law AluBack. -/
import Derived.Test.YtemeckdjkjnieaaBack1
import Derived.Test.YtemeckdjkjnieaaBack2
import Derived.Test.YtemeckdjkjnieaaBack3
import Derived.Test.YtemeckdjkjnieaaBack4
namespace Go.Proofs.Ytemeckdjkjnieaa
set_option linter.unusedSimpArgs false
set_option linter.unusedVariables false
open Go.RowKit

namespace aluBack
set_option maxRecDepth 100000 in
set_option maxHeartbeats 8000000 in
theorem walk (a0 : Int) (a1 : Int) (A2 : Option Addr) (cap2 : Nat) (zs2 : List Int) (w : World) (w0 : (Lit.int .u32 a0).wf = true) (w1 : (Lit.int .u8 a1).wf = true) (wl2 : zs2.length ≤ maxLen) (hs2 : SlAt w A2 (zs2.map (Value.int .u8))) (wz2 : ∀ z ∈ zs2, (Lit.int .u8 z).wf = true) (wc2 : zs2.length ≤ cap2) (wm2 : cap2 ≤ maxLen) (wn2 : A2 = none → zs2.length = 0 ∧ cap2 = 0) :
    Calls Try.prog 7 #[.int .u32 a0, .int .u8 a1, .slice A2 zs2.length cap2] w fun e w' => e = .returned (.bool true) ∧ Ext w w' := by
  obtain ⟨a0l, a0h⟩ := wfu32 w0
  obtain ⟨a1l, a1h⟩ := wfu8 w1
  have hz : ∀ z ∈ zs2, 0 ≤ z ∧ z ≤ 255 := fun z hz => wfu8 (wz2 z hz)
  unfold maxLen at wl2 wm2
  rcases (show a1 % 4 = 0 ∨ a1 % 4 = 1 ∨ a1 % 4 = 2 ∨ a1 % 4 = 3 by omega) with h | h | h | h
  · match zs2, hs2, hz, wc2 with
    | [], _, _, _ => exact back15 a0 a1 A2 0 cap2 w a0l a0h a1l a1h h (.inl rfl)
    | [x0], hs2, hz, wc2 =>
      obtain ⟨b, o, hab, hb, hcell⟩ := hs2 (by simp)
      subst hab
      exact back11 a0 a1 b o cap2 x0 w a0l a0h a1l a1h h wc2 (by omega) hb (hcell 0 (by simp)) (hz x0 (by simp)).1 (hz x0 (by simp)).2
    | [x0, x1], hs2, hz, wc2 =>
      obtain ⟨b, o, hab, hb, hcell⟩ := hs2 (by simp)
      subst hab
      exact back12 a0 a1 b o cap2 x0 x1 w a0l a0h a1l a1h h wc2 (by omega) hb (hcell 0 (by simp)) (hz x0 (by simp)).1 (hz x0 (by simp)).2 (hcell 1 (by simp)) (hz x1 (by simp)).1 (hz x1 (by simp)).2
    | [x0, x1, x2], hs2, hz, wc2 =>
      obtain ⟨b, o, hab, hb, hcell⟩ := hs2 (by simp)
      subst hab
      exact back13 a0 a1 b o cap2 x0 x1 x2 w a0l a0h a1l a1h h wc2 (by omega) hb (hcell 0 (by simp)) (hz x0 (by simp)).1 (hz x0 (by simp)).2 (hcell 1 (by simp)) (hz x1 (by simp)).1 (hz x1 (by simp)).2 (hcell 2 (by simp)) (hz x2 (by simp)).1 (hz x2 (by simp)).2
    | [x0, x1, x2, x3], hs2, hz, wc2 =>
      obtain ⟨b, o, hab, hb, hcell⟩ := hs2 (by simp)
      subst hab
      exact back14 a0 a1 b o cap2 x0 x1 x2 x3 w a0l a0h a1l a1h h wc2 (by omega) hb (hcell 0 (by simp)) (hz x0 (by simp)).1 (hz x0 (by simp)).2 (hcell 1 (by simp)) (hz x1 (by simp)).1 (hz x1 (by simp)).2 (hcell 2 (by simp)) (hz x2 (by simp)).1 (hz x2 (by simp)).2 (hcell 3 (by simp)) (hz x3 (by simp)).1 (hz x3 (by simp)).2
    | x0 :: x1 :: x2 :: x3 :: x4 :: l, _, _, _ => exact back15 a0 a1 A2 (x0 :: x1 :: x2 :: x3 :: x4 :: l).length cap2 w a0l a0h a1l a1h h (.inr (by simp))
  · match zs2, hs2, hz, wc2 with
    | [], _, _, _ => exact back25 a0 a1 A2 0 cap2 w a0l a0h a1l a1h h (.inl rfl)
    | [x0], hs2, hz, wc2 =>
      obtain ⟨b, o, hab, hb, hcell⟩ := hs2 (by simp)
      subst hab
      exact back21 a0 a1 b o cap2 x0 w a0l a0h a1l a1h h wc2 (by omega) hb (hcell 0 (by simp)) (hz x0 (by simp)).1 (hz x0 (by simp)).2
    | [x0, x1], hs2, hz, wc2 =>
      obtain ⟨b, o, hab, hb, hcell⟩ := hs2 (by simp)
      subst hab
      exact back22 a0 a1 b o cap2 x0 x1 w a0l a0h a1l a1h h wc2 (by omega) hb (hcell 0 (by simp)) (hz x0 (by simp)).1 (hz x0 (by simp)).2 (hcell 1 (by simp)) (hz x1 (by simp)).1 (hz x1 (by simp)).2
    | [x0, x1, x2], hs2, hz, wc2 =>
      obtain ⟨b, o, hab, hb, hcell⟩ := hs2 (by simp)
      subst hab
      exact back23 a0 a1 b o cap2 x0 x1 x2 w a0l a0h a1l a1h h wc2 (by omega) hb (hcell 0 (by simp)) (hz x0 (by simp)).1 (hz x0 (by simp)).2 (hcell 1 (by simp)) (hz x1 (by simp)).1 (hz x1 (by simp)).2 (hcell 2 (by simp)) (hz x2 (by simp)).1 (hz x2 (by simp)).2
    | [x0, x1, x2, x3], hs2, hz, wc2 =>
      obtain ⟨b, o, hab, hb, hcell⟩ := hs2 (by simp)
      subst hab
      exact back24 a0 a1 b o cap2 x0 x1 x2 x3 w a0l a0h a1l a1h h wc2 (by omega) hb (hcell 0 (by simp)) (hz x0 (by simp)).1 (hz x0 (by simp)).2 (hcell 1 (by simp)) (hz x1 (by simp)).1 (hz x1 (by simp)).2 (hcell 2 (by simp)) (hz x2 (by simp)).1 (hz x2 (by simp)).2 (hcell 3 (by simp)) (hz x3 (by simp)).1 (hz x3 (by simp)).2
    | x0 :: x1 :: x2 :: x3 :: x4 :: l, _, _, _ => exact back25 a0 a1 A2 (x0 :: x1 :: x2 :: x3 :: x4 :: l).length cap2 w a0l a0h a1l a1h h (.inr (by simp))
  · match zs2, hs2, hz, wc2 with
    | [], _, _, _ => exact back35 a0 a1 A2 0 cap2 w a0l a0h a1l a1h h (.inl rfl)
    | [x0], hs2, hz, wc2 =>
      obtain ⟨b, o, hab, hb, hcell⟩ := hs2 (by simp)
      subst hab
      exact back31 a0 a1 b o cap2 x0 w a0l a0h a1l a1h h wc2 (by omega) hb (hcell 0 (by simp)) (hz x0 (by simp)).1 (hz x0 (by simp)).2
    | [x0, x1], hs2, hz, wc2 =>
      obtain ⟨b, o, hab, hb, hcell⟩ := hs2 (by simp)
      subst hab
      exact back32 a0 a1 b o cap2 x0 x1 w a0l a0h a1l a1h h wc2 (by omega) hb (hcell 0 (by simp)) (hz x0 (by simp)).1 (hz x0 (by simp)).2 (hcell 1 (by simp)) (hz x1 (by simp)).1 (hz x1 (by simp)).2
    | [x0, x1, x2], hs2, hz, wc2 =>
      obtain ⟨b, o, hab, hb, hcell⟩ := hs2 (by simp)
      subst hab
      exact back33 a0 a1 b o cap2 x0 x1 x2 w a0l a0h a1l a1h h wc2 (by omega) hb (hcell 0 (by simp)) (hz x0 (by simp)).1 (hz x0 (by simp)).2 (hcell 1 (by simp)) (hz x1 (by simp)).1 (hz x1 (by simp)).2 (hcell 2 (by simp)) (hz x2 (by simp)).1 (hz x2 (by simp)).2
    | [x0, x1, x2, x3], hs2, hz, wc2 =>
      obtain ⟨b, o, hab, hb, hcell⟩ := hs2 (by simp)
      subst hab
      exact back34 a0 a1 b o cap2 x0 x1 x2 x3 w a0l a0h a1l a1h h wc2 (by omega) hb (hcell 0 (by simp)) (hz x0 (by simp)).1 (hz x0 (by simp)).2 (hcell 1 (by simp)) (hz x1 (by simp)).1 (hz x1 (by simp)).2 (hcell 2 (by simp)) (hz x2 (by simp)).1 (hz x2 (by simp)).2 (hcell 3 (by simp)) (hz x3 (by simp)).1 (hz x3 (by simp)).2
    | x0 :: x1 :: x2 :: x3 :: x4 :: l, _, _, _ => exact back35 a0 a1 A2 (x0 :: x1 :: x2 :: x3 :: x4 :: l).length cap2 w a0l a0h a1l a1h h (.inr (by simp))
  · match zs2, hs2, hz, wc2 with
    | [], _, _, _ => exact back45 a0 a1 A2 0 cap2 w a0l a0h a1l a1h h (.inl rfl)
    | [x0], hs2, hz, wc2 =>
      obtain ⟨b, o, hab, hb, hcell⟩ := hs2 (by simp)
      subst hab
      exact back41 a0 a1 b o cap2 x0 w a0l a0h a1l a1h h wc2 (by omega) hb (hcell 0 (by simp)) (hz x0 (by simp)).1 (hz x0 (by simp)).2
    | [x0, x1], hs2, hz, wc2 =>
      obtain ⟨b, o, hab, hb, hcell⟩ := hs2 (by simp)
      subst hab
      exact back42 a0 a1 b o cap2 x0 x1 w a0l a0h a1l a1h h wc2 (by omega) hb (hcell 0 (by simp)) (hz x0 (by simp)).1 (hz x0 (by simp)).2 (hcell 1 (by simp)) (hz x1 (by simp)).1 (hz x1 (by simp)).2
    | [x0, x1, x2], hs2, hz, wc2 =>
      obtain ⟨b, o, hab, hb, hcell⟩ := hs2 (by simp)
      subst hab
      exact back43 a0 a1 b o cap2 x0 x1 x2 w a0l a0h a1l a1h h wc2 (by omega) hb (hcell 0 (by simp)) (hz x0 (by simp)).1 (hz x0 (by simp)).2 (hcell 1 (by simp)) (hz x1 (by simp)).1 (hz x1 (by simp)).2 (hcell 2 (by simp)) (hz x2 (by simp)).1 (hz x2 (by simp)).2
    | [x0, x1, x2, x3], hs2, hz, wc2 =>
      obtain ⟨b, o, hab, hb, hcell⟩ := hs2 (by simp)
      subst hab
      exact back44 a0 a1 b o cap2 x0 x1 x2 x3 w a0l a0h a1l a1h h wc2 (by omega) hb (hcell 0 (by simp)) (hz x0 (by simp)).1 (hz x0 (by simp)).2 (hcell 1 (by simp)) (hz x1 (by simp)).1 (hz x1 (by simp)).2 (hcell 2 (by simp)) (hz x2 (by simp)).1 (hz x2 (by simp)).2 (hcell 3 (by simp)) (hz x3 (by simp)).1 (hz x3 (by simp)).2
    | x0 :: x1 :: x2 :: x3 :: x4 :: l, _, _, _ => exact back45 a0 a1 A2 (x0 :: x1 :: x2 :: x3 :: x4 :: l).length cap2 w a0l a0h a1l a1h h (.inr (by simp))
end aluBack

end Go.Proofs.Ytemeckdjkjnieaa
