/- The walk of AsmLines. -/
import Derived.Test.YtdhpbofpomefoaaDoorAsmH0
import Derived.Test.YtdhpbofpomefoaaDoorAsmC0
import Derived.Test.YtdhpbofpomefoaaDoorAsmX
import Derived.Test.YtdhpbofpomefoaaDoorAsmY
import Derived.Test.YtdhpbofpomefoaaDoorAsmZ
namespace Go.Proofs.YtdhpbofpomefoaaDoor
set_option linter.unusedSimpArgs false
set_option linter.unusedVariables false
open Go.RowKit

open Go.Deep Go.RowKit
namespace asmLines
set_option linter.unusedSimpArgs false
set_option linter.unusedVariables false
set_option maxRecDepth 100000 in
set_option maxHeartbeats 8000000 in
theorem walk (A0 : Option Addr) (cap0 : Nat) (zs0 : List In) (a1 : ByteArray) (w : World) (wl0 : zs0.length ≤ cap0 ∧ cap0 ≤ maxLen) (hs0 : SlAtN w A0 4 (zs0.map insC)) (w1 : a1.size ≤ maxLen) (hTab : Tb w) :
    Calls Tryd.prog 4 #[.slice A0 zs0.length cap0, .string a1] w fun e w' => e = .returned (.bool true) ∧ Ext w w' := by
  have HT := hid hTab
  have HA : Hid (RdF insC w A0 zs0) := hid (rdF_of insC_len (by decide) hs0)
  clear hTab hs0 w1 wl0
  have HHD : Hid (∀ W, Ext w W → Calls Tryd.prog 9 #[] W fun e w' => e = .returned (.bool true) ∧ Ext W w') := hid (fun W hx => head_ W (HT.out.ext hx))
  by_cases hl : zs0.length ≤ 200
  · have hl1 : ¬ (200 : Int) < (zs0.length : Int) := by omega
    by_cases hs : a1.size ≤ 3000
    · have hs1 : ¬ (3000 : Int) < (a1.size : Int) := by omega
      obtain ⟨R, hR⟩ : ∃ R, readL valT a1.data.toList = R := ⟨_, rfl⟩
      have hR2 : readL numR a1.data.toList = R := by rw [← hR]; exact readN_val good_R good_A _ _ _
      obtain ⟨acc, m, b⟩ := R
      have HRR := hid hR
      have HRQ := hid hR2
      have hdl : a1.data.toList.length ≤ 3000 := by have : a1.data.toList.length = a1.size := by simp
                                                    omega
      have hac : acc.length ≤ 1000000 := by
        have h9 := readL_cnt valT a1.data.toList
        rw [hR] at h9
        simp only at h9
        omega
      clear hR hR2
      obtain ⟨lt, hlt⟩ : ∃ z : ByteArray, (⟨(linesL zs0).toArray⟩ : ByteArray) = z := ⟨_, rfl⟩
      have HR1 : Hid (∀ W, Ext w W → Calls Tryd.prog 16 #[.string a1] W fun e w' => ∃ A c, e = .returned (.tuple #[.slice A acc.length c, .int .i64 (m : Int), .bool b]) ∧ Hid (RdF insC w' A acc) ∧ Ext W w') := hid (fun W hx => by
        have h := read_ a1.data.toList (by omega) W (HT.out.ext hx)
        rw [HRR.out, ba_eta] at h
        refine h.mono ?_
        rintro e w' ⟨v, rfl, HO, HXX⟩
        obtain ⟨A, c, rfl, _, _⟩ := HO.out.shape
        exact ⟨A, c, rfl, hid (HO.out.rdF rfl), HXX.out⟩)
      have HR2 : Hid (∀ W, Ext w W → Calls Tryd.prog 17 #[.string a1] W fun e w' => ∃ A c, e = .returned (.tuple #[.slice A acc.length c, .int .i64 (m : Int), .bool b]) ∧ Hid (RdF insC w' A acc) ∧ Ext W w') := hid (fun W hx => by
        have h := rread_ a1 (by omega) W (HT.out.ext hx)
        rw [HRQ.out] at h
        refine h.mono ?_
        rintro e w' ⟨v, rfl, HO, HXX⟩
        obtain ⟨A, c, rfl, _, _⟩ := HO.out.shape
        exact ⟨A, c, rfl, hid (HO.out.rdF rfl), HXX.out⟩)
      have HL1 : Hid (∀ W, Ext w W → Calls Tryd.prog 18 #[.slice A0 zs0.length cap0] W fun e w' => e = .returned (.string lt) ∧ Ext W w') := hid (fun W hx => by have h := alines_ A0 zs0.length cap0 zs0 W rfl (HA.out.ext hx) (by omega) (HT.out.ext hx); rw [hlt] at h; exact h)
      have HL2 : Hid (∀ W, Ext w W → Calls Tryd.prog 19 #[.slice A0 zs0.length cap0] W fun e w' => e = .returned (.string lt) ∧ Ext W w') := hid (fun W hx => by have h := rlines_ A0 zs0.length cap0 zs0 W rfl (HA.out.ext hx) (by omega) (HT.out.ext hx); rw [hlt] at h; exact h)
      clear hlt hdl
      go_enter Tryd.func4, Tryd.ntmps4
      have HX : Hid (Ext w w) := hid (Ext.refl _)
      go_wp2_with fail
      refine Calls.mono (HHD.out _ (Ext.trans HX.out (by repeat (first | (with_reducible exact Ext.refl _) | (with_reducible refine Ext.undrew ?_) | (with_reducible refine Ext.grow ?_ _) | (with_reducible refine Ext.drew ?_) | (with_reducible refine Ext.drewN ?_ _) | (with_reducible refine Ext.alloc ?_ _) | (with_reducible assumption) | ((with_reducible refine Ext.setCell ?_ ?_ _); rotate_left; (first | exact Nat.le_refl _ | ((try dsimp only); (try simp only [World.size_alloc, grow_size, World.size_setCell]); omega))))))) ?_
      rintro e W1 ⟨rfl, hy⟩
      replace HX := hid (Ext.trans (Ext.trans HX.out (by repeat (first | (with_reducible exact Ext.refl _) | (with_reducible refine Ext.undrew ?_) | (with_reducible refine Ext.grow ?_ _) | (with_reducible refine Ext.drew ?_) | (with_reducible refine Ext.drewN ?_ _) | (with_reducible refine Ext.alloc ?_ _) | (with_reducible assumption) | ((with_reducible refine Ext.setCell ?_ ?_ _); rotate_left; (first | exact Nat.le_refl _ | ((try dsimp only); (try simp only [World.size_alloc, grow_size, World.size_setCell]); omega)))))) hy)
      clear hy
      go_wp2_with fail
      refine Calls.mono (HR1.out _ (Ext.trans HX.out (by repeat (first | (with_reducible exact Ext.refl _) | (with_reducible refine Ext.undrew ?_) | (with_reducible refine Ext.grow ?_ _) | (with_reducible refine Ext.drew ?_) | (with_reducible refine Ext.drewN ?_ _) | (with_reducible refine Ext.alloc ?_ _) | (with_reducible assumption) | ((with_reducible refine Ext.setCell ?_ ?_ _); rotate_left; (first | exact Nat.le_refl _ | ((try dsimp only); (try simp only [World.size_alloc, grow_size, World.size_setCell]); omega))))))) ?_
      rintro e W2 ⟨A5, c5, rfl, HA5, hy⟩
      replace HX := hid (Ext.trans (Ext.trans HX.out (by repeat (first | (with_reducible exact Ext.refl _) | (with_reducible refine Ext.undrew ?_) | (with_reducible refine Ext.grow ?_ _) | (with_reducible refine Ext.drew ?_) | (with_reducible refine Ext.drewN ?_ _) | (with_reducible refine Ext.alloc ?_ _) | (with_reducible assumption) | ((with_reducible refine Ext.setCell ?_ ?_ _); rotate_left; (first | exact Nat.le_refl _ | ((try dsimp only); (try simp only [World.size_alloc, grow_size, World.size_setCell]); omega)))))) hy)
      clear hy
      go_wp2_with fail
      refine Calls.mono (HR2.out _ (Ext.trans HX.out (by repeat (first | (with_reducible exact Ext.refl _) | (with_reducible refine Ext.undrew ?_) | (with_reducible refine Ext.grow ?_ _) | (with_reducible refine Ext.drew ?_) | (with_reducible refine Ext.drewN ?_ _) | (with_reducible refine Ext.alloc ?_ _) | (with_reducible assumption) | ((with_reducible refine Ext.setCell ?_ ?_ _); rotate_left; (first | exact Nat.le_refl _ | ((try dsimp only); (try simp only [World.size_alloc, grow_size, World.size_setCell]); omega))))))) ?_
      rintro e W3 ⟨A6, c6, rfl, HA6, hy⟩
      replace HX := hid (Ext.trans (Ext.trans HX.out (by repeat (first | (with_reducible exact Ext.refl _) | (with_reducible refine Ext.undrew ?_) | (with_reducible refine Ext.grow ?_ _) | (with_reducible refine Ext.drew ?_) | (with_reducible refine Ext.drewN ?_ _) | (with_reducible refine Ext.alloc ?_ _) | (with_reducible assumption) | ((with_reducible refine Ext.setCell ?_ ?_ _); rotate_left; (first | exact Nat.le_refl _ | ((try dsimp only); (try simp only [World.size_alloc, grow_size, World.size_setCell]); omega)))))) hy)
      replace HA5 := hid ((HA5.out.ext (by repeat (first | (with_reducible exact Ext.refl _) | (with_reducible refine Ext.undrew ?_) | (with_reducible refine Ext.grow ?_ _) | (with_reducible refine Ext.drew ?_) | (with_reducible refine Ext.drewN ?_ _) | (with_reducible refine Ext.alloc ?_ _) | (with_reducible assumption) | ((with_reducible refine Ext.setCell ?_ ?_ _); rotate_left; (first | exact Nat.le_refl _ | ((try dsimp only); (try simp only [World.size_alloc, grow_size, World.size_setCell]); omega)))))).ext hy)
      clear hy
      go_wp2_with fail
      refine Calls.mono (HL1.out _ (Ext.trans HX.out (by repeat (first | (with_reducible exact Ext.refl _) | (with_reducible refine Ext.undrew ?_) | (with_reducible refine Ext.grow ?_ _) | (with_reducible refine Ext.drew ?_) | (with_reducible refine Ext.drewN ?_ _) | (with_reducible refine Ext.alloc ?_ _) | (with_reducible assumption) | ((with_reducible refine Ext.setCell ?_ ?_ _); rotate_left; (first | exact Nat.le_refl _ | ((try dsimp only); (try simp only [World.size_alloc, grow_size, World.size_setCell]); omega))))))) ?_
      rintro e W4 ⟨rfl, hy⟩
      replace HX := hid (Ext.trans (Ext.trans HX.out (by repeat (first | (with_reducible exact Ext.refl _) | (with_reducible refine Ext.undrew ?_) | (with_reducible refine Ext.grow ?_ _) | (with_reducible refine Ext.drew ?_) | (with_reducible refine Ext.drewN ?_ _) | (with_reducible refine Ext.alloc ?_ _) | (with_reducible assumption) | ((with_reducible refine Ext.setCell ?_ ?_ _); rotate_left; (first | exact Nat.le_refl _ | ((try dsimp only); (try simp only [World.size_alloc, grow_size, World.size_setCell]); omega)))))) hy)
      replace HA5 := hid ((HA5.out.ext (by repeat (first | (with_reducible exact Ext.refl _) | (with_reducible refine Ext.undrew ?_) | (with_reducible refine Ext.grow ?_ _) | (with_reducible refine Ext.drew ?_) | (with_reducible refine Ext.drewN ?_ _) | (with_reducible refine Ext.alloc ?_ _) | (with_reducible assumption) | ((with_reducible refine Ext.setCell ?_ ?_ _); rotate_left; (first | exact Nat.le_refl _ | ((try dsimp only); (try simp only [World.size_alloc, grow_size, World.size_setCell]); omega)))))).ext hy)
      replace HA6 := hid ((HA6.out.ext (by repeat (first | (with_reducible exact Ext.refl _) | (with_reducible refine Ext.undrew ?_) | (with_reducible refine Ext.grow ?_ _) | (with_reducible refine Ext.drew ?_) | (with_reducible refine Ext.drewN ?_ _) | (with_reducible refine Ext.alloc ?_ _) | (with_reducible assumption) | ((with_reducible refine Ext.setCell ?_ ?_ _); rotate_left; (first | exact Nat.le_refl _ | ((try dsimp only); (try simp only [World.size_alloc, grow_size, World.size_setCell]); omega)))))).ext hy)
      clear hy
      go_wp2_with fail
      refine Calls.mono (HL2.out _ (Ext.trans HX.out (by repeat (first | (with_reducible exact Ext.refl _) | (with_reducible refine Ext.undrew ?_) | (with_reducible refine Ext.grow ?_ _) | (with_reducible refine Ext.drew ?_) | (with_reducible refine Ext.drewN ?_ _) | (with_reducible refine Ext.alloc ?_ _) | (with_reducible assumption) | ((with_reducible refine Ext.setCell ?_ ?_ _); rotate_left; (first | exact Nat.le_refl _ | ((try dsimp only); (try simp only [World.size_alloc, grow_size, World.size_setCell]); omega))))))) ?_
      rintro e W5 ⟨rfl, hy⟩
      replace HX := hid (Ext.trans (Ext.trans HX.out (by repeat (first | (with_reducible exact Ext.refl _) | (with_reducible refine Ext.undrew ?_) | (with_reducible refine Ext.grow ?_ _) | (with_reducible refine Ext.drew ?_) | (with_reducible refine Ext.drewN ?_ _) | (with_reducible refine Ext.alloc ?_ _) | (with_reducible assumption) | ((with_reducible refine Ext.setCell ?_ ?_ _); rotate_left; (first | exact Nat.le_refl _ | ((try dsimp only); (try simp only [World.size_alloc, grow_size, World.size_setCell]); omega)))))) hy)
      replace HA5 := hid ((HA5.out.ext (by repeat (first | (with_reducible exact Ext.refl _) | (with_reducible refine Ext.undrew ?_) | (with_reducible refine Ext.grow ?_ _) | (with_reducible refine Ext.drew ?_) | (with_reducible refine Ext.drewN ?_ _) | (with_reducible refine Ext.alloc ?_ _) | (with_reducible assumption) | ((with_reducible refine Ext.setCell ?_ ?_ _); rotate_left; (first | exact Nat.le_refl _ | ((try dsimp only); (try simp only [World.size_alloc, grow_size, World.size_setCell]); omega)))))).ext hy)
      replace HA6 := hid ((HA6.out.ext (by repeat (first | (with_reducible exact Ext.refl _) | (with_reducible refine Ext.undrew ?_) | (with_reducible refine Ext.grow ?_ _) | (with_reducible refine Ext.drew ?_) | (with_reducible refine Ext.drewN ?_ _) | (with_reducible refine Ext.alloc ?_ _) | (with_reducible assumption) | ((with_reducible refine Ext.setCell ?_ ?_ _); rotate_left; (first | exact Nat.le_refl _ | ((try dsimp only); (try simp only [World.size_alloc, grow_size, World.size_setCell]); omega)))))).ext hy)
      clear hy
      go_wp2_with fail
      refine Calls.mono (same16_ A5 A6 acc.length c5 c6 acc _ rfl (HA5.out.ext (by repeat (first | (with_reducible exact Ext.refl _) | (with_reducible refine Ext.undrew ?_) | (with_reducible refine Ext.grow ?_ _) | (with_reducible refine Ext.drew ?_) | (with_reducible refine Ext.drewN ?_ _) | (with_reducible refine Ext.alloc ?_ _) | (with_reducible assumption) | ((with_reducible refine Ext.setCell ?_ ?_ _); rotate_left; (first | exact Nat.le_refl _ | ((try dsimp only); (try simp only [World.size_alloc, grow_size, World.size_setCell]); omega)))))) (HA6.out.ext (by repeat (first | (with_reducible exact Ext.refl _) | (with_reducible refine Ext.undrew ?_) | (with_reducible refine Ext.grow ?_ _) | (with_reducible refine Ext.drew ?_) | (with_reducible refine Ext.drewN ?_ _) | (with_reducible refine Ext.alloc ?_ _) | (with_reducible assumption) | ((with_reducible refine Ext.setCell ?_ ?_ _); rotate_left; (first | exact Nat.le_refl _ | ((try dsimp only); (try simp only [World.size_alloc, grow_size, World.size_setCell]); omega)))))) (by omega)) ?_
      rintro e W6 ⟨rfl, hy⟩
      replace HX := hid (Ext.trans (Ext.trans HX.out (by repeat (first | (with_reducible exact Ext.refl _) | (with_reducible refine Ext.undrew ?_) | (with_reducible refine Ext.grow ?_ _) | (with_reducible refine Ext.drew ?_) | (with_reducible refine Ext.drewN ?_ _) | (with_reducible refine Ext.alloc ?_ _) | (with_reducible assumption) | ((with_reducible refine Ext.setCell ?_ ?_ _); rotate_left; (first | exact Nat.le_refl _ | ((try dsimp only); (try simp only [World.size_alloc, grow_size, World.size_setCell]); omega)))))) hy)
      clear hy
      go_wp2_with fail
      go_ret
      exact ⟨rfl, Ext.trans HX.out (by repeat (first | (with_reducible exact Ext.refl _) | (with_reducible refine Ext.undrew ?_) | (with_reducible refine Ext.grow ?_ _) | (with_reducible refine Ext.drew ?_) | (with_reducible refine Ext.drewN ?_ _) | (with_reducible refine Ext.alloc ?_ _) | (with_reducible assumption) | ((with_reducible refine Ext.setCell ?_ ?_ _); rotate_left; (first | exact Nat.le_refl _ | ((try dsimp only); (try simp only [World.size_alloc, grow_size, World.size_setCell]); omega)))))⟩
    · have hs1 : (3000 : Int) < (a1.size : Int) := by omega
      go_enter Tryd.func4, Tryd.ntmps4
      go_wp2_with fail
      refine Calls.mono (HHD.out _ (by repeat (first | (with_reducible exact Ext.refl _) | (with_reducible refine Ext.undrew ?_) | (with_reducible refine Ext.grow ?_ _) | (with_reducible refine Ext.drew ?_) | (with_reducible refine Ext.drewN ?_ _) | (with_reducible refine Ext.alloc ?_ _) | (with_reducible assumption) | ((with_reducible refine Ext.setCell ?_ ?_ _); rotate_left; (first | exact Nat.le_refl _ | ((try dsimp only); (try simp only [World.size_alloc, grow_size, World.size_setCell]); omega)))))) ?_
      rintro e W1 ⟨rfl, hy⟩
      go_wp2
      go_ret
      exact ⟨rfl, hy⟩
  · have hl1 : (200 : Int) < (zs0.length : Int) := by omega
    go_enter Tryd.func4, Tryd.ntmps4
    go_wp2_with fail
    refine Calls.mono (HHD.out _ (by repeat (first | (with_reducible exact Ext.refl _) | (with_reducible refine Ext.undrew ?_) | (with_reducible refine Ext.grow ?_ _) | (with_reducible refine Ext.drew ?_) | (with_reducible refine Ext.drewN ?_ _) | (with_reducible refine Ext.alloc ?_ _) | (with_reducible assumption) | ((with_reducible refine Ext.setCell ?_ ?_ _); rotate_left; (first | exact Nat.le_refl _ | ((try dsimp only); (try simp only [World.size_alloc, grow_size, World.size_setCell]); omega)))))) ?_
    rintro e W1 ⟨rfl, hy⟩
    go_wp2
    go_ret
    exact ⟨rfl, hy⟩
end asmLines

end Go.Proofs.YtdhpbofpomefoaaDoor
