/- The walk of AsmNames. -/
import Derived.Test.YtdhpbofpomefoaaDoorAsmN
import Derived.Test.YtdhpbofpomefoaaDoorAsmH0
namespace Go.Proofs.YtdhpbofpomefoaaDoor
set_option linter.unusedSimpArgs false
set_option linter.unusedVariables false
open Go.RowKit

open Go.Deep Go.RowKit
namespace asmNames
set_option linter.unusedSimpArgs false
set_option linter.unusedVariables false
set_option maxRecDepth 100000 in
set_option maxHeartbeats 8000000 in
theorem walk (a0 : Int) (a1 : Int) (w : World) (w0 : (Lit.int .u8 a0).wf = true) (w1 : (Lit.int .u8 a1).wf = true) (hTab : Tb w) :
    Calls Tryd.prog 8 #[.int .u8 a0, .int .u8 a1] w fun e w' => e = .returned (.bool true) ∧ Ext w w' := by
  have HT := hid hTab
  clear hTab
  obtain ⟨a0l, a0u⟩ := wfu8' w0
  obtain ⟨a1l, a1u⟩ := wfu8' w1
  clear w0 w1
  obtain ⟨i, hi⟩ : ∃ i, a0.tmod 40 = i := ⟨_, rfl⟩
  obtain ⟨k, hk⟩ : ∃ k, a1.tmod 40 = k := ⟨_, rfl⟩
  have hi0 : 0 ≤ i ∧ i ≤ 39 := by rw [← hi, Int.tmod_eq_emod_of_nonneg a0l]; omega
  have hk0 : 0 ≤ k ∧ k ≤ 39 := by rw [← hk, Int.tmod_eq_emod_of_nonneg a1l]; omega
  have ui : IntKind.u8.wrap i = i := by unfold IntKind.wrap; simp [IntKind.signed, IntKind.bits]; omega
  have uk : IntKind.u8.wrap k = k := by unfold IntKind.wrap; simp [IntKind.signed, IntKind.bits]; omega
  obtain ⟨hi1, hi2⟩ := hi0
  obtain ⟨hk1, hk2⟩ := hk0
  have hz0 : (⟨#[]⟩ : ByteArray).size = 0 := rfl
  by_cases c3 : i = k
  · subst c3
    have hF := nmB i
    obtain ⟨s, hs⟩ : ∃ s : ByteArray, (⟨(nameL i).toArray⟩ : ByteArray) = s := ⟨_, rfl⟩
    rw [hs] at hF
    have HS := hid hs
    have HF := hid hF
    clear hs hF
    have hle : ((s.size : Nat) : Int) ≤ 4 := by have := HF.out.le; omega
    by_cases c1 : i ≤ 29
    · have n1 := HF.out.e1 ⟨hi1, c1⟩
      go_enter Tryd.func8, Tryd.ntmps8
      go_wp2_with (first | (go_at_call 9; refine (head_ _ (HT.out.ext (by repeat (first | (with_reducible exact Ext.refl _) | (with_reducible refine Ext.undrew ?_) | (with_reducible refine Ext.grow ?_ _) | (with_reducible refine Ext.drew ?_) | (with_reducible refine Ext.drewN ?_ _) | (with_reducible refine Ext.alloc ?_ _) | (with_reducible assumption) | ((with_reducible refine Ext.setCell ?_ ?_ _); rotate_left; (first | exact Nat.le_refl _ | ((try dsimp only); (try simp only [World.size_alloc, grow_size, World.size_setCell]); omega))))))).mono ?_; rintro e wh ⟨rfl, hy⟩; obtain ⟨dh, rfl⟩ := hy.grown; clear hy) | (go_at_call 12; with_reducible refine Calls.mono (name_ i _ (HT.out.ext (by repeat (first | (with_reducible exact Ext.refl _) | (with_reducible refine Ext.undrew ?_) | (with_reducible refine Ext.grow ?_ _) | (with_reducible refine Ext.drew ?_) | (with_reducible refine Ext.drewN ?_ _) | (with_reducible refine Ext.alloc ?_ _) | (with_reducible assumption) | ((with_reducible refine Ext.setCell ?_ ?_ _); rotate_left; (first | exact Nat.le_refl _ | ((try dsimp only); (try simp only [World.size_alloc, grow_size, World.size_setCell]); omega))))))) ?_; rw [HS.out]; rintro e w1 ⟨rfl, hy⟩; obtain ⟨d1, rfl⟩ := hy.grown; clear hy))
      go_loopw [10] (fun v wr => ∃ n : Nat, n ≤ s.size ∧ v = .int .i64 n ∧ Hid (Ext w wr)) (fun v _ => s.size - (intOf v).toNat)
      case atStart => exact ⟨0, Nat.zero_le _, rfl, hid (by repeat (first | (with_reducible exact Ext.refl _) | (with_reducible refine Ext.undrew ?_) | (with_reducible refine Ext.grow ?_ _) | (with_reducible refine Ext.drew ?_) | (with_reducible refine Ext.drewN ?_ _) | (with_reducible refine Ext.alloc ?_ _) | (with_reducible assumption) | ((with_reducible refine Ext.setCell ?_ ?_ _); rotate_left; (first | exact Nat.le_refl _ | ((try dsimp only); (try simp only [World.size_alloc, grow_size, World.size_setCell]); omega)))))⟩
      case round =>
        obtain ⟨n, hn, rfl, hx⟩ := hrel
        have hxo := hx.out
        have hn0 : (0 : Int) ≤ (n : Int) := by omega
        by_cases hlt : n < s.size
        · have hlti : (n : Int) < (s.size : Int) := by omega
          obtain ⟨g1, g2⟩ := HF.out.al n hlt
          have g1i : ¬ ((s[n]'hlt).toNat : Int) < 97 := by omega
          have g2i : ¬ (122 : Int) < ((s[n]'hlt).toNat : Int) := by omega
          go_wp2
          go_roundw
          case rel => exact ⟨n + 1, by omega, by go_num, hid (by repeat (first | (with_reducible exact Ext.refl _) | (with_reducible refine Ext.undrew ?_) | (with_reducible refine Ext.grow ?_ _) | (with_reducible refine Ext.drew ?_) | (with_reducible refine Ext.drewN ?_ _) | (with_reducible refine Ext.alloc ?_ _) | (with_reducible assumption) | ((with_reducible refine Ext.setCell ?_ ?_ _); rotate_left; (first | exact Nat.le_refl _ | ((try dsimp only); (try simp only [World.size_alloc, grow_size, World.size_setCell]); omega)))))⟩
          case measure => simp [intOf]; omega
        · have hlti : ¬ (n : Int) < (s.size : Int) := by omega
          obtain rfl : n = s.size := by omega
          go_wp2
          go_ret
          exact ⟨rfl, (by repeat (first | (with_reducible exact Ext.refl _) | (with_reducible refine Ext.undrew ?_) | (with_reducible refine Ext.grow ?_ _) | (with_reducible refine Ext.drew ?_) | (with_reducible refine Ext.drewN ?_ _) | (with_reducible refine Ext.alloc ?_ _) | (with_reducible assumption) | ((with_reducible refine Ext.setCell ?_ ?_ _); rotate_left; (first | exact Nat.le_refl _ | ((try dsimp only); (try simp only [World.size_alloc, grow_size, World.size_setCell]); omega)))))⟩
    · have hse := HF.out.e2 (fun h => c1 h.2)
      subst hse
      go_enter Tryd.func8, Tryd.ntmps8
      go_wp2_with (first | (go_at_call 9; refine (head_ _ (HT.out.ext (by repeat (first | (with_reducible exact Ext.refl _) | (with_reducible refine Ext.undrew ?_) | (with_reducible refine Ext.grow ?_ _) | (with_reducible refine Ext.drew ?_) | (with_reducible refine Ext.drewN ?_ _) | (with_reducible refine Ext.alloc ?_ _) | (with_reducible assumption) | ((with_reducible refine Ext.setCell ?_ ?_ _); rotate_left; (first | exact Nat.le_refl _ | ((try dsimp only); (try simp only [World.size_alloc, grow_size, World.size_setCell]); omega))))))).mono ?_; rintro e wh ⟨rfl, hy⟩; obtain ⟨dh, rfl⟩ := hy.grown; clear hy) | (go_at_call 12; with_reducible refine Calls.mono (name_ i _ (HT.out.ext (by repeat (first | (with_reducible exact Ext.refl _) | (with_reducible refine Ext.undrew ?_) | (with_reducible refine Ext.grow ?_ _) | (with_reducible refine Ext.drew ?_) | (with_reducible refine Ext.drewN ?_ _) | (with_reducible refine Ext.alloc ?_ _) | (with_reducible assumption) | ((with_reducible refine Ext.setCell ?_ ?_ _); rotate_left; (first | exact Nat.le_refl _ | ((try dsimp only); (try simp only [World.size_alloc, grow_size, World.size_setCell]); omega))))))) ?_; rw [HS.out]; rintro e w1 ⟨rfl, hy⟩; obtain ⟨d1, rfl⟩ := hy.grown; clear hy))
      go_loopw [10] (fun v wr => ∃ n : Nat, n ≤ (⟨#[]⟩ : ByteArray).size ∧ v = .int .i64 n ∧ Hid (Ext w wr)) (fun v _ => (⟨#[]⟩ : ByteArray).size - (intOf v).toNat)
      case atStart => exact ⟨0, Nat.le_refl _, rfl, hid (by repeat (first | (with_reducible exact Ext.refl _) | (with_reducible refine Ext.undrew ?_) | (with_reducible refine Ext.grow ?_ _) | (with_reducible refine Ext.drew ?_) | (with_reducible refine Ext.drewN ?_ _) | (with_reducible refine Ext.alloc ?_ _) | (with_reducible assumption) | ((with_reducible refine Ext.setCell ?_ ?_ _); rotate_left; (first | exact Nat.le_refl _ | ((try dsimp only); (try simp only [World.size_alloc, grow_size, World.size_setCell]); omega)))))⟩
      case round =>
        obtain ⟨n, hn, rfl, hx⟩ := hrel
        have hxo := hx.out
        have hn0 : (0 : Int) ≤ (n : Int) := by omega
        by_cases hlt : n < (⟨#[]⟩ : ByteArray).size
        · exact absurd hlt (Nat.not_lt_zero n)
        · have hlti : ¬ (n : Int) < ((⟨#[]⟩ : ByteArray).size : Int) := by omega
          obtain rfl : n = 0 := by omega
          go_wp2
          go_ret
          exact ⟨rfl, (by repeat (first | (with_reducible exact Ext.refl _) | (with_reducible refine Ext.undrew ?_) | (with_reducible refine Ext.grow ?_ _) | (with_reducible refine Ext.drew ?_) | (with_reducible refine Ext.drewN ?_ _) | (with_reducible refine Ext.alloc ?_ _) | (with_reducible assumption) | ((with_reducible refine Ext.setCell ?_ ?_ _); rotate_left; (first | exact Nat.le_refl _ | ((try dsimp only); (try simp only [World.size_alloc, grow_size, World.size_setCell]); omega)))))⟩
  · have c3b : (i == k) = false := by simpa using c3
    have hF := nmB i
    have hG := nmB k
    have hE : ∀ (_ : 0 ≤ i ∧ i ≤ 29) (_ : 0 ≤ k ∧ k ≤ 29), ((⟨(nameL i).toArray⟩ : ByteArray) == ⟨(nameL k).toArray⟩) = false ∧ ((⟨(nameL i).toArray⟩ : ByteArray).toList == (⟨(nameL k).toArray⟩ : ByteArray).toList) = false := fun h1 h2 => by
      have : ¬ nameL i = nameL k := fun e => c3 (nameL_inj h1 h2 e)
      exact ⟨by rw [bs_eq, decide_eq_false this], by rw [bs_eqL, decide_eq_false this]⟩
    obtain ⟨s, hs⟩ : ∃ s : ByteArray, (⟨(nameL i).toArray⟩ : ByteArray) = s := ⟨_, rfl⟩
    obtain ⟨t, ht⟩ : ∃ s : ByteArray, (⟨(nameL k).toArray⟩ : ByteArray) = s := ⟨_, rfl⟩
    rw [hs] at hF hE
    rw [ht] at hG hE
    have HS := hid hs
    have HTT := hid ht
    have HF := hid hF
    have HG := hid hG
    have HE := hid hE
    have HC3 := hid c3
    clear hs ht hF hG hE c3
    have hle : ((s.size : Nat) : Int) ≤ 4 := by have := HF.out.le; omega
    by_cases c1 : i ≤ 29
    · have n1 := HF.out.e1 ⟨hi1, c1⟩
      by_cases c2 : k ≤ 29
      · have m1 := HG.out.e1 ⟨hk1, c2⟩
        obtain ⟨c4, c5⟩ := HE.out ⟨hi1, c1⟩ ⟨hk1, c2⟩
        go_enter Tryd.func8, Tryd.ntmps8
        go_wp2_with (first | (go_at_call 9; refine (head_ _ (HT.out.ext (by repeat (first | (with_reducible exact Ext.refl _) | (with_reducible refine Ext.undrew ?_) | (with_reducible refine Ext.grow ?_ _) | (with_reducible refine Ext.drew ?_) | (with_reducible refine Ext.drewN ?_ _) | (with_reducible refine Ext.alloc ?_ _) | (with_reducible assumption) | ((with_reducible refine Ext.setCell ?_ ?_ _); rotate_left; (first | exact Nat.le_refl _ | ((try dsimp only); (try simp only [World.size_alloc, grow_size, World.size_setCell]); omega))))))).mono ?_; rintro e wh ⟨rfl, hy⟩; obtain ⟨dh, rfl⟩ := hy.grown; clear hy) | (go_at_call 12; with_reducible refine Calls.mono (name_ i _ (HT.out.ext (by repeat (first | (with_reducible exact Ext.refl _) | (with_reducible refine Ext.undrew ?_) | (with_reducible refine Ext.grow ?_ _) | (with_reducible refine Ext.drew ?_) | (with_reducible refine Ext.drewN ?_ _) | (with_reducible refine Ext.alloc ?_ _) | (with_reducible assumption) | ((with_reducible refine Ext.setCell ?_ ?_ _); rotate_left; (first | exact Nat.le_refl _ | ((try dsimp only); (try simp only [World.size_alloc, grow_size, World.size_setCell]); omega))))))) ?_; rw [HS.out]; rintro e w1 ⟨rfl, hy⟩; obtain ⟨d1, rfl⟩ := hy.grown; clear hy) | (go_at_call 12; with_reducible refine Calls.mono (name_ k _ (HT.out.ext (by repeat (first | (with_reducible exact Ext.refl _) | (with_reducible refine Ext.undrew ?_) | (with_reducible refine Ext.grow ?_ _) | (with_reducible refine Ext.drew ?_) | (with_reducible refine Ext.drewN ?_ _) | (with_reducible refine Ext.alloc ?_ _) | (with_reducible assumption) | ((with_reducible refine Ext.setCell ?_ ?_ _); rotate_left; (first | exact Nat.le_refl _ | ((try dsimp only); (try simp only [World.size_alloc, grow_size, World.size_setCell]); omega))))))) ?_; rw [HTT.out]; rintro e w2 ⟨rfl, hy⟩; obtain ⟨d2, rfl⟩ := hy.grown; clear hy))
        go_loopw [10] (fun v wr => ∃ n : Nat, n ≤ s.size ∧ v = .int .i64 n ∧ Hid (Ext w wr)) (fun v _ => s.size - (intOf v).toNat)
        case atStart => exact ⟨0, Nat.zero_le _, rfl, hid (by repeat (first | (with_reducible exact Ext.refl _) | (with_reducible refine Ext.undrew ?_) | (with_reducible refine Ext.grow ?_ _) | (with_reducible refine Ext.drew ?_) | (with_reducible refine Ext.drewN ?_ _) | (with_reducible refine Ext.alloc ?_ _) | (with_reducible assumption) | ((with_reducible refine Ext.setCell ?_ ?_ _); rotate_left; (first | exact Nat.le_refl _ | ((try dsimp only); (try simp only [World.size_alloc, grow_size, World.size_setCell]); omega)))))⟩
        case round =>
          obtain ⟨n, hn, rfl, hx⟩ := hrel
          have hxo := hx.out
          have hn0 : (0 : Int) ≤ (n : Int) := by omega
          by_cases hlt : n < s.size
          · have hlti : (n : Int) < (s.size : Int) := by omega
            obtain ⟨g1, g2⟩ := HF.out.al n hlt
            have g1i : ¬ ((s[n]'hlt).toNat : Int) < 97 := by omega
            have g2i : ¬ (122 : Int) < ((s[n]'hlt).toNat : Int) := by omega
            go_wp2
            go_roundw
            case rel => exact ⟨n + 1, by omega, by go_num, hid (by repeat (first | (with_reducible exact Ext.refl _) | (with_reducible refine Ext.undrew ?_) | (with_reducible refine Ext.grow ?_ _) | (with_reducible refine Ext.drew ?_) | (with_reducible refine Ext.drewN ?_ _) | (with_reducible refine Ext.alloc ?_ _) | (with_reducible assumption) | ((with_reducible refine Ext.setCell ?_ ?_ _); rotate_left; (first | exact Nat.le_refl _ | ((try dsimp only); (try simp only [World.size_alloc, grow_size, World.size_setCell]); omega)))))⟩
            case measure => simp [intOf]; omega
          · have hlti : ¬ (n : Int) < (s.size : Int) := by omega
            obtain rfl : n = s.size := by omega
            go_wp2
            go_ret
            exact ⟨rfl, (by repeat (first | (with_reducible exact Ext.refl _) | (with_reducible refine Ext.undrew ?_) | (with_reducible refine Ext.grow ?_ _) | (with_reducible refine Ext.drew ?_) | (with_reducible refine Ext.drewN ?_ _) | (with_reducible refine Ext.alloc ?_ _) | (with_reducible assumption) | ((with_reducible refine Ext.setCell ?_ ?_ _); rotate_left; (first | exact Nat.le_refl _ | ((try dsimp only); (try simp only [World.size_alloc, grow_size, World.size_setCell]); omega)))))⟩
      · have hte := HG.out.e2 (fun h => c2 h.2)
        subst hte
        go_enter Tryd.func8, Tryd.ntmps8
        go_wp2_with (first | (go_at_call 9; refine (head_ _ (HT.out.ext (by repeat (first | (with_reducible exact Ext.refl _) | (with_reducible refine Ext.undrew ?_) | (with_reducible refine Ext.grow ?_ _) | (with_reducible refine Ext.drew ?_) | (with_reducible refine Ext.drewN ?_ _) | (with_reducible refine Ext.alloc ?_ _) | (with_reducible assumption) | ((with_reducible refine Ext.setCell ?_ ?_ _); rotate_left; (first | exact Nat.le_refl _ | ((try dsimp only); (try simp only [World.size_alloc, grow_size, World.size_setCell]); omega))))))).mono ?_; rintro e wh ⟨rfl, hy⟩; obtain ⟨dh, rfl⟩ := hy.grown; clear hy) | (go_at_call 12; with_reducible refine Calls.mono (name_ i _ (HT.out.ext (by repeat (first | (with_reducible exact Ext.refl _) | (with_reducible refine Ext.undrew ?_) | (with_reducible refine Ext.grow ?_ _) | (with_reducible refine Ext.drew ?_) | (with_reducible refine Ext.drewN ?_ _) | (with_reducible refine Ext.alloc ?_ _) | (with_reducible assumption) | ((with_reducible refine Ext.setCell ?_ ?_ _); rotate_left; (first | exact Nat.le_refl _ | ((try dsimp only); (try simp only [World.size_alloc, grow_size, World.size_setCell]); omega))))))) ?_; rw [HS.out]; rintro e w1 ⟨rfl, hy⟩; obtain ⟨d1, rfl⟩ := hy.grown; clear hy) | (go_at_call 12; with_reducible refine Calls.mono (name_ k _ (HT.out.ext (by repeat (first | (with_reducible exact Ext.refl _) | (with_reducible refine Ext.undrew ?_) | (with_reducible refine Ext.grow ?_ _) | (with_reducible refine Ext.drew ?_) | (with_reducible refine Ext.drewN ?_ _) | (with_reducible refine Ext.alloc ?_ _) | (with_reducible assumption) | ((with_reducible refine Ext.setCell ?_ ?_ _); rotate_left; (first | exact Nat.le_refl _ | ((try dsimp only); (try simp only [World.size_alloc, grow_size, World.size_setCell]); omega))))))) ?_; rw [HTT.out]; rintro e w2 ⟨rfl, hy⟩; obtain ⟨d2, rfl⟩ := hy.grown; clear hy))
        go_loopw [10] (fun v wr => ∃ n : Nat, n ≤ s.size ∧ v = .int .i64 n ∧ Hid (Ext w wr)) (fun v _ => s.size - (intOf v).toNat)
        case atStart => exact ⟨0, Nat.zero_le _, rfl, hid (by repeat (first | (with_reducible exact Ext.refl _) | (with_reducible refine Ext.undrew ?_) | (with_reducible refine Ext.grow ?_ _) | (with_reducible refine Ext.drew ?_) | (with_reducible refine Ext.drewN ?_ _) | (with_reducible refine Ext.alloc ?_ _) | (with_reducible assumption) | ((with_reducible refine Ext.setCell ?_ ?_ _); rotate_left; (first | exact Nat.le_refl _ | ((try dsimp only); (try simp only [World.size_alloc, grow_size, World.size_setCell]); omega)))))⟩
        case round =>
          obtain ⟨n, hn, rfl, hx⟩ := hrel
          have hxo := hx.out
          have hn0 : (0 : Int) ≤ (n : Int) := by omega
          by_cases hlt : n < s.size
          · have hlti : (n : Int) < (s.size : Int) := by omega
            obtain ⟨g1, g2⟩ := HF.out.al n hlt
            have g1i : ¬ ((s[n]'hlt).toNat : Int) < 97 := by omega
            have g2i : ¬ (122 : Int) < ((s[n]'hlt).toNat : Int) := by omega
            go_wp2
            go_roundw
            case rel => exact ⟨n + 1, by omega, by go_num, hid (by repeat (first | (with_reducible exact Ext.refl _) | (with_reducible refine Ext.undrew ?_) | (with_reducible refine Ext.grow ?_ _) | (with_reducible refine Ext.drew ?_) | (with_reducible refine Ext.drewN ?_ _) | (with_reducible refine Ext.alloc ?_ _) | (with_reducible assumption) | ((with_reducible refine Ext.setCell ?_ ?_ _); rotate_left; (first | exact Nat.le_refl _ | ((try dsimp only); (try simp only [World.size_alloc, grow_size, World.size_setCell]); omega)))))⟩
            case measure => simp [intOf]; omega
          · have hlti : ¬ (n : Int) < (s.size : Int) := by omega
            obtain rfl : n = s.size := by omega
            go_wp2
            go_ret
            exact ⟨rfl, (by repeat (first | (with_reducible exact Ext.refl _) | (with_reducible refine Ext.undrew ?_) | (with_reducible refine Ext.grow ?_ _) | (with_reducible refine Ext.drew ?_) | (with_reducible refine Ext.drewN ?_ _) | (with_reducible refine Ext.alloc ?_ _) | (with_reducible assumption) | ((with_reducible refine Ext.setCell ?_ ?_ _); rotate_left; (first | exact Nat.le_refl _ | ((try dsimp only); (try simp only [World.size_alloc, grow_size, World.size_setCell]); omega)))))⟩
    · have hse := HF.out.e2 (fun h => c1 h.2)
      subst hse
      by_cases c2 : k ≤ 29
      · have m1 := HG.out.e1 ⟨hk1, c2⟩
        go_enter Tryd.func8, Tryd.ntmps8
        go_wp2_with (first | (go_at_call 9; refine (head_ _ (HT.out.ext (by repeat (first | (with_reducible exact Ext.refl _) | (with_reducible refine Ext.undrew ?_) | (with_reducible refine Ext.grow ?_ _) | (with_reducible refine Ext.drew ?_) | (with_reducible refine Ext.drewN ?_ _) | (with_reducible refine Ext.alloc ?_ _) | (with_reducible assumption) | ((with_reducible refine Ext.setCell ?_ ?_ _); rotate_left; (first | exact Nat.le_refl _ | ((try dsimp only); (try simp only [World.size_alloc, grow_size, World.size_setCell]); omega))))))).mono ?_; rintro e wh ⟨rfl, hy⟩; obtain ⟨dh, rfl⟩ := hy.grown; clear hy) | (go_at_call 12; with_reducible refine Calls.mono (name_ i _ (HT.out.ext (by repeat (first | (with_reducible exact Ext.refl _) | (with_reducible refine Ext.undrew ?_) | (with_reducible refine Ext.grow ?_ _) | (with_reducible refine Ext.drew ?_) | (with_reducible refine Ext.drewN ?_ _) | (with_reducible refine Ext.alloc ?_ _) | (with_reducible assumption) | ((with_reducible refine Ext.setCell ?_ ?_ _); rotate_left; (first | exact Nat.le_refl _ | ((try dsimp only); (try simp only [World.size_alloc, grow_size, World.size_setCell]); omega))))))) ?_; rw [HS.out]; rintro e w1 ⟨rfl, hy⟩; obtain ⟨d1, rfl⟩ := hy.grown; clear hy) | (go_at_call 12; with_reducible refine Calls.mono (name_ k _ (HT.out.ext (by repeat (first | (with_reducible exact Ext.refl _) | (with_reducible refine Ext.undrew ?_) | (with_reducible refine Ext.grow ?_ _) | (with_reducible refine Ext.drew ?_) | (with_reducible refine Ext.drewN ?_ _) | (with_reducible refine Ext.alloc ?_ _) | (with_reducible assumption) | ((with_reducible refine Ext.setCell ?_ ?_ _); rotate_left; (first | exact Nat.le_refl _ | ((try dsimp only); (try simp only [World.size_alloc, grow_size, World.size_setCell]); omega))))))) ?_; rw [HTT.out]; rintro e w2 ⟨rfl, hy⟩; obtain ⟨d2, rfl⟩ := hy.grown; clear hy))
        go_loopw [10] (fun v wr => ∃ n : Nat, n ≤ (⟨#[]⟩ : ByteArray).size ∧ v = .int .i64 n ∧ Hid (Ext w wr)) (fun v _ => (⟨#[]⟩ : ByteArray).size - (intOf v).toNat)
        case atStart => exact ⟨0, Nat.le_refl _, rfl, hid (by repeat (first | (with_reducible exact Ext.refl _) | (with_reducible refine Ext.undrew ?_) | (with_reducible refine Ext.grow ?_ _) | (with_reducible refine Ext.drew ?_) | (with_reducible refine Ext.drewN ?_ _) | (with_reducible refine Ext.alloc ?_ _) | (with_reducible assumption) | ((with_reducible refine Ext.setCell ?_ ?_ _); rotate_left; (first | exact Nat.le_refl _ | ((try dsimp only); (try simp only [World.size_alloc, grow_size, World.size_setCell]); omega)))))⟩
        case round =>
          obtain ⟨n, hn, rfl, hx⟩ := hrel
          have hxo := hx.out
          have hn0 : (0 : Int) ≤ (n : Int) := by omega
          by_cases hlt : n < (⟨#[]⟩ : ByteArray).size
          · exact absurd hlt (Nat.not_lt_zero n)
          · have hlti : ¬ (n : Int) < ((⟨#[]⟩ : ByteArray).size : Int) := by omega
            obtain rfl : n = 0 := by omega
            go_wp2
            go_ret
            exact ⟨rfl, (by repeat (first | (with_reducible exact Ext.refl _) | (with_reducible refine Ext.undrew ?_) | (with_reducible refine Ext.grow ?_ _) | (with_reducible refine Ext.drew ?_) | (with_reducible refine Ext.drewN ?_ _) | (with_reducible refine Ext.alloc ?_ _) | (with_reducible assumption) | ((with_reducible refine Ext.setCell ?_ ?_ _); rotate_left; (first | exact Nat.le_refl _ | ((try dsimp only); (try simp only [World.size_alloc, grow_size, World.size_setCell]); omega)))))⟩
      · have hte := HG.out.e2 (fun h => c2 h.2)
        subst hte
        go_enter Tryd.func8, Tryd.ntmps8
        go_wp2_with (first | (go_at_call 9; refine (head_ _ (HT.out.ext (by repeat (first | (with_reducible exact Ext.refl _) | (with_reducible refine Ext.undrew ?_) | (with_reducible refine Ext.grow ?_ _) | (with_reducible refine Ext.drew ?_) | (with_reducible refine Ext.drewN ?_ _) | (with_reducible refine Ext.alloc ?_ _) | (with_reducible assumption) | ((with_reducible refine Ext.setCell ?_ ?_ _); rotate_left; (first | exact Nat.le_refl _ | ((try dsimp only); (try simp only [World.size_alloc, grow_size, World.size_setCell]); omega))))))).mono ?_; rintro e wh ⟨rfl, hy⟩; obtain ⟨dh, rfl⟩ := hy.grown; clear hy) | (go_at_call 12; with_reducible refine Calls.mono (name_ i _ (HT.out.ext (by repeat (first | (with_reducible exact Ext.refl _) | (with_reducible refine Ext.undrew ?_) | (with_reducible refine Ext.grow ?_ _) | (with_reducible refine Ext.drew ?_) | (with_reducible refine Ext.drewN ?_ _) | (with_reducible refine Ext.alloc ?_ _) | (with_reducible assumption) | ((with_reducible refine Ext.setCell ?_ ?_ _); rotate_left; (first | exact Nat.le_refl _ | ((try dsimp only); (try simp only [World.size_alloc, grow_size, World.size_setCell]); omega))))))) ?_; rw [HS.out]; rintro e w1 ⟨rfl, hy⟩; obtain ⟨d1, rfl⟩ := hy.grown; clear hy) | (go_at_call 12; with_reducible refine Calls.mono (name_ k _ (HT.out.ext (by repeat (first | (with_reducible exact Ext.refl _) | (with_reducible refine Ext.undrew ?_) | (with_reducible refine Ext.grow ?_ _) | (with_reducible refine Ext.drew ?_) | (with_reducible refine Ext.drewN ?_ _) | (with_reducible refine Ext.alloc ?_ _) | (with_reducible assumption) | ((with_reducible refine Ext.setCell ?_ ?_ _); rotate_left; (first | exact Nat.le_refl _ | ((try dsimp only); (try simp only [World.size_alloc, grow_size, World.size_setCell]); omega))))))) ?_; rw [HTT.out]; rintro e w2 ⟨rfl, hy⟩; obtain ⟨d2, rfl⟩ := hy.grown; clear hy))
        go_loopw [10] (fun v wr => ∃ n : Nat, n ≤ (⟨#[]⟩ : ByteArray).size ∧ v = .int .i64 n ∧ Hid (Ext w wr)) (fun v _ => (⟨#[]⟩ : ByteArray).size - (intOf v).toNat)
        case atStart => exact ⟨0, Nat.le_refl _, rfl, hid (by repeat (first | (with_reducible exact Ext.refl _) | (with_reducible refine Ext.undrew ?_) | (with_reducible refine Ext.grow ?_ _) | (with_reducible refine Ext.drew ?_) | (with_reducible refine Ext.drewN ?_ _) | (with_reducible refine Ext.alloc ?_ _) | (with_reducible assumption) | ((with_reducible refine Ext.setCell ?_ ?_ _); rotate_left; (first | exact Nat.le_refl _ | ((try dsimp only); (try simp only [World.size_alloc, grow_size, World.size_setCell]); omega)))))⟩
        case round =>
          obtain ⟨n, hn, rfl, hx⟩ := hrel
          have hxo := hx.out
          have hn0 : (0 : Int) ≤ (n : Int) := by omega
          by_cases hlt : n < (⟨#[]⟩ : ByteArray).size
          · exact absurd hlt (Nat.not_lt_zero n)
          · have hlti : ¬ (n : Int) < ((⟨#[]⟩ : ByteArray).size : Int) := by omega
            obtain rfl : n = 0 := by omega
            go_wp2
            go_ret
            exact ⟨rfl, (by repeat (first | (with_reducible exact Ext.refl _) | (with_reducible refine Ext.undrew ?_) | (with_reducible refine Ext.grow ?_ _) | (with_reducible refine Ext.drew ?_) | (with_reducible refine Ext.drewN ?_ _) | (with_reducible refine Ext.alloc ?_ _) | (with_reducible assumption) | ((with_reducible refine Ext.setCell ?_ ?_ _); rotate_left; (first | exact Nat.le_refl _ | ((try dsimp only); (try simp only [World.size_alloc, grow_size, World.size_setCell]); omega)))))⟩
end asmNames

end Go.Proofs.YtdhpbofpomefoaaDoor
