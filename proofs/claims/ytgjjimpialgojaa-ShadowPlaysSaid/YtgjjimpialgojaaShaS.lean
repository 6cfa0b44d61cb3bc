/- Layer 8: the document's painting. -/
import Derived.Test.YtgjjimpialgojaaShaR
namespace Go.Proofs.Ytgjjimpialgojaa
set_option linter.unusedSimpArgs false
set_option linter.unusedVariables false
open Go.RowKit

set_option maxHeartbeats 1000000 in
theorem rpaint_go (p q n F K : Nat) (P : Nat → Bool) (b : Bool) (w : World) (h : Rf w p q n P) (hK : F + K ≤ n) :
    Calls Try.prog 12 #[.pointer (some ⟨p, 0, none⟩), .int .i64 (16 * (F : Int)), .int .i64 (16 * ((F : Int) + (K : Int))), .bool b] w fun e w' => e = .returned (.bool true) ∧ Rf w' p q n (updR P F K b) ∧ Only (· = q) w w' := by
  have h0 := h.c0
  have hlp := h.ltp
  have hbd := h.bd
  have HH := hid h
  have hF0 : (0 : Int) ≤ (F : Int) := by omega
  have hFK : (F : Int) + (K : Int) ≤ 1048576 := by omega
  clear h
  have r1 : (16 * (F : Int)).tmod 16 = 0 := by rw [Int.tmod_eq_emod_of_nonneg (by omega)]; omega
  have r2 : (16 * ((F : Int) + (K : Int))).tmod 16 = 0 := by rw [Int.tmod_eq_emod_of_nonneg (by omega)]; omega
  have q1 : (16 * (F : Int)).tdiv 16 = (F : Int) := by rw [Int.tdiv_eq_ediv_of_nonneg (by omega)]; omega
  have q2 : (16 * ((F : Int) + (K : Int))).tdiv 16 = (F : Int) + (K : Int) := by rw [Int.tdiv_eq_ediv_of_nonneg (by omega)]; omega
  have g1 : 16 * (F : Int) ≤ 16 * ((F : Int) + (K : Int)) := by omega
  have g2 : 16 * ((F : Int) + (K : Int)) ≤ 16 * (n : Int) := by omega
  have g3 : 0 ≤ 16 * (F : Int) := by omega
  go_enter Try.func12, Try.ntmps12
  go_wp2
  go_loopw [9] (fun iv wr => ∃ k : Nat, k ≤ K ∧ iv = .int .i64 ((F : Int) + (k : Int)) ∧ Hid (Rf wr p q n (updR P F k b)) ∧ Hid (Only (· = q) w wr)) (fun iv _ => F + K - (intOf iv).toNat)
  case atStart => exact ⟨0, Nat.zero_le _, by simp, hid (by rw [updR_zero]; exact HH.out), hid (Only.refl _ _)⟩
  case round =>
    obtain ⟨k, hk, rfl, hs, hx⟩ := hrel
    have h0 := hs.out.c0
    have hlp := hs.out.ltp
    have hlq := hs.out.ltq
    by_cases hlt : k < K
    · have hk0 : (0 : Int) ≤ (k : Int) := by omega
      have hk1 : (k : Int) < (K : Int) := by omega
      obtain ⟨g, hg⟩ : ∃ g : Nat, F + k = g := ⟨_, rfl⟩
      have hgb : (g : Int) < (n : Int) := by omega
      have hg0 : (0 : Int) ≤ (g : Int) := by omega
      have HSUM := hid (show (F : Int) + (k : Int) = (g : Int) by omega)
      have hgl : (g : Int) < ((F : Int) + (K : Int)) := by omega
      have HLT := hid (show g < n by omega)
      obtain ⟨hc, hf⟩ := hs.out.grans g HLT.out
      have HS2 := hid (hs.out.set HLT.out b)
      have HP := hid (show updP (updR P F k b) g b = updR P F (k + 1) b by rw [← hg]; exact updR_succ P F k b)
      rw [HP.out] at HS2
      have HX2 := hid (Only.setCell (S := (· = q)) hx.out (b := q) (o := g) (.inl rfl) (.bool b))
      have HAD := hid (show (g : Int) + 1 = (F : Int) + ((k + 1 : Nat) : Int) by omega)
      have HME := hid (show F + K - (g + 1) < F + K - g by omega)
      rw [HSUM.out]
      clear hg
      go_wp2
      go_roundw
      case rel => exact ⟨k + 1, by omega, by rw [← HAD.out], HS2, HX2⟩
      case measure => have := HME.out; simp only [intOf]; omega
    · obtain rfl : k = K := by omega
      go_wp2
      go_ret
      exact ⟨rfl, hs.out, hx.out⟩

set_option maxHeartbeats 1000000 in
theorem rpaint_no1 (p q n : Nat) (P : Nat → Bool) (f t : Int) (b : Bool) (w : World) (h : Rf w p q n P) (h1 : ¬ f % 16 = 0) :
    Calls Try.prog 12 #[.pointer (some ⟨p, 0, none⟩), .int .i64 f, .int .i64 t, .bool b] w fun e w' => e = .returned (.bool false) ∧ w = w' := by
  have h0 := h.c0
  have hlp := h.ltp
  have hbd := h.bd
  have r1 : ¬ f.tmod 16 = 0 := tmod_ne h1
  clear h
  go_enter Try.func12, Try.ntmps12
  go_wp2
  go_ret
  exact ⟨rfl, rfl⟩

set_option maxHeartbeats 1000000 in
theorem rpaint_no2 (p q n : Nat) (P : Nat → Bool) (f t : Int) (b : Bool) (w : World) (h : Rf w p q n P) (h1 : f % 16 = 0) (h2 : ¬ t % 16 = 0) :
    Calls Try.prog 12 #[.pointer (some ⟨p, 0, none⟩), .int .i64 f, .int .i64 t, .bool b] w fun e w' => e = .returned (.bool false) ∧ w = w' := by
  have h0 := h.c0
  have hlp := h.ltp
  have hbd := h.bd
  have r1 : f.tmod 16 = 0 := tmod_eq h1
  have r2 : ¬ t.tmod 16 = 0 := tmod_ne h2
  clear h
  go_enter Try.func12, Try.ntmps12
  go_wp2
  go_ret
  exact ⟨rfl, rfl⟩

set_option maxHeartbeats 1000000 in
theorem rpaint_no3 (p q n : Nat) (P : Nat → Bool) (f t : Int) (b : Bool) (w : World) (h : Rf w p q n P) (h1 : f % 16 = 0) (h2 : t % 16 = 0) (h3 : f < 0) :
    Calls Try.prog 12 #[.pointer (some ⟨p, 0, none⟩), .int .i64 f, .int .i64 t, .bool b] w fun e w' => e = .returned (.bool false) ∧ w = w' := by
  have h0 := h.c0
  have hlp := h.ltp
  have hbd := h.bd
  have r1 : f.tmod 16 = 0 := tmod_eq h1
  have r2 : t.tmod 16 = 0 := tmod_eq h2
  clear h
  go_enter Try.func12, Try.ntmps12
  go_wp2
  go_ret
  exact ⟨rfl, rfl⟩

set_option maxHeartbeats 1000000 in
theorem rpaint_no4 (p q n : Nat) (P : Nat → Bool) (f t : Int) (b : Bool) (w : World) (h : Rf w p q n P) (h1 : f % 16 = 0) (h2 : t % 16 = 0) (h3 : ¬ f < 0) (h4 : t < f) :
    Calls Try.prog 12 #[.pointer (some ⟨p, 0, none⟩), .int .i64 f, .int .i64 t, .bool b] w fun e w' => e = .returned (.bool false) ∧ w = w' := by
  have h0 := h.c0
  have hlp := h.ltp
  have hbd := h.bd
  have r1 : f.tmod 16 = 0 := tmod_eq h1
  have r2 : t.tmod 16 = 0 := tmod_eq h2
  clear h
  go_enter Try.func12, Try.ntmps12
  go_wp2
  go_ret
  exact ⟨rfl, rfl⟩

set_option maxHeartbeats 1000000 in
theorem rpaint_no5 (p q n : Nat) (P : Nat → Bool) (f t : Int) (b : Bool) (w : World) (h : Rf w p q n P) (h1 : f % 16 = 0) (h2 : t % 16 = 0) (h3 : ¬ f < 0) (h4 : ¬ t < f) (h5 : 16 * (n : Int) < t) :
    Calls Try.prog 12 #[.pointer (some ⟨p, 0, none⟩), .int .i64 f, .int .i64 t, .bool b] w fun e w' => e = .returned (.bool false) ∧ w = w' := by
  have h0 := h.c0
  have hlp := h.ltp
  have hbd := h.bd
  have r1 : f.tmod 16 = 0 := tmod_eq h1
  have r2 : t.tmod 16 = 0 := tmod_eq h2
  clear h
  go_enter Try.func12, Try.ntmps12
  go_wp2
  go_ret
  exact ⟨rfl, rfl⟩


theorem rpaint_any {p q n : Nat} {P : Nat → Bool} {w : World} (h : Rf w p q n P) (f t : Int) (b : Bool) :
    Calls Try.prog 12 #[.pointer (some ⟨p, 0, none⟩), .int .i64 f, .int .i64 t, .bool b] w fun e w' => e = .returned (.bool (fineP n f t)) ∧ Rf w' p q n (paintP n P f t b) ∧ Only (· = q) w w' := by
  cases hf : fineP n f t with
  | false =>
    have hp : paintP n P f t b = P := by unfold paintP; rw [hf]; rfl
    rw [hp]
    have key : Calls Try.prog 12 #[.pointer (some ⟨p, 0, none⟩), .int .i64 f, .int .i64 t, .bool b] w fun e w' => e = .returned (.bool false) ∧ w = w' := by
      by_cases h1 : f % 16 = 0
      · by_cases h2 : t % 16 = 0
        · by_cases h3 : f < 0
          · exact rpaint_no3 p q n P f t b w h h1 h2 h3
          · by_cases h4 : t < f
            · exact rpaint_no4 p q n P f t b w h h1 h2 h3 h4
            · by_cases h5 : 16 * (n : Int) < t
              · exact rpaint_no5 p q n P f t b w h h1 h2 h3 h4 h5
              · exfalso
                unfold fineP at hf
                simp [h1, h2] at hf
                omega
        · exact rpaint_no2 p q n P f t b w h h1 h2
      · exact rpaint_no1 p q n P f t b w h h1
    exact key.mono fun e w' ⟨h1, h2⟩ => ⟨h1, h2 ▸ h, h2 ▸ Only.refl _ _⟩
  | true =>
    have hp : paintP n P f t b = updR P (f.toNat / 16) ((t.toNat - f.toNat) / 16) b := by unfold paintP; rw [hf]; rfl
    rw [hp]
    unfold fineP at hf
    simp only [Bool.and_eq_true, decide_eq_true_eq] at hf
    obtain ⟨h1, h2, h3, h4, h5⟩ := hf
    have e1 : f = 16 * ((f.toNat / 16 : Nat) : Int) := by omega
    have e2 : t = 16 * (((f.toNat / 16 : Nat) : Int) + (((t.toNat - f.toNat) / 16 : Nat) : Int)) := by omega
    have hK : f.toNat / 16 + (t.toNat - f.toNat) / 16 ≤ n := by omega
    generalize f.toNat / 16 = F at e1 e2 hK ⊢
    generalize (t.toNat - f.toNat) / 16 = K at e2 hK ⊢
    subst e1 e2
    exact rpaint_go p q n F K P b w h hK

end Go.Proofs.Ytgjjimpialgojaa
