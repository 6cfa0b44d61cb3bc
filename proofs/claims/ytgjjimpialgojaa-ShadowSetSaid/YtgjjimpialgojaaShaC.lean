/- Layer 8: painting. -/
import Derived.Test.YtgjjimpialgojaaShaB
namespace Go.Proofs.Ytgjjimpialgojaa
set_option linter.unusedSimpArgs false
set_option linter.unusedVariables false
open Go.RowKit


/-- What Is tells of any address. -/
def isP (n : Nat) (P : Nat → Bool) (i : Int) : Bool := decide (0 ≤ i) && P (i.toNat / 16)
theorem is_ {p q n : Nat} {P : Nat → Bool} {w : World} (h : Sh w p q n P) (i : Int) (hib : i ≤ 9223372036854775807) :
    Calls Try.prog 15 #[.pointer (some ⟨p, 0, none⟩), .int .i64 i] w fun e w' => e = .returned (.bool (isP n P i)) ∧ w = w' := by
  by_cases hi : 0 ≤ i
  · obtain ⟨j, rfl⟩ := Int.eq_ofNat_of_zero_le hi
    by_cases hn : j / 16 < n
    · have := is_yes p q n (j / 16) j P w h hn rfl
      have e : isP n P (j : Int) = P (j / 16) := by unfold isP; simp
      rw [e]
      exact this
    · have := is_neg p q n (j : Int) w P h (.inr (by omega)) hib
      have e : isP n P (j : Int) = false := by unfold isP; rw [Int.toNat_natCast, h.out _ (by omega)]; simp
      rw [e]
      exact this
  · have := is_neg p q n i w P h (.inl (by omega)) hib
    have e : isP n P i = false := by unfold isP; simp [hi]
    rw [e]
    exact this
def hitsP (n : Nat) (P : Nat → Bool) (t : Bool) (b tp : Int) : Bool := t && (decide (b < tp) && isP n P b)
set_option maxHeartbeats 1000000 in
theorem hits_ (p q n : Nat) (P : Nat → Bool) (t : Bool) (b tp a pm ty : Int) (w : World) (h : Sh w p q n P) (hib : b ≤ 9223372036854775807) :
    Calls Try.prog 17 #[.pointer (some ⟨p, 0, none⟩), .agg #[.bool t, .int .i64 b, .int .i64 tp, .int .i64 a, .int .i64 pm, .int .i64 ty]] w fun e w' => e = .returned (.bool (hitsP n P t b tp)) ∧ Ext w w' := by
  have HH := hid h
  obtain ⟨B, hB⟩ : ∃ B, isP n P b = B := ⟨_, rfl⟩
  have HB := hid hB
  have hv : hitsP n P t b tp = (t && (decide (b < tp) && B)) := by unfold hitsP; rw [hB]
  rw [hv]
  clear hv hB h
  by_cases hlt : b < tp <;> cases t
  all_goals (go_enter Try.func17, Try.ntmps17; go_wp2_with (go_at_call 15; (with_reducible refine Calls.mono (is_ (HH.out.ext (by repeat (first | (with_reducible exact Ext.refl _) | (with_reducible refine Ext.undrew ?_) | (with_reducible refine Ext.grow ?_ _) | (with_reducible refine Ext.drew ?_) | (with_reducible refine Ext.drewN ?_ _) | (with_reducible refine Ext.alloc ?_ _) | (with_reducible assumption) | ((with_reducible refine Ext.setCell ?_ ?_ _); rotate_left; (first | exact Nat.le_refl _ | ((try dsimp only); (try simp only [World.size_alloc, grow_size, World.size_setCell]); omega)))))) b hib) ?_); rw [HB.out]; rintro e w1 ⟨rfl, rfl⟩))
  all_goals go_ret
  all_goals exact ⟨by simp <;> omega, (by repeat (first | (with_reducible exact Ext.refl _) | (with_reducible refine Ext.undrew ?_) | (with_reducible refine Ext.grow ?_ _) | (with_reducible refine Ext.drew ?_) | (with_reducible refine Ext.drewN ?_ _) | (with_reducible refine Ext.alloc ?_ _) | (with_reducible assumption) | ((with_reducible refine Ext.setCell ?_ ?_ _); rotate_left; (first | exact Nat.le_refl _ | ((try dsimp only); (try simp only [World.size_alloc, grow_size, World.size_setCell]); omega)))))⟩


def updR (P : Nat → Bool) (a k : Nat) (b : Bool) : Nat → Bool := fun x => if a ≤ x ∧ x < a + k then b else P x
theorem updR_zero (P : Nat → Bool) (a : Nat) (b : Bool) : updR P a 0 b = P := by funext x; unfold updR; rw [if_neg (by omega)]
theorem updR_succ (P : Nat → Bool) (a k : Nat) (b : Bool) : updP (updR P a k b) (a + k) b = updR P a (k + 1) b := by
  funext x
  unfold updP updR
  by_cases h1 : x = a + k
  · rw [if_pos h1, if_pos (by omega)]
  · rw [if_neg h1]
    by_cases h2 : a ≤ x ∧ x < a + k
    · rw [if_pos h2, if_pos (by omega)]
    · rw [if_neg h2, if_neg (by omega)]
/-- May these be painted? -/
def fineP (n : Nat) (f t : Int) : Bool := decide (f % 16 = 0) && (decide (t % 16 = 0) && (decide (0 ≤ f) && (decide (f ≤ t) && decide (t ≤ 16 * (n : Int)))))
def paintP (n : Nat) (P : Nat → Bool) (f t : Int) (b : Bool) : Nat → Bool := if fineP n f t then updR P (f.toNat / 16) ((t.toNat - f.toNat) / 16) b else P
set_option maxHeartbeats 1000000 in
theorem paint_go_true (p q n F K : Nat) (P : Nat → Bool) (w : World) (h : Sh w p q n P) (hK : F + K ≤ n) :
    Calls Try.prog 11 #[.pointer (some ⟨p, 0, none⟩), .int .i64 (16 * (F : Int)), .int .i64 (16 * ((F : Int) + (K : Int))), .bool true] w fun e w' => e = .returned (.bool true) ∧ Sh w' p q n (updR P F K true) ∧ Only (· = q) w w' := by
  have h0 := h.c0
  have hlp := h.ltp
  have hbd := h.bd
  have HH := hid h
  have hF0 : (0 : Int) ≤ (F : Int) := by omega
  have hFK : (F : Int) + (K : Int) ≤ 1048576 := by omega
  clear h
  have r1 : (16 * (F : Int)).tmod 16 = 0 := by rw [Int.tmod_eq_emod_of_nonneg (by omega)]; omega
  have r2 : (16 * ((F : Int) + (K : Int))).tmod 16 = 0 := by rw [Int.tmod_eq_emod_of_nonneg (by omega)]; omega
  have q1 : (16 * (F : Int)).tdiv 16 = (F : Int) := by rw [Int.tdiv_eq_ediv_of_nonneg (by omega)]; omega
  have q2 : (16 * (K : Int)).tdiv 16 = (K : Int) := by rw [Int.tdiv_eq_ediv_of_nonneg (by omega)]; omega
  have s1 : 16 * ((F : Int) + (K : Int)) - 16 * (F : Int) = 16 * (K : Int) := by omega
  have g1 : 16 * (F : Int) ≤ 16 * ((F : Int) + (K : Int)) := by omega
  have g2 : 16 * ((F : Int) + (K : Int)) ≤ (n : Int) * 16 := by omega
  have g3 : 0 ≤ 16 * (F : Int) := by omega
  go_enter Try.func11, Try.ntmps11
  go_wp2
  go_loopw [10, 43] (fun z iv wr => ∃ k : Nat, k ≤ K ∧ iv = .int .i64 (k : Int) ∧ Hid (Sh wr p q n (updR P F k true)) ∧ Hid (Only (· = q) w wr)) (fun _ iv _ => K - (intOf iv).toNat)
  case atStart => exact ⟨0, Nat.zero_le _, rfl, hid (by rw [updR_zero]; exact HH.out), hid (Only.refl _ _)⟩
  case round =>
    obtain ⟨k, hk, rfl, hs, hx⟩ := hrel
    by_cases hlt : k < K
    · have hk0 : (0 : Int) ≤ (k : Int) := by omega
      have hk1 : (k : Int) < (K : Int) := by omega
      obtain ⟨g, hg⟩ : ∃ g : Nat, F + k = g := ⟨_, rfl⟩
      have hgb : (g : Int) ≤ 1048576 := by omega
      have HSUM := hid (show (F : Int) + (k : Int) = (g : Int) by omega)
      have HLT := hid (show g < n by omega)
      have HS2 := hid (hs.out.set HLT.out true)
      have HP := hid (show updP (updR P F k true) g true = updR P F (k + 1) true by rw [← hg]; exact updR_succ P F k true)
      rw [HP.out] at HS2
      have HX2 := hid (Only.setCell (S := (· = q)) hx.out (b := q) (o := g / 64) (.inl rfl) (.int .u64 (wordP (updR P F (k + 1) true) (g / 64) : Int)))
      clear hg hgb
      go_wp2_with fail
      rw [HSUM.out]
      refine Calls.mono (paint_true p q n g (updR P F k true) _ hs.out HLT.out) ?_
      rw [HP.out]
      rintro e w1 ⟨rfl, rfl⟩
      go_wp2
      go_roundw
      case rel => exact ⟨k + 1, by omega, by first | rfl | go_num, HS2, HX2⟩
      case measure => first | (simp [intOf]; done) | (simp [intOf]; omega)
    · obtain rfl : k = K := by omega
      go_wp2
      go_ret
      exact ⟨rfl, hs.out, hx.out⟩

set_option maxHeartbeats 1000000 in
theorem paint_go_false (p q n F K : Nat) (P : Nat → Bool) (w : World) (h : Sh w p q n P) (hK : F + K ≤ n) :
    Calls Try.prog 11 #[.pointer (some ⟨p, 0, none⟩), .int .i64 (16 * (F : Int)), .int .i64 (16 * ((F : Int) + (K : Int))), .bool false] w fun e w' => e = .returned (.bool true) ∧ Sh w' p q n (updR P F K false) ∧ Only (· = q) w w' := by
  have h0 := h.c0
  have hlp := h.ltp
  have hbd := h.bd
  have HH := hid h
  have hF0 : (0 : Int) ≤ (F : Int) := by omega
  have hFK : (F : Int) + (K : Int) ≤ 1048576 := by omega
  clear h
  have r1 : (16 * (F : Int)).tmod 16 = 0 := by rw [Int.tmod_eq_emod_of_nonneg (by omega)]; omega
  have r2 : (16 * ((F : Int) + (K : Int))).tmod 16 = 0 := by rw [Int.tmod_eq_emod_of_nonneg (by omega)]; omega
  have q1 : (16 * (F : Int)).tdiv 16 = (F : Int) := by rw [Int.tdiv_eq_ediv_of_nonneg (by omega)]; omega
  have q2 : (16 * (K : Int)).tdiv 16 = (K : Int) := by rw [Int.tdiv_eq_ediv_of_nonneg (by omega)]; omega
  have s1 : 16 * ((F : Int) + (K : Int)) - 16 * (F : Int) = 16 * (K : Int) := by omega
  have g1 : 16 * (F : Int) ≤ 16 * ((F : Int) + (K : Int)) := by omega
  have g2 : 16 * ((F : Int) + (K : Int)) ≤ (n : Int) * 16 := by omega
  have g3 : 0 ≤ 16 * (F : Int) := by omega
  go_enter Try.func11, Try.ntmps11
  go_wp2
  go_loopw [10, 43] (fun z iv wr => ∃ k : Nat, k ≤ K ∧ iv = .int .i64 (k : Int) ∧ Hid (Sh wr p q n (updR P F k false)) ∧ Hid (Only (· = q) w wr)) (fun _ iv _ => K - (intOf iv).toNat)
  case atStart => exact ⟨0, Nat.zero_le _, rfl, hid (by rw [updR_zero]; exact HH.out), hid (Only.refl _ _)⟩
  case round =>
    obtain ⟨k, hk, rfl, hs, hx⟩ := hrel
    by_cases hlt : k < K
    · have hk0 : (0 : Int) ≤ (k : Int) := by omega
      have hk1 : (k : Int) < (K : Int) := by omega
      obtain ⟨g, hg⟩ : ∃ g : Nat, F + k = g := ⟨_, rfl⟩
      have hgb : (g : Int) ≤ 1048576 := by omega
      have HSUM := hid (show (F : Int) + (k : Int) = (g : Int) by omega)
      have HLT := hid (show g < n by omega)
      have HS2 := hid (hs.out.set HLT.out false)
      have HP := hid (show updP (updR P F k false) g false = updR P F (k + 1) false by rw [← hg]; exact updR_succ P F k false)
      rw [HP.out] at HS2
      have HX2 := hid (Only.setCell (S := (· = q)) hx.out (b := q) (o := g / 64) (.inl rfl) (.int .u64 (wordP (updR P F (k + 1) false) (g / 64) : Int)))
      clear hg hgb
      go_wp2_with fail
      rw [HSUM.out]
      refine Calls.mono (paint_false p q n g (updR P F k false) _ hs.out HLT.out) ?_
      rw [HP.out]
      rintro e w1 ⟨rfl, rfl⟩
      go_wp2
      go_roundw
      case rel => exact ⟨k + 1, by omega, by first | rfl | go_num, HS2, HX2⟩
      case measure => first | (simp [intOf]; done) | (simp [intOf]; omega)
    · obtain rfl : k = K := by omega
      go_wp2
      go_ret
      exact ⟨rfl, hs.out, hx.out⟩


theorem tmod_eq {x : Int} (h : x % 16 = 0) : x.tmod 16 = 0 := Int.tmod_eq_zero_of_dvd (Int.dvd_of_emod_eq_zero h)
theorem tmod_ne {x : Int} (h : ¬ x % 16 = 0) : ¬ x.tmod 16 = 0 := fun e => h (Int.emod_eq_zero_of_dvd (Int.dvd_of_tmod_eq_zero e))
set_option maxHeartbeats 1000000 in
theorem paint_no1 (p q n : Nat) (P : Nat → Bool) (f t : Int) (b : Bool) (w : World) (h : Sh w p q n P) (h1 : ¬ f % 16 = 0) :
    Calls Try.prog 11 #[.pointer (some ⟨p, 0, none⟩), .int .i64 f, .int .i64 t, .bool b] w fun e w' => e = .returned (.bool false) ∧ w = w' := by
  have h0 := h.c0
  have hlp := h.ltp
  have hbd := h.bd
  have r1 : ¬ f.tmod 16 = 0 := tmod_ne h1
  clear h
  go_enter Try.func11, Try.ntmps11
  go_wp2
  go_ret
  exact ⟨rfl, rfl⟩

set_option maxHeartbeats 1000000 in
theorem paint_no2 (p q n : Nat) (P : Nat → Bool) (f t : Int) (b : Bool) (w : World) (h : Sh w p q n P) (h1 : f % 16 = 0) (h2 : ¬ t % 16 = 0) :
    Calls Try.prog 11 #[.pointer (some ⟨p, 0, none⟩), .int .i64 f, .int .i64 t, .bool b] w fun e w' => e = .returned (.bool false) ∧ w = w' := by
  have h0 := h.c0
  have hlp := h.ltp
  have hbd := h.bd
  have r1 : f.tmod 16 = 0 := tmod_eq h1
  have r2 : ¬ t.tmod 16 = 0 := tmod_ne h2
  clear h
  go_enter Try.func11, Try.ntmps11
  go_wp2
  go_ret
  exact ⟨rfl, rfl⟩

set_option maxHeartbeats 1000000 in
theorem paint_no3 (p q n : Nat) (P : Nat → Bool) (f t : Int) (b : Bool) (w : World) (h : Sh w p q n P) (h1 : f % 16 = 0) (h2 : t % 16 = 0) (h3 : f < 0) :
    Calls Try.prog 11 #[.pointer (some ⟨p, 0, none⟩), .int .i64 f, .int .i64 t, .bool b] w fun e w' => e = .returned (.bool false) ∧ w = w' := by
  have h0 := h.c0
  have hlp := h.ltp
  have hbd := h.bd
  have r1 : f.tmod 16 = 0 := tmod_eq h1
  have r2 : t.tmod 16 = 0 := tmod_eq h2
  clear h
  go_enter Try.func11, Try.ntmps11
  go_wp2
  go_ret
  exact ⟨rfl, rfl⟩

set_option maxHeartbeats 1000000 in
theorem paint_no4 (p q n : Nat) (P : Nat → Bool) (f t : Int) (b : Bool) (w : World) (h : Sh w p q n P) (h1 : f % 16 = 0) (h2 : t % 16 = 0) (h3 : ¬ f < 0) (h4 : t < f) :
    Calls Try.prog 11 #[.pointer (some ⟨p, 0, none⟩), .int .i64 f, .int .i64 t, .bool b] w fun e w' => e = .returned (.bool false) ∧ w = w' := by
  have h0 := h.c0
  have hlp := h.ltp
  have hbd := h.bd
  have r1 : f.tmod 16 = 0 := tmod_eq h1
  have r2 : t.tmod 16 = 0 := tmod_eq h2
  clear h
  go_enter Try.func11, Try.ntmps11
  go_wp2
  go_ret
  exact ⟨rfl, rfl⟩

set_option maxHeartbeats 1000000 in
theorem paint_no5 (p q n : Nat) (P : Nat → Bool) (f t : Int) (b : Bool) (w : World) (h : Sh w p q n P) (h1 : f % 16 = 0) (h2 : t % 16 = 0) (h3 : ¬ f < 0) (h4 : ¬ t < f) (h5 : (n : Int) * 16 < t) :
    Calls Try.prog 11 #[.pointer (some ⟨p, 0, none⟩), .int .i64 f, .int .i64 t, .bool b] w fun e w' => e = .returned (.bool false) ∧ w = w' := by
  have h0 := h.c0
  have hlp := h.ltp
  have hbd := h.bd
  have r1 : f.tmod 16 = 0 := tmod_eq h1
  have r2 : t.tmod 16 = 0 := tmod_eq h2
  clear h
  go_enter Try.func11, Try.ntmps11
  go_wp2
  go_ret
  exact ⟨rfl, rfl⟩


theorem paint_any {p q n : Nat} {P : Nat → Bool} {w : World} (h : Sh w p q n P) (f t : Int) (b : Bool) :
    Calls Try.prog 11 #[.pointer (some ⟨p, 0, none⟩), .int .i64 f, .int .i64 t, .bool b] w fun e w' => e = .returned (.bool (fineP n f t)) ∧ Sh w' p q n (paintP n P f t b) ∧ Only (· = q) w w' := by
  cases hf : fineP n f t with
  | false =>
    have hp : paintP n P f t b = P := by unfold paintP; rw [hf]; rfl
    rw [hp]
    have key : Calls Try.prog 11 #[.pointer (some ⟨p, 0, none⟩), .int .i64 f, .int .i64 t, .bool b] w fun e w' => e = .returned (.bool false) ∧ w = w' := by
      by_cases h1 : f % 16 = 0
      · by_cases h2 : t % 16 = 0
        · by_cases h3 : f < 0
          · exact paint_no3 p q n P f t b w h h1 h2 h3
          · by_cases h4 : t < f
            · exact paint_no4 p q n P f t b w h h1 h2 h3 h4
            · by_cases h5 : (n : Int) * 16 < t
              · exact paint_no5 p q n P f t b w h h1 h2 h3 h4 h5
              · exfalso
                unfold fineP at hf
                simp [h1, h2] at hf
                omega
        · exact paint_no2 p q n P f t b w h h1 h2
      · exact paint_no1 p q n P f t b w h h1
    exact key.mono fun e w' ⟨h1, h2⟩ => ⟨h1, h2 ▸ h, h2 ▸ Only.refl _ _⟩
  | true =>
    have hp : paintP n P f t b = updR P (f.toNat / 16) ((t.toNat - f.toNat) / 16) b := by unfold paintP; rw [hf]; rfl
    rw [hp]
    unfold fineP at hf
    simp only [Bool.and_eq_true, decide_eq_true_eq] at hf
    obtain ⟨h1, h2, h3, h4, h5⟩ := hf
    have e1 : f = 16 * ((f.toNat / 16 : Nat) : Int) := by omega
    have e2 : t = 16 * (((f.toNat / 16 : Nat) : Int) + (((t.toNat - f.toNat) / 16 : Nat) : Int)) := by omega
    have hK : f.toNat / 16 + (t.toNat - f.toNat) / 16 ≤ n := by omega
    generalize f.toNat / 16 = F at e1 e2 hK ⊢
    generalize (t.toNat - f.toNat) / 16 = K at e2 hK ⊢
    subst e1 e2
    cases b
    · exact paint_go_false p q n F K P w h hK
    · exact paint_go_true p q n F K P w h hK

end Go.Proofs.Ytgjjimpialgojaa
