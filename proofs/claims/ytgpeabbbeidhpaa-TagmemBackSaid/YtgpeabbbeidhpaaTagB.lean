/- Layer 7: begins, place, Tag, Strip. -/
import Derived.Test.YtgpeabbbeidhpaaTagA
namespace Go.Proofs.Ytgpeabbbeidhpaa
set_option linter.unusedSimpArgs false
set_option linter.unusedVariables false
open Go.RowKit

theorem t16 (x : Int) : (x % 16 == 0) = (x.tmod 16 == 0) := by
  have h : x % 16 = 0 ↔ x.tmod 16 = 0 := ⟨fun h => Int.tmod_eq_zero_of_dvd (Int.dvd_of_emod_eq_zero h), fun h => Int.emod_eq_zero_of_dvd (Int.dvd_of_tmod_eq_zero h)⟩
  rw [Bool.eq_iff_iff]; simp only [beq_iff_eq]; exact h
/-- A granule begins there. -/
def placeP (n : Nat) (x : Int) : Prop := x % 16 = 0 ∧ 0 ≤ x ∧ x + 16 ≤ 256 * (n : Int)
set_option maxRecDepth 100000 in
set_option maxHeartbeats 4000000 in
theorem tbegins_yes (q g n : Nat) (B : Nat → Int) (T D : Nat → Bool) (w : World) (h : Mm w q g n B T D) (x : Int) (hc : placeP n x) : Calls Try.prog 35 #[.pointer (some ⟨q, 0, none⟩), .int .i64 x] w fun e w' => e = .returned (.bool true) ∧ w = w' := by
  have HH := hid h
  have hbd := h.bd
  clear h
  have h0 : (x % 16 == 0) = true := by rw [beq_iff_eq]; exact hc.1
  have h1 : (x.tmod 16 == 0) = true := by rw [← t16]; exact h0
  have H1 := hid hc.2.1
  have H2 := hid hc.2.2
  clear hc
  go_enter Try.func35, Try.ntmps35
  go_wp2_with (go_at_call 41; refine (tspans_yes q g n B T D _ HH.out x 16 H1.out (by decide) (by have := H2.out; omega) (by have := H2.out; omega)).mono ?_; rintro e w1 ⟨rfl, rfl⟩)
  go_ret
  exact ⟨rfl, rfl⟩
set_option maxRecDepth 100000 in
set_option maxHeartbeats 4000000 in
theorem tbegins_no1 (q g n : Nat) (B : Nat → Int) (T D : Nat → Bool) (w : World) (h : Mm w q g n B T D) (x : Int) (hc : ¬ x % 16 = 0) : Calls Try.prog 35 #[.pointer (some ⟨q, 0, none⟩), .int .i64 x] w fun e w' => e = .returned (.bool false) ∧ w = w' := by
  have HH := hid h
  have hbd := h.bd
  clear h
  have h0 : (x % 16 == 0) = false := by rw [beq_eq_false_iff_ne]; exact hc
  have h1 : (x.tmod 16 == 0) = false := by rw [← t16]; exact h0
  clear hc
  go_enter Try.func35, Try.ntmps35
  go_wp2
  go_ret
  exact ⟨rfl, rfl⟩
set_option maxRecDepth 100000 in
set_option maxHeartbeats 4000000 in
theorem tbegins_no2 (q g n : Nat) (B : Nat → Int) (T D : Nat → Bool) (w : World) (h : Mm w q g n B T D) (x : Int) (hx : x % 16 = 0) (hc : ¬ spanP n x 16) : Calls Try.prog 35 #[.pointer (some ⟨q, 0, none⟩), .int .i64 x] w fun e w' => e = .returned (.bool false) ∧ w = w' := by
  have HH := hid h
  have hbd := h.bd
  clear h
  have h0 : (x % 16 == 0) = true := by rw [beq_iff_eq]; exact hx
  have h1 : (x.tmod 16 == 0) = true := by rw [← t16]; exact h0
  have HC := hid hc
  clear hc hx
  go_enter Try.func35, Try.ntmps35
  go_wp2_with (go_at_call 41; refine (tspans_no q g n B T D _ HH.out x 16 HC.out).mono ?_; rintro e w1 ⟨rfl, rfl⟩)
  go_ret
  exact ⟨rfl, rfl⟩
theorem tbegins_no (q g n : Nat) (B : Nat → Int) (T D : Nat → Bool) (w : World) (h : Mm w q g n B T D) (x : Int) (hc : ¬ placeP n x) : Calls Try.prog 35 #[.pointer (some ⟨q, 0, none⟩), .int .i64 x] w fun e w' => e = .returned (.bool false) ∧ w = w' := by
  by_cases hx : x % 16 = 0
  · exact tbegins_no2 q g n B T D w h x hx (fun c => hc ⟨hx, c.1, by have := c.2.2.2; omega⟩)
  · exact tbegins_no1 q g n B T D w h x hx
set_option maxRecDepth 100000 in
set_option maxHeartbeats 4000000 in
theorem tplace_ (q g n : Nat) (B : Nat → Int) (T D : Nat → Bool) (w : World) (h : Mm w q g n B T D) (x : Int) (p i : Nat) (h0 : 0 ≤ x) (hp : x / 256 = (p : Int)) (hi : x % 256 / 16 = (i : Int)) (hpn : p < n) : Calls Try.prog 37 #[.pointer (some ⟨q, 0, none⟩), .int .i64 x] w fun e w' => e = .returned (.tuple #[.pointer (some ⟨g, p * 273, none⟩), .int .i64 (i : Int)]) ∧ w = w' := by
  have c0 := h.c0
  have hlq := h.ltq
  have hbd := h.bd
  have hp0 : (0 : Int) ≤ (p : Int) := by omega
  have hp1 : (p : Int) < (n : Int) := by omega
  have HI := hid hi
  clear h hi
  go_enter Try.func37, Try.ntmps37
  go_wp2
  refine bodyPost_ret (v := .tuple #[.pointer (some ⟨g, p * 273, none⟩), .int .i64 (x % 256 / 16)]) (by simp [results, Try.results37, go_sem]) rfl ?_
  exact ⟨by rw [HI.out], rfl⟩
set_option maxRecDepth 100000 in
set_option maxHeartbeats 4000000 in
theorem ttag_yes (q g n : Nat) (B : Nat → Int) (T D : Nat → Bool) (w : World) (h : Mm w q g n B T D) (x : Int) (p i : Nat) (hpn : p < n) (hi16 : i < 16) (hx : x = 256 * (p : Int) + 16 * (i : Int)) : Calls Try.prog 29 #[.pointer (some ⟨q, 0, none⟩), .int .i64 x] w fun e w' => e = .returned (.bool (T (16 * p + i))) ∧ w = w' := by
  have HH := hid h
  have htg := h.tg p i hpn hi16
  have H0 : Hid (0 ≤ x) := hid (by omega)
  have HP : Hid (x / 256 = (p : Int)) := hid (by omega)
  have HI : Hid (x % 256 / 16 = (i : Int)) := hid (by omega)
  have HC : Hid (placeP n x) := hid ⟨by omega, by omega, by omega⟩
  have hi0 : (0 : Int) ≤ (i : Int) := by omega
  have hi1 : (i : Int) < 16 := by omega
  have hlg := h.ltg
  have hbd := h.bd
  clear h hx
  generalize T (16 * p + i) = tv at htg ⊢
  go_enter Try.func29, Try.ntmps29
  go_wp2_with (first | (go_at_call 35; refine (tbegins_yes q g n B T D _ HH.out x HC.out).mono ?_; rintro e w1 ⟨rfl, rfl⟩) | (go_at_call 37; refine (tplace_ q g n B T D _ HH.out x p i H0.out HP.out HI.out hpn).mono ?_; rintro e w1 ⟨rfl, rfl⟩))
  go_ret
  exact ⟨rfl, rfl⟩
set_option maxRecDepth 100000 in
set_option maxHeartbeats 4000000 in
theorem ttag_no (q g n : Nat) (B : Nat → Int) (T D : Nat → Bool) (w : World) (h : Mm w q g n B T D) (x : Int) (hc : ¬ placeP n x) : Calls Try.prog 29 #[.pointer (some ⟨q, 0, none⟩), .int .i64 x] w fun e w' => e = .returned (.bool false) ∧ w = w' := by
  have HH := hid h
  have HC := hid hc
  clear h hc
  go_enter Try.func29, Try.ntmps29
  go_wp2_with (go_at_call 35; refine (tbegins_no q g n B T D _ HH.out x HC.out).mono ?_; rintro e w1 ⟨rfl, rfl⟩)
  go_ret
  exact ⟨rfl, rfl⟩
set_option maxRecDepth 100000 in
set_option maxHeartbeats 4000000 in
theorem tstrip_yes (q g n : Nat) (B : Nat → Int) (T D : Nat → Bool) (w : World) (h : Mm w q g n B T D) (x : Int) (p i : Nat) (hpn : p < n) (hi16 : i < 16) (hx : x = 256 * (p : Int) + 16 * (i : Int)) (ht : T (16 * p + i) = true) : Calls Try.prog 14 #[.pointer (some ⟨q, 0, none⟩), .int .i64 x] w fun e w' => e = .returned (.bool true) ∧ Hid (Mm w' q g n B (upd1 T (16 * p + i) false) D) ∧ Hid (Only (· = g) w w') := by
  have HH := hid h
  have htg := h.tg p i hpn hi16
  have hfz := h.fz (p * 273 + 256 + i)
  have HM := hid (h.untag hpn hi16)
  have HO : Hid (Only (· = g) w (w.setCell ⟨g, p * 273 + 256 + i, none⟩ (.bool false))) := hid (Only.setCell (S := (· = g)) (Only.refl _ _) (.inl rfl) _)
  have H0 : Hid (0 ≤ x) := hid (by omega)
  have HP : Hid (x / 256 = (p : Int)) := hid (by omega)
  have HI : Hid (x % 256 / 16 = (i : Int)) := hid (by omega)
  have HC : Hid (placeP n x) := hid ⟨by omega, by omega, by omega⟩
  have hi0 : (0 : Int) ≤ (i : Int) := by omega
  have hi1 : (i : Int) < 16 := by omega
  have HX := hid hx
  have hlg := h.ltg
  have hbd := h.bd
  clear h hx
  rw [ht] at htg
  go_enter Try.func14, Try.ntmps14
  go_wp2_with (first | ((go_at_call 29; refine (ttag_yes q g n B T D _ HH.out x p i hpn hi16 HX.out).mono ?_; rintro e w1 ⟨rfl, rfl⟩); rw [ht]) | (go_at_call 37; refine (tplace_ q g n B T D _ HH.out x p i H0.out HP.out HI.out hpn).mono ?_; rintro e w1 ⟨rfl, rfl⟩))
  go_ret
  exact ⟨rfl, HM, HO⟩
set_option maxRecDepth 100000 in
set_option maxHeartbeats 4000000 in
theorem tstrip_no1 (q g n : Nat) (B : Nat → Int) (T D : Nat → Bool) (w : World) (h : Mm w q g n B T D) (x : Int) (p i : Nat) (hpn : p < n) (hi16 : i < 16) (hx : x = 256 * (p : Int) + 16 * (i : Int)) (ht : T (16 * p + i) = false) : Calls Try.prog 14 #[.pointer (some ⟨q, 0, none⟩), .int .i64 x] w fun e w' => e = .returned (.bool false) ∧ w = w' := by
  have HH := hid h
  have HX := hid hx
  clear h hx
  go_enter Try.func14, Try.ntmps14
  go_wp2_with ((go_at_call 29; refine (ttag_yes q g n B T D _ HH.out x p i hpn hi16 HX.out).mono ?_; rintro e w1 ⟨rfl, rfl⟩); rw [ht])
  go_ret
  exact ⟨rfl, rfl⟩
set_option maxRecDepth 100000 in
set_option maxHeartbeats 4000000 in
theorem tstrip_no2 (q g n : Nat) (B : Nat → Int) (T D : Nat → Bool) (w : World) (h : Mm w q g n B T D) (x : Int) (hc : ¬ placeP n x) : Calls Try.prog 14 #[.pointer (some ⟨q, 0, none⟩), .int .i64 x] w fun e w' => e = .returned (.bool false) ∧ w = w' := by
  have HH := hid h
  have HC := hid hc
  clear h hc
  go_enter Try.func14, Try.ntmps14
  go_wp2_with (go_at_call 29; refine (ttag_no q g n B T D _ HH.out x HC.out).mono ?_; rintro e w1 ⟨rfl, rfl⟩)
  go_ret
  exact ⟨rfl, rfl⟩

end Go.Proofs.Ytgpeabbbeidhpaa
