/- Layer 1: the document's text. -/
import Derived.Test.YtgjnobjoijehaaaOneP
import Derived.Test.YtgjnobjoijehaaaRefA
namespace Go.Proofs.Ytgjnobjoijehaaa
set_option linter.unusedSimpArgs false
set_option linter.unusedVariables false
open Go.RowKit


theorem bit_has : ∀ p : Fin 128, ∀ k : Fin 7, bitB (p.val : Int) k.val = hasB (p.val : Int) (wrap64 (2 ^ k.val)) := by decide +kernel
theorem bit_has' {p : Int} (hp : rightB p = true) {k : Nat} (hk : k < 7) : bitB p k = hasB p (wrap64 (2 ^ k)) := by
  obtain ⟨h0, h1⟩ := rightB_iff.1 hp
  obtain ⟨n, rfl⟩ := Int.eq_ofNat_of_zero_le h0
  exact bit_has ⟨n, by omega⟩ ⟨k, hk⟩
theorem textTo_ne : ∀ p : Fin 128, p.val ≠ 0 → textTo (p.val : Int) 7 ≠ [] := by decide +kernel
theorem textTo_zero : textTo 0 7 = [] := by decide +kernel
theorem ext_letter : ∀ k : Fin 7, ((⟨#[114, 119, 120, 108, 115, 101, 117]⟩ : ByteArray).extract k.val (k.val + 1)).data.toList = [letter k.val] := by decide +kernel
theorem str_letter (l : List UInt8) (k : Nat) (hk : k < 7) : (⟨l.toArray⟩ : ByteArray) ++ (⟨#[114, 119, 120, 108, 115, 101, 117]⟩ : ByteArray).extract k (k + 1) = ⟨(l ++ [letter k]).toArray⟩ := by
  have h := ext_letter ⟨k, hk⟩
  simp only at h
  apply ByteArray.ext
  apply Array.ext'
  rw [ByteArray.data_append, Array.toList_append, h]
theorem str_snoc (l : List UInt8) (b : UInt8) : (⟨l.toArray⟩ : ByteArray) ++ (⟨#[b]⟩ : ByteArray) = ⟨(l ++ [b]).toArray⟩ := by
  apply ByteArray.ext
  simp
set_option maxHeartbeats 4000000 in
theorem rtext (p : Int) (w : World) :
    Calls Try.prog 18 #[.int .i64 p] w fun e w' => e = .returned (.string ⟨(textB p).toArray⟩) ∧ w = w' := by
  cases hr : rightB p
  · have ht : textB p = [] := by simp [textB, hr]
    rw [ht]
    have HR := hid hr
    clear hr ht
    go_enter Try.func18, Try.ntmps18
    go_wp2_with (go_at_call 14; refine (rright _ _).mono ?_; rw [HR.out]; rintro e w' ⟨rfl, rfl⟩)
    go_ret
    exact ⟨rfl, rfl⟩
  · have HR := hid hr
    have HT := hid (show textB p = if p = 0 then [45] else textTo p 7 by simp [textB, hr])
    have HE := hid (show (textTo p 7).isEmpty = decide (p = 0) by
      obtain ⟨h0, h1⟩ := rightB_iff.1 hr
      obtain ⟨n, rfl⟩ := Int.eq_ofNat_of_zero_le h0
      by_cases hn : n = 0
      · subst hn
        rw [show ((0 : Nat) : Int) = 0 from rfl, textTo_zero]
        rfl
      · have := textTo_ne ⟨n, by omega⟩ hn
        simp only at this
        rw [List.isEmpty_eq_false_iff.2 this]
        symm
        simpa using hn)
    rw [HT.out]
    clear hr
    go_enter Try.func18, Try.ntmps18
    go_wp2_with (go_at_call 14; refine (rright _ _).mono ?_; rw [HR.out]; rintro e w' ⟨rfl, rfl⟩)
    go_loop [3, 4] (fun s i => ∃ k : Nat, k ≤ 7 ∧ i = .int .i64 k ∧ s = .string ⟨(textTo p k).toArray⟩) (fun _ i => 7 - (intOf i).toNat)
    case atStart => exact ⟨0, Nat.zero_le _, rfl, rfl⟩
    case round =>
      obtain ⟨k, hk, rfl, rfl⟩ := hrel
      rcases (show k = 0 ∨ k = 1 ∨ k = 2 ∨ k = 3 ∨ k = 4 ∨ k = 5 ∨ k = 6 ∨ k = 7 by omega) with rfl | rfl | rfl | rfl | rfl | rfl | rfl | rfl
      · skip
        cases hb : hasB p (wrap64 (2 ^ 0)) with
        | true =>
          have HB := hid ((bit_has' HR.out (show 0 < 7 by omega)).trans hb)
          have HS := hid (textTo_succ p 0)
          rw [hb] at HS
          have hlen : ¬ 9223372036854775807 < (textTo p 0).length + 1 := by have := textTo_len p 0; omega
          clear hb
          go_wp2_with (go_at_call 24; refine (rbit p 0 (by omega) _).mono ?_; rw [HB.out]; rintro e w' ⟨rfl, rfl⟩)
          go_round
          case rel => exact ⟨1, by omega, by first | rfl | go_num, by rw [HS.out]; first | rfl | (rw [if_pos trivial, str_letter _ 0 (by omega)]) | simp⟩
          case measure => simp [intOf]
        | false =>
          have HB := hid ((bit_has' HR.out (show 0 < 7 by omega)).trans hb)
          have HS := hid (textTo_succ p 0)
          rw [hb] at HS
          have hlen : ¬ 9223372036854775807 < (textTo p 0).length + 1 := by have := textTo_len p 0; omega
          clear hb
          go_wp2_with (go_at_call 24; refine (rbit p 0 (by omega) _).mono ?_; rw [HB.out]; rintro e w' ⟨rfl, rfl⟩)
          go_round
          case rel => exact ⟨1, by omega, by first | rfl | go_num, by rw [HS.out]; first | rfl | (rw [if_pos trivial, str_letter _ 0 (by omega)]) | simp⟩
          case measure => simp [intOf]
      · skip
        cases hb : hasB p (wrap64 (2 ^ 1)) with
        | true =>
          have HB := hid ((bit_has' HR.out (show 1 < 7 by omega)).trans hb)
          have HS := hid (textTo_succ p 1)
          rw [hb] at HS
          have hlen : ¬ 9223372036854775807 < (textTo p 1).length + 1 := by have := textTo_len p 1; omega
          clear hb
          go_wp2_with (go_at_call 24; refine (rbit p 1 (by omega) _).mono ?_; rw [HB.out]; rintro e w' ⟨rfl, rfl⟩)
          go_round
          case rel => exact ⟨2, by omega, by first | rfl | go_num, by rw [HS.out]; first | rfl | (rw [if_pos trivial, str_letter _ 1 (by omega)]) | simp⟩
          case measure => simp [intOf]
        | false =>
          have HB := hid ((bit_has' HR.out (show 1 < 7 by omega)).trans hb)
          have HS := hid (textTo_succ p 1)
          rw [hb] at HS
          have hlen : ¬ 9223372036854775807 < (textTo p 1).length + 1 := by have := textTo_len p 1; omega
          clear hb
          go_wp2_with (go_at_call 24; refine (rbit p 1 (by omega) _).mono ?_; rw [HB.out]; rintro e w' ⟨rfl, rfl⟩)
          go_round
          case rel => exact ⟨2, by omega, by first | rfl | go_num, by rw [HS.out]; first | rfl | (rw [if_pos trivial, str_letter _ 1 (by omega)]) | simp⟩
          case measure => simp [intOf]
      · skip
        cases hb : hasB p (wrap64 (2 ^ 2)) with
        | true =>
          have HB := hid ((bit_has' HR.out (show 2 < 7 by omega)).trans hb)
          have HS := hid (textTo_succ p 2)
          rw [hb] at HS
          have hlen : ¬ 9223372036854775807 < (textTo p 2).length + 1 := by have := textTo_len p 2; omega
          clear hb
          go_wp2_with (go_at_call 24; refine (rbit p 2 (by omega) _).mono ?_; rw [HB.out]; rintro e w' ⟨rfl, rfl⟩)
          go_round
          case rel => exact ⟨3, by omega, by first | rfl | go_num, by rw [HS.out]; first | rfl | (rw [if_pos trivial, str_letter _ 2 (by omega)]) | simp⟩
          case measure => simp [intOf]
        | false =>
          have HB := hid ((bit_has' HR.out (show 2 < 7 by omega)).trans hb)
          have HS := hid (textTo_succ p 2)
          rw [hb] at HS
          have hlen : ¬ 9223372036854775807 < (textTo p 2).length + 1 := by have := textTo_len p 2; omega
          clear hb
          go_wp2_with (go_at_call 24; refine (rbit p 2 (by omega) _).mono ?_; rw [HB.out]; rintro e w' ⟨rfl, rfl⟩)
          go_round
          case rel => exact ⟨3, by omega, by first | rfl | go_num, by rw [HS.out]; first | rfl | (rw [if_pos trivial, str_letter _ 2 (by omega)]) | simp⟩
          case measure => simp [intOf]
      · skip
        cases hb : hasB p (wrap64 (2 ^ 3)) with
        | true =>
          have HB := hid ((bit_has' HR.out (show 3 < 7 by omega)).trans hb)
          have HS := hid (textTo_succ p 3)
          rw [hb] at HS
          have hlen : ¬ 9223372036854775807 < (textTo p 3).length + 1 := by have := textTo_len p 3; omega
          clear hb
          go_wp2_with (go_at_call 24; refine (rbit p 3 (by omega) _).mono ?_; rw [HB.out]; rintro e w' ⟨rfl, rfl⟩)
          go_round
          case rel => exact ⟨4, by omega, by first | rfl | go_num, by rw [HS.out]; first | rfl | (rw [if_pos trivial, str_letter _ 3 (by omega)]) | simp⟩
          case measure => simp [intOf]
        | false =>
          have HB := hid ((bit_has' HR.out (show 3 < 7 by omega)).trans hb)
          have HS := hid (textTo_succ p 3)
          rw [hb] at HS
          have hlen : ¬ 9223372036854775807 < (textTo p 3).length + 1 := by have := textTo_len p 3; omega
          clear hb
          go_wp2_with (go_at_call 24; refine (rbit p 3 (by omega) _).mono ?_; rw [HB.out]; rintro e w' ⟨rfl, rfl⟩)
          go_round
          case rel => exact ⟨4, by omega, by first | rfl | go_num, by rw [HS.out]; first | rfl | (rw [if_pos trivial, str_letter _ 3 (by omega)]) | simp⟩
          case measure => simp [intOf]
      · skip
        cases hb : hasB p (wrap64 (2 ^ 4)) with
        | true =>
          have HB := hid ((bit_has' HR.out (show 4 < 7 by omega)).trans hb)
          have HS := hid (textTo_succ p 4)
          rw [hb] at HS
          have hlen : ¬ 9223372036854775807 < (textTo p 4).length + 1 := by have := textTo_len p 4; omega
          clear hb
          go_wp2_with (go_at_call 24; refine (rbit p 4 (by omega) _).mono ?_; rw [HB.out]; rintro e w' ⟨rfl, rfl⟩)
          go_round
          case rel => exact ⟨5, by omega, by first | rfl | go_num, by rw [HS.out]; first | rfl | (rw [if_pos trivial, str_letter _ 4 (by omega)]) | simp⟩
          case measure => simp [intOf]
        | false =>
          have HB := hid ((bit_has' HR.out (show 4 < 7 by omega)).trans hb)
          have HS := hid (textTo_succ p 4)
          rw [hb] at HS
          have hlen : ¬ 9223372036854775807 < (textTo p 4).length + 1 := by have := textTo_len p 4; omega
          clear hb
          go_wp2_with (go_at_call 24; refine (rbit p 4 (by omega) _).mono ?_; rw [HB.out]; rintro e w' ⟨rfl, rfl⟩)
          go_round
          case rel => exact ⟨5, by omega, by first | rfl | go_num, by rw [HS.out]; first | rfl | (rw [if_pos trivial, str_letter _ 4 (by omega)]) | simp⟩
          case measure => simp [intOf]
      · skip
        cases hb : hasB p (wrap64 (2 ^ 5)) with
        | true =>
          have HB := hid ((bit_has' HR.out (show 5 < 7 by omega)).trans hb)
          have HS := hid (textTo_succ p 5)
          rw [hb] at HS
          have hlen : ¬ 9223372036854775807 < (textTo p 5).length + 1 := by have := textTo_len p 5; omega
          clear hb
          go_wp2_with (go_at_call 24; refine (rbit p 5 (by omega) _).mono ?_; rw [HB.out]; rintro e w' ⟨rfl, rfl⟩)
          go_round
          case rel => exact ⟨6, by omega, by first | rfl | go_num, by rw [HS.out]; first | rfl | (rw [if_pos trivial, str_letter _ 5 (by omega)]) | simp⟩
          case measure => simp [intOf]
        | false =>
          have HB := hid ((bit_has' HR.out (show 5 < 7 by omega)).trans hb)
          have HS := hid (textTo_succ p 5)
          rw [hb] at HS
          have hlen : ¬ 9223372036854775807 < (textTo p 5).length + 1 := by have := textTo_len p 5; omega
          clear hb
          go_wp2_with (go_at_call 24; refine (rbit p 5 (by omega) _).mono ?_; rw [HB.out]; rintro e w' ⟨rfl, rfl⟩)
          go_round
          case rel => exact ⟨6, by omega, by first | rfl | go_num, by rw [HS.out]; first | rfl | (rw [if_pos trivial, str_letter _ 5 (by omega)]) | simp⟩
          case measure => simp [intOf]
      · skip
        cases hb : hasB p (wrap64 (2 ^ 6)) with
        | true =>
          have HB := hid ((bit_has' HR.out (show 6 < 7 by omega)).trans hb)
          have HS := hid (textTo_succ p 6)
          rw [hb] at HS
          have hlen : ¬ 9223372036854775807 < (textTo p 6).length + 1 := by have := textTo_len p 6; omega
          clear hb
          go_wp2_with (go_at_call 24; refine (rbit p 6 (by omega) _).mono ?_; rw [HB.out]; rintro e w' ⟨rfl, rfl⟩)
          go_round
          case rel => exact ⟨7, by omega, by first | rfl | go_num, by rw [HS.out]; first | rfl | (rw [if_pos trivial, str_letter _ 6 (by omega)]) | simp⟩
          case measure => simp [intOf]
        | false =>
          have HB := hid ((bit_has' HR.out (show 6 < 7 by omega)).trans hb)
          have HS := hid (textTo_succ p 6)
          rw [hb] at HS
          have hlen : ¬ 9223372036854775807 < (textTo p 6).length + 1 := by have := textTo_len p 6; omega
          clear hb
          go_wp2_with (go_at_call 24; refine (rbit p 6 (by omega) _).mono ?_; rw [HB.out]; rintro e w' ⟨rfl, rfl⟩)
          go_round
          case rel => exact ⟨7, by omega, by first | rfl | go_num, by rw [HS.out]; first | rfl | (rw [if_pos trivial, str_letter _ 6 (by omega)]) | simp⟩
          case measure => simp [intOf]
      · have he := HE.out
        by_cases hp : p = 0
        · subst hp
          have he2 : (textTo 0 7).isEmpty = true := by rw [he]; rfl
          clear he
          go_wp2
          go_ret
          exact ⟨rfl, rfl⟩
        · have he2 : (textTo p 7).isEmpty = false := by rw [he]; simpa using hp
          clear he
          have hq : ¬ (textTo p 7).isEmpty = true := by rw [he2]; simp
          go_wp2
          go_ret
          exact ⟨by simp [hp], rfl⟩


end Go.Proofs.Ytgjnobjoijehaaa
