/- Layer 8: how many are painted. -/
import Derived.Test.YtgjjimpialgojaaShaC
namespace Go.Proofs.Ytgjjimpialgojaa
set_option linter.unusedSimpArgs false
set_option linter.unusedVariables false
open Go.RowKit


def onesA (x : Int) : Int := IntKind.u64.wrap (bits BinOp.and IntKind.u64 (x / 2) 6148914691236517205 + bits BinOp.and IntKind.u64 x 6148914691236517205)
def onesB (a : Int) : Int := IntKind.u64.wrap (bits BinOp.and IntKind.u64 (a / 4) 3689348814741910323 + bits BinOp.and IntKind.u64 a 3689348814741910323)
def onesC (b : Int) : Int := bits BinOp.and IntKind.u64 (IntKind.u64.wrap (b / 16 + b)) 1085102592571150095
def onesD (c : Int) : Int := IntKind.u64.wrap (c + c / 256)
def onesE (c : Int) : Int := IntKind.u64.wrap (c + c / 65536)
def onesF (c : Int) : Int := IntKind.u64.wrap (c + c / 4294967296)
def ones (x : Int) : Int := bits BinOp.and IntKind.i64 (wrap64 (onesF (onesE (onesD (onesC (onesB (onesA x))))))) 127
theorem and_u64_lit (a : Nat) (m : Nat) (ha : a < 18446744073709551616) (hm : m < 18446744073709551616) (M : Int) (e : M = (m : Int)) : bits .and .u64 (a : Int) M = ((a &&& m : Nat) : Int) := by
  rw [e]
  exact bits_and_u64_nat a m ha hm
theorem bits_and127 (f : Nat) (hf : f < 9223372036854775808) : bits .and .i64 (f : Int) 127 = ((f % 128 : Nat) : Int) := by
  have h1 : (BitVec.ofInt 64 (f : Int)).toNat = f := by
    rw [BitVec.ofInt_natCast, BitVec.toNat_ofNat]; exact Nat.mod_eq_of_lt (by omega)
  have h2 : (BitVec.ofInt 64 (127 : Int)).toNat = 127 := by decide
  show IntKind.i64.wrap ((BitVec.ofInt 64 (f : Int) &&& BitVec.ofInt 64 (127 : Int)).toNat : Int) = _
  rw [BitVec.toNat_and, h1, h2, show (127 : Nat) = 2 ^ 7 - 1 from rfl, Nat.and_two_pow_sub_one_eq_mod]
  exact wrap_small _ (by omega) (by omega)
theorem ones_val (x : Nat) (hx : x < 18446744073709551616) : ones (x : Int) = (cnt (fun j => x.testBit j) 64 : Int) := by
  obtain ⟨a, ha⟩ : ∃ a, a = (x / 2 &&& 6148914691236517205) + (x &&& 6148914691236517205) := ⟨_, rfl⟩
  obtain ⟨b, hb⟩ : ∃ b, b = (a / 4 &&& 3689348814741910323) + (a &&& 3689348814741910323) := ⟨_, rfl⟩
  obtain ⟨c, hc⟩ : ∃ c, c = (b / 16 + b) &&& 1085102592571150095 := ⟨_, rfl⟩
  obtain ⟨d, hd⟩ : ∃ d, d = (c + c / 256) % 18446744073709551616 := ⟨_, rfl⟩
  obtain ⟨e, he⟩ : ∃ e, e = (d + d / 65536) % 18446744073709551616 := ⟨_, rfl⟩
  obtain ⟨f, hf⟩ : ∃ f, f = (e + e / 4294967296) % 18446744073709551616 := ⟨_, rfl⟩
  obtain ⟨h1, h2, h3, h4⟩ := ones_word hx ha hb hc hd he hf
  have hA : onesA (x : Int) = (a : Int) := by
    unfold onesA
    rw [show ((x : Int) / 2) = ((x / 2 : Nat) : Int) from rfl, and_u64_lit (x / 2) 6148914691236517205 (by omega) (by decide) 6148914691236517205 rfl, and_u64_lit x 6148914691236517205 hx (by decide) 6148914691236517205 rfl, IntKind.wrap_u64]
    clear hb hc hd he hf h1 h2 h4
    omega
  have hB : onesB (a : Int) = (b : Int) := by
    unfold onesB
    rw [show ((a : Int) / 4) = ((a / 4 : Nat) : Int) from rfl, and_u64_lit (a / 4) 3689348814741910323 (by omega) (by decide) 3689348814741910323 rfl, and_u64_lit a 3689348814741910323 h3 (by decide) 3689348814741910323 rfl, IntKind.wrap_u64]
    clear ha hA hc hd he hf h1 h2 h3
    omega
  have hC : onesC (b : Int) = (c : Int) := by
    unfold onesC
    have hw : IntKind.u64.wrap ((b : Int) / 16 + (b : Int)) = ((b / 16 + b : Nat) : Int) := by
      rw [IntKind.wrap_u64]
      clear ha hA hB hb hc hd he hf h1 h2 h3
      omega
    rw [hw, and_u64_lit (b / 16 + b) 1085102592571150095 (by clear ha hA hB hb hc hd he hf h1 h2 h3 hw; omega) (by decide) 1085102592571150095 rfl, hc]
  have hD : onesD (c : Int) = (d : Int) := by
    unfold onesD
    rw [IntKind.wrap_u64, hd]
    rfl
  have hE : onesE (d : Int) = (e : Int) := by
    unfold onesE
    rw [IntKind.wrap_u64, he]
    rfl
  have hF : onesF (e : Int) = (f : Int) := by
    unfold onesF
    rw [IntKind.wrap_u64, hf]
    rfl
  unfold ones
  rw [hA, hB, hC, hD, hE, hF]
  have hw : wrap64 (f : Int) = (f : Int) := by
    clear ha hA hB hb hc hd he hf h1 h3 h4 hC hD hE hF
    unfold wrap64
    omega
  rw [hw, bits_and127 f h2, h1]
set_option maxHeartbeats 1000000 in
theorem ones64 (x : Nat) (w : World) (hx : x < 18446744073709551616) :
    Calls Try.prog 23 #[.int .u64 (x : Int)] w fun e w' => e = .returned (.int .i64 (cnt (fun j => x.testBit j) 64 : Int)) ∧ w = w' := by
  have HO := hid (ones_val x hx)
  go_enter Try.func23, Try.ntmps23
  go_wp2
  go_ret
  refine ⟨?_, rfl⟩
  rw [← HO.out]
  simp [ones, onesA, onesB, onesC, onesD, onesE, onesF]


theorem cnt_word (P : Nat → Bool) (k : Nat) : cnt (fun j => (wordP P k).testBit j) 64 = cnt (fun j => P (64 * k + j)) 64 := cnt_congr 64 fun j hj => wordP_bit P k j hj
theorem cnt_succ64 (P : Nat → Bool) (k : Nat) : cnt P (64 * (k + 1)) = cnt P (64 * k) + cnt (fun j => P (64 * k + j)) 64 := by
  rw [show 64 * (k + 1) = 64 * k + 64 by omega, cnt_add]
theorem cnt_all {P : Nat → Bool} {n : Nat} (h : ∀ i, n ≤ i → P i = false) : cnt P (64 * ((n + 63) / 64)) = cnt P n := by
  have e : 64 * ((n + 63) / 64) = n + (64 * ((n + 63) / 64) - n) := by omega
  have e2 : cnt (fun j => P (n + j)) (64 * ((n + 63) / 64) - n) = 0 := cnt_none _ fun j _ => h _ (by omega)
  rw [e, cnt_add, e2]
  rfl
set_option maxHeartbeats 1000000 in
theorem many_ (p q n : Nat) (P : Nat → Bool) (w : World) (h : Sh w p q n P) :
    Calls Try.prog 13 #[.pointer (some ⟨p, 0, none⟩)] w fun e w' => e = .returned (.int .i64 (cnt P n : Int)) ∧ w = w' := by
  have h0 := h.c0
  have h1 := h.c1
  have hlp := h.ltp
  have hlq := h.ltq
  have hbd := h.bd
  have HH := hid h
  have HA := hid (cnt_all h.out)
  obtain ⟨m, hm⟩ : ∃ m, (n + 63) / 64 = m := ⟨_, rfl⟩
  have hm1 : m ≤ 16385 := by omega
  rw [hm] at h1 HA
  have HM := hid hm
  clear h hm
  go_enter Try.func13, Try.ntmps13
  go_wp2
  go_loop [3, 11] (fun s iv => ∃ k : Nat, k ≤ m ∧ iv = .int .i64 (k : Int) ∧ s = .int .i64 (cnt P (64 * k) : Int)) (fun _ iv => m - (intOf iv).toNat)
  case atStart => exact ⟨0, Nat.zero_le _, rfl, rfl⟩
  case round =>
    obtain ⟨k, hk, rfl, rfl⟩ := hrel
    by_cases hlt : k < m
    · obtain ⟨hw, _⟩ := HH.out.words k (by have := HM.out; omega)
      have hk0 : (0 : Int) ≤ (k : Int) := by omega
      have hk1 : (k : Int) < (m : Int) := by omega
      have HC := hid (cnt_succ64 P k)
      have c1 := cnt_le P (64 * k)
      have c2 := cnt_le (fun j => P (64 * k + j)) 64
      have HX := hid (wordP_lt P k)
      have HW := hid (cnt_word P k)
      obtain ⟨a, ha⟩ : ∃ a, cnt P (64 * k) = a := ⟨_, rfl⟩
      obtain ⟨b, hb⟩ : ∃ b, cnt (fun j => P (64 * k + j)) 64 = b := ⟨_, rfl⟩
      rw [ha, hb] at HC
      rw [ha] at c1 ⊢
      rw [hb] at c2 HW
      clear ha hb
      go_wp2_with (go_at_call 23; (with_reducible refine Calls.mono (ones64 (wordP P k) _ HX.out) ?_); rw [HW.out]; rintro e w1 ⟨rfl, rfl⟩)
      go_round
      case rel => exact ⟨k + 1, by omega, by first | rfl | go_num, by rw [HC.out]; first | rfl | go_num⟩
      case measure => first | (simp [intOf]; done) | (simp [intOf]; omega)
    · obtain rfl : k = m := by omega
      rw [HA.out]
      go_wp2
      go_ret
      exact ⟨rfl, rfl⟩


end Go.Proofs.Ytgjjimpialgojaa
