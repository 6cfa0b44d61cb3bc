/- Layer 8: words of what is painted. -/
import Derived.Test.YtgjjimpialgojaaShaM
import Derived.Laws.Bits64b
namespace Go.Proofs.Ytgjjimpialgojaa
set_option linter.unusedSimpArgs false
set_option linter.unusedVariables false
open Go.RowKit


def bitsN (f : Nat → Bool) : Nat → Nat
  | 0 => 0
  | n + 1 => bitsN f n ||| (if f n then 2 ^ n else 0)
theorem bitsN_bit (f : Nat → Bool) (j : Nat) : ∀ n, (bitsN f n).testBit j = (decide (j < n) && f j)
  | 0 => by simp [bitsN]
  | n + 1 => by
    show (bitsN f n ||| (if f n then 2 ^ n else 0)).testBit j = _
    rw [Nat.testBit_or, bitsN_bit f j n]
    by_cases h : j = n
    · subst h
      cases hf : f j
      · simp
      · simp [Nat.testBit_two_pow]
    · have h1 : ¬ n = j := fun e => h e.symm
      by_cases h2 : j < n
      · have h3 : j < n + 1 := by omega
        cases hf : f n <;> simp [h2, h3, Nat.testBit_two_pow, h1]
      · have h3 : ¬ j < n + 1 := by omega
        cases hf : f n <;> simp [h2, h3, Nat.testBit_two_pow, h1]
theorem bitsN_lt (f : Nat → Bool) : ∀ n, bitsN f n < 2 ^ n
  | 0 => by simp [bitsN]
  | n + 1 => by
    show bitsN f n ||| (if f n then 2 ^ n else 0) < 2 ^ (n + 1)
    have h := bitsN_lt f n
    refine Nat.or_lt_two_pow (by rw [Nat.pow_succ]; omega) ?_
    split
    · rw [Nat.pow_succ]; have := Nat.two_pow_pos n; omega
    · exact Nat.two_pow_pos _
/-- A word of what is painted. -/
@[irreducible] def wordP (P : Nat → Bool) (k : Nat) : Nat := bitsN (fun j => P (64 * k + j)) 64
theorem wordP_lt (P : Nat → Bool) (k : Nat) : wordP P k < 18446744073709551616 := by
  unfold wordP
  exact bitsN_lt _ 64
theorem wordP_bit (P : Nat → Bool) (k j : Nat) (h : j < 64) : (wordP P k).testBit j = P (64 * k + j) := by
  unfold wordP
  rw [bitsN_bit]
  simp [h]
def updP (P : Nat → Bool) (i : Nat) (b : Bool) : Nat → Bool := fun x => if x = i then b else P x
theorem word_ext {x y : Nat} (hx : x < 18446744073709551616) (hy : y < 18446744073709551616) (h : ∀ j, j < 64 → x.testBit j = y.testBit j) : x = y := by
  apply Nat.eq_of_testBit_eq
  intro j
  by_cases hj : j < 64
  · exact h j hj
  · have e : (2 : Nat) ^ 64 ≤ 2 ^ j := Nat.pow_le_pow_right (by omega) (by omega)
    rw [Nat.testBit_lt_two_pow (Nat.lt_of_lt_of_le (show x < 2 ^ 64 from hx) e), Nat.testBit_lt_two_pow (Nat.lt_of_lt_of_le (show y < 2 ^ 64 from hy) e)]
theorem wordP_other (P : Nat → Bool) (k j : Nat) (b : Bool) {k' : Nat} (hj : j < 64) (h : ¬ k' = k) : wordP (updP P (64 * k + j) b) k' = wordP P k' :=
  word_ext (wordP_lt _ _) (wordP_lt _ _) fun i hi => by
    rw [wordP_bit _ _ _ hi, wordP_bit _ _ _ hi]
    unfold updP
    rw [if_neg (by omega)]
theorem pow_lt64 {j : Nat} (hj : j < 64) : (2 : Nat) ^ j < 18446744073709551616 := Nat.pow_lt_pow_right (by omega) (show j < 64 from hj)
theorem wordP_set (P : Nat → Bool) (k j : Nat) (hj : j < 64) : wordP P k ||| 2 ^ j = wordP (updP P (64 * k + j) true) k :=
  word_ext (Nat.or_lt_two_pow (n := 64) (wordP_lt _ _) (pow_lt64 hj)) (wordP_lt _ _) fun i hi => by
    rw [Nat.testBit_or, Nat.testBit_two_pow, wordP_bit _ _ _ hi, wordP_bit _ _ _ hi]
    unfold updP
    by_cases h : i = j
    · subst h; simp
    · have h1 : ¬ j = i := fun e => h e.symm
      have h2 : ¬ 64 * k + i = 64 * k + j := by omega
      simp [h, h1, h2]
theorem bits_andNot_u64_nat (a b : Nat) (ha : a < 18446744073709551616) (hb : b < 18446744073709551616) : ∃ c : Nat, bits .andNot .u64 (a : Int) (b : Int) = (c : Int) ∧ c < 18446744073709551616 ∧ ∀ j, j < 64 → c.testBit j = (a.testBit j && !b.testBit j) := by
  have h1 : (BitVec.ofInt 64 (a : Int)).toNat = a := by
    rw [BitVec.ofInt_natCast, BitVec.toNat_ofNat]; exact Nat.mod_eq_of_lt (by omega)
  have h2 : (BitVec.ofInt 64 (b : Int)).toNat = b := by
    rw [BitVec.ofInt_natCast, BitVec.toNat_ofNat]; exact Nat.mod_eq_of_lt (by omega)
  refine ⟨(BitVec.ofInt 64 (a : Int) &&& ~~~BitVec.ofInt 64 (b : Int)).toNat, ?_, (BitVec.ofInt 64 (a : Int) &&& ~~~BitVec.ofInt 64 (b : Int)).isLt, fun j hj => ?_⟩
  · show IntKind.u64.wrap ((BitVec.ofInt 64 (a : Int) &&& ~~~BitVec.ofInt 64 (b : Int)).toNat : Int) = _
    have := (BitVec.ofInt 64 (a : Int) &&& ~~~BitVec.ofInt 64 (b : Int)).isLt
    rw [IntKind.wrap_u64]
    omega
  · rw [← BitVec.getLsbD, BitVec.getLsbD_and, BitVec.getLsbD_not]
    unfold BitVec.getLsbD
    rw [h1, h2]
    simp [hj]
theorem wordP_clear (P : Nat → Bool) (k j : Nat) (hj : j < 64) : bits .andNot .u64 (wordP P k : Int) ((2 ^ j : Nat) : Int) = (wordP (updP P (64 * k + j) false) k : Int) := by
  obtain ⟨c, h1, h2, h3⟩ := bits_andNot_u64_nat (wordP P k) (2 ^ j) (wordP_lt _ _) (pow_lt64 hj)
  rw [h1]
  congr 1
  refine word_ext h2 (wordP_lt _ _) fun i hi => ?_
  rw [h3 i hi, Nat.testBit_two_pow, wordP_bit _ _ _ hi, wordP_bit _ _ _ hi]
  unfold updP
  by_cases h : i = j
  · subst h; simp
  · have h1 : ¬ j = i := fun e => h e.symm
    have h2 : ¬ 64 * k + i = 64 * k + j := by omega
    simp [h, h1, h2]
theorem bit_is (x j : Nat) (hx : x < 18446744073709551616) : (bits .and .u64 ((x : Int) / 2 ^ j) 1 == 1) = x.testBit j := by
  have e : ((x : Int) / 2 ^ j) = ((x / 2 ^ j : Nat) : Int) := by
    rw [Int.natCast_ediv]
    congr 1
  have h := bits_and_u64_nat (x / 2 ^ j) 1 (Nat.lt_of_le_of_lt (Nat.div_le_self _ _) hx) (by decide)
  rw [e, show (1 : Int) = ((1 : Nat) : Int) from rfl, h, Nat.and_one_is_mod]
  have ht : x.testBit j = decide (x / 2 ^ j % 2 = 1) := Nat.testBit_eq_decide_div_mod_eq
  rw [ht]
  rw [Bool.eq_iff_iff]
  simp
  omega

end Go.Proofs.Ytgjjimpialgojaa
