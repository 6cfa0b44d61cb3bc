/- Layer 1: sets of numbers. -/
import Derived.Test.YtgjnobjoijehaaaOneQ
namespace Go.Proofs.Ytgjnobjoijehaaa
set_option linter.unusedSimpArgs false
set_option linter.unusedVariables false
open Go.RowKit


theorem or_pair : ∀ a : Fin 128, ∀ z : Fin 128, bits .or .i64 (a.val : Int) (z.val : Int) = ((a.val ||| z.val : Nat) : Int) := by decide +kernel
def orN (zs : List Int) (a : Nat) : Nat := zs.foldl (fun a z => if rightB z then a ||| z.toNat else a) a
theorem rightN {z : Int} (h : rightB z = true) : z.toNat < 128 ∧ z = (z.toNat : Int) := by
  obtain ⟨h0, h1⟩ := rightB_iff.1 h
  omega
theorem orN_lt : ∀ (zs : List Int) (a : Nat), a < 128 → orN zs a < 128
  | [], _, h => h
  | z :: zs, a, h => by
    show orN zs (if rightB z = true then a ||| z.toNat else a) < 128
    refine orN_lt zs _ ?_
    split
    · rename_i hz
      exact lor_lt h (rightN hz).1
    · exact h
theorem ofL_orN : ∀ (zs : List Int) (a : Nat), a < 128 → ofL zs (a : Int) = (orN zs a : Int)
  | [], _, _ => rfl
  | z :: zs, a, h => by
    show ofL zs (if rightB z then bits .or .i64 (a : Int) z else (a : Int)) = (orN zs (if rightB z then a ||| z.toNat else a) : Int)
    by_cases hz : rightB z = true
    · rw [if_pos hz, if_pos hz]
      obtain ⟨h1, h2⟩ := rightN hz
      have e := or_pair ⟨a, h⟩ ⟨z.toNat, h1⟩
      simp only at e
      rw [← h2] at e
      rw [e]
      exact ofL_orN zs _ (lor_lt h h1)
    · rw [if_neg hz, if_neg hz]
      exact ofL_orN zs a h
theorem orN_bit : ∀ (zs : List Int) (a i : Nat), (orN zs a).testBit i = (a.testBit i || zs.any fun z => rightB z && z.toNat.testBit i)
  | [], a, i => by simp [orN]
  | z :: zs, a, i => by
    show (orN zs (if rightB z then a ||| z.toNat else a)).testBit i = _
    rw [orN_bit zs]
    by_cases hz : rightB z = true
    · rw [if_pos hz, Nat.testBit_or]
      simp [hz, Bool.or_assoc]
    · rw [if_neg hz]
      simp [hz]
theorem orN_congr {A B : List Int} (h : ∀ z, rightB z = true → (z ∈ A ↔ z ∈ B)) : orN A 0 = orN B 0 := by
  apply Nat.eq_of_testBit_eq
  intro i
  rw [orN_bit, orN_bit]
  congr 1
  rw [Bool.eq_iff_iff, List.any_eq_true, List.any_eq_true]
  constructor
  · rintro ⟨z, hz, hb⟩
    exact ⟨z, (h z (by simp at hb; exact hb.1)).1 hz, hb⟩
  · rintro ⟨z, hz, hb⟩
    exact ⟨z, (h z (by simp at hb; exact hb.1)).2 hz, hb⟩
theorem ofL_congr {A B : List Int} (h : ∀ z, rightB z = true → (z ∈ A ↔ z ∈ B)) : ofL A 0 = ofL B 0 := by
  have e1 := ofL_orN A 0 (by omega)
  have e2 := ofL_orN B 0 (by omega)
  rw [show ((0 : Nat) : Int) = 0 from rfl] at e1 e2
  rw [e1, e2, orN_congr h]
theorem ofL_right (A : List Int) : rightB (ofL A 0) = true := by
  have e1 := ofL_orN A 0 (by omega)
  rw [show ((0 : Nat) : Int) = 0 from rfl] at e1
  have h := orN_lt A 0 (by omega)
  rw [e1]
  exact rightB_iff.2 (by omega)
theorem bit_test : ∀ p : Fin 128, ∀ i : Fin 7, bitB (p.val : Int) i.val = p.val.testBit i.val := by decide +kernel
theorem stepR_bit (i o : Nat) (z : Int) (hi : i < 7) (j : Nat) : (stepR i o z).testBit j = (o.testBit j || (decide (j = i) && (rightB z && z.toNat.testBit i))) := by
  unfold stepR
  by_cases hz : rightB z = true
  · obtain ⟨h1, h2⟩ := rightN hz
    have e := bit_test ⟨z.toNat, h1⟩ ⟨i, hi⟩
    simp only at e
    rw [← h2] at e
    rw [e, hz]
    cases hb : z.toNat.testBit i
    · simp
    · rw [if_pos (by simp), Nat.testBit_or, Nat.testBit_two_pow]
      by_cases hj : j = i
      · subst hj; simp
      · have : ¬ i = j := fun e => hj e.symm
        simp [hj, this]
  · have hz' : rightB z = false := by simpa using hz
    rw [hz']
    simp
theorem innerR_bit (i : Nat) (hi : i < 7) (j : Nat) : ∀ (zs : List Int) (o : Nat), (innerR zs o i).testBit j = (o.testBit j || (decide (j = i) && zs.any fun z => rightB z && z.toNat.testBit i))
  | [], o => by simp [innerR]
  | z :: zs, o => by
    show (innerR zs (stepR i o z) i).testBit j = _
    rw [innerR_bit i hi j zs, stepR_bit i o z hi j, List.any_cons]
    cases o.testBit j <;> cases decide (j = i) <;> simp
theorem ofR_bit (zs : List Int) (j : Nat) : ∀ i, i ≤ 7 → (ofR zs i).testBit j = (decide (j < i) && zs.any fun z => rightB z && z.toNat.testBit j)
  | 0, _ => by simp [ofR]
  | i + 1, h => by
    rw [ofR_succ, innerR_bit i (by omega) j, ofR_bit zs j i (by omega)]
    by_cases h1 : j < i
    · have h2 : ¬ j = i := by omega
      have h3 : j < i + 1 := by omega
      simp [h1, h2, h3]
    · by_cases h2 : j = i
      · subst h2
        simp
      · have h3 : ¬ j < i + 1 := by omega
        simp [h1, h2, h3]
theorem ofR_ofL (zs : List Int) : (ofR zs 7 : Int) = ofL zs 0 := by
  have e1 := ofL_orN zs 0 (by omega)
  rw [show ((0 : Nat) : Int) = 0 from rfl] at e1
  rw [e1]
  congr 1
  apply Nat.eq_of_testBit_eq
  intro j
  rw [ofR_bit zs j 7 (by omega), orN_bit]
  by_cases h : j < 7
  · simp [h]
  · have h7 : (2 : Nat) ^ 7 ≤ 2 ^ j := Nat.pow_le_pow_right (by omega) (by omega)
    simp only [h, decide_false, Bool.false_and, Nat.zero_testBit, Bool.false_or]
    symm
    rw [List.any_eq_false]
    intro z _
    by_cases hz : rightB z = true
    · have h1 := (rightN hz).1
      rw [Nat.testBit_lt_two_pow (by omega)]
      simp
    · simp [hz]

end Go.Proofs.Ytgjnobjoijehaaa
