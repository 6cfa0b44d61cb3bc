/- Layer 20: what the document makes of two numbers. -/
import Derived.Test.YtemeckdjkjnieaaAluM
import Derived.Test.YtemeckdjkjnieaaAluE
namespace Go.Proofs.Ytemeckdjkjnieaa
set_option linter.unusedSimpArgs false
set_option linter.unusedVariables false
open Go.RowKit


theorem mul_bd {x y : Int} (h0 : 0 ≤ x) (h1 : x ≤ 4294967295) (h2 : 0 ≤ y) (h3 : y ≤ 65535) : 0 ≤ x * y ∧ x * y ≤ 281470681677825 := by
  refine ⟨Int.mul_nonneg h0 h2, ?_⟩
  calc x * y ≤ 4294967295 * y := Int.mul_le_mul_of_nonneg_right h1 h2
    _ ≤ 4294967295 * 65535 := Int.mul_le_mul_of_nonneg_left h3 (by omega)
    _ ≤ 281470681677825 := by decide
theorem mul_split (x y : Int) : m32 (m32 (x * (y / 65536)) * 65536 + x * (y % 65536)) = m32 (x * y) := by
  have h : x * y = x * (y / 65536) * 65536 + x * (y % 65536) := by
    rw [Int.mul_assoc, ← Int.mul_add, Int.mul_comm (y / 65536), Int.mul_ediv_add_emod]
  rw [h]
  generalize x * (y / 65536) = p
  generalize x * (y % 65536) = q
  unfold m32
  omega

set_option maxRecDepth 100000 in
set_option maxHeartbeats 4000000 in
theorem rdo (op a b : Int) (w : World) (a0 : -9223372036854775808 ≤ a) (a1 : a ≤ 9223372036854775807) (b0 : -9223372036854775808 ≤ b) (b1 : b ≤ 9223372036854775807) :
    Calls Try.prog 11 #[.int .i64 op, .int .i64 a, .int .i64 b] w fun e w' => e = .returned (.tuple #[.int .i64 (doV op a b), .int .i64 (doE op b)]) ∧ w = w' := by
  have ha := m32_bd a
  have hb := m32_bd b
  by_cases h3 : op = 3
  · subst h3
    have hE : doE 3 b = 0 := by simp [doE]
    rw [hE]
    go_enter Try.func11, Try.ntmps11
    go_wp2_with (go_at_call 20; refine (rmod _ _ (by omega) (by omega)).mono ?_; rintro e w1 ⟨rfl, rfl⟩)
    all_goals go_ret2
    all_goals refine ⟨?_, rfl⟩
    all_goals simp [doV]
  by_cases h4 : op = 4
  · subst h4
    have hE : doE 4 b = 0 := by simp [doE]
    rw [hE]
    go_enter Try.func11, Try.ntmps11
    go_wp2_with (go_at_call 20; refine (rmod _ _ (by omega) (by omega)).mono ?_; rintro e w1 ⟨rfl, rfl⟩)
    all_goals go_ret2
    all_goals refine ⟨?_, rfl⟩
    all_goals simp [doV]
  by_cases h5 : op = 5
  · subst h5
    have m1 := mul_bd ha.1 ha.2 (show 0 ≤ m32 b / 65536 by omega) (show m32 b / 65536 ≤ 65535 by omega)
    have m2 := mul_bd ha.1 ha.2 (show 0 ≤ m32 b % 65536 by omega) (show m32 b % 65536 ≤ 65535 by omega)
    have m3 := m32_bd (m32 a * (m32 b / 65536))
    have MS := hid (mul_split (m32 a) (m32 b))
    have hE : doE 5 b = 0 := by simp [doE]
    rw [hE]
    go_enter Try.func11, Try.ntmps11
    go_wp2_with (go_at_call 20; refine (rmod _ _ (by omega) (by omega)).mono ?_; rintro e w1 ⟨rfl, rfl⟩)
    all_goals go_ret2
    all_goals refine ⟨?_, rfl⟩
    all_goals simp [doV, MS.out]
  by_cases h6 : op = 6
  · subst h6
    by_cases hz : m32 b = 0
    · have hz1 : (m32 b == 0) = true := by simpa using hz
      have hV : doV 6 a b = 0 := by simp [doV, hz]
      have hE : doE 6 b = 201 := by simp [doE, hz]
      rw [hV, hE]
      have HZ := hid hz
      clear hz hV hE
      go_enter Try.func11, Try.ntmps11
      go_wp2_with (go_at_call 20; refine (rmod _ _ (by omega) (by omega)).mono ?_; rintro e w1 ⟨rfl, rfl⟩)
      all_goals go_ret2
      all_goals exact ⟨rfl, rfl⟩
    · have hz1 : (m32 b == 0) = false := by simpa using hz
      have hz2 : 0 < m32 b := by omega
      have hV : doV 6 a b = m32 a / m32 b := by simp [doV, hz]
      have hE : doE 6 b = 0 := by simp [doE, hz]
      rw [hV, hE]
      have HZ := hid hz
      clear hz hV hE
      go_enter Try.func11, Try.ntmps11
      go_wp2_with (go_at_call 20; refine (rmod _ _ (by omega) (by omega)).mono ?_; rintro e w1 ⟨rfl, rfl⟩)
      all_goals go_ret2
      all_goals exact ⟨rfl, rfl⟩
  by_cases h7 : op = 7
  · subst h7
    by_cases hz : m32 a < m32 b
    · have hz1 : (decide (m32 a < m32 b)) = true := by simpa using hz
      have hV : doV 7 a b = 1 := by simp [doV, lt32, eq32, hz]
      have hE : doE 7 b = 0 := by simp [doE]
      rw [hV, hE]
      have HZ := hid hz
      clear hz hV hE
      go_enter Try.func11, Try.ntmps11
      go_wp2_with (go_at_call 20; refine (rmod _ _ (by omega) (by omega)).mono ?_; rintro e w1 ⟨rfl, rfl⟩)
      all_goals go_ret2
      all_goals exact ⟨rfl, rfl⟩
    · have hz1 : (decide (m32 a < m32 b)) = false := by simpa using hz
      have hV : doV 7 a b = 0 := by simp [doV, lt32, eq32, hz]
      have hE : doE 7 b = 0 := by simp [doE]
      rw [hV, hE]
      have HZ := hid hz
      clear hz hV hE
      go_enter Try.func11, Try.ntmps11
      go_wp2_with (go_at_call 20; refine (rmod _ _ (by omega) (by omega)).mono ?_; rintro e w1 ⟨rfl, rfl⟩)
      all_goals go_ret2
      all_goals exact ⟨rfl, rfl⟩
  by_cases h8 : op = 8
  · subst h8
    by_cases hz : m32 a = m32 b
    · have hz1 : ((m32 a == m32 b)) = true := by simpa using hz
      have hV : doV 8 a b = 1 := by simp [doV, lt32, eq32, hz]
      have hE : doE 8 b = 0 := by simp [doE]
      rw [hV, hE]
      have HZ := hid hz
      clear hz hV hE
      go_enter Try.func11, Try.ntmps11
      go_wp2_with (go_at_call 20; refine (rmod _ _ (by omega) (by omega)).mono ?_; rintro e w1 ⟨rfl, rfl⟩)
      all_goals go_ret2
      all_goals exact ⟨rfl, rfl⟩
    · have hz1 : ((m32 a == m32 b)) = false := by simpa using hz
      have hV : doV 8 a b = 0 := by simp [doV, lt32, eq32, hz]
      have hE : doE 8 b = 0 := by simp [doE]
      rw [hV, hE]
      have HZ := hid hz
      clear hz hV hE
      go_enter Try.func11, Try.ntmps11
      go_wp2_with (go_at_call 20; refine (rmod _ _ (by omega) (by omega)).mono ?_; rintro e w1 ⟨rfl, rfl⟩)
      all_goals go_ret2
      all_goals exact ⟨rfl, rfl⟩
  · have hV : doV op a b = 0 := by simp [doV, h3, h4, h5, h6, h7, h8]
    have hE : doE op b = 151 := by simp only [doE, h6, false_and, if_false]; rw [if_neg (by omega)]
    rw [hV, hE]
    clear hV hE
    go_enter Try.func11, Try.ntmps11
    go_wp2_with (go_at_call 20; refine (rmod _ _ (by omega) (by omega)).mono ?_; rintro e w1 ⟨rfl, rfl⟩)
    all_goals go_ret2
    all_goals exact ⟨rfl, rfl⟩
set_option maxHeartbeats 400000 in
theorem ris (op : Int) (w : World) :
    Calls Try.prog 13 #[.int .i64 op] w fun e w' => e = .returned (.bool (isB op)) ∧ w = w' := by
  have hd : isB op = (decide (3 ≤ op) && decide (op ≤ 8)) := by simp [isB, Bool.decide_and]
  rw [hd]
  clear hd
  by_cases h : 3 ≤ op
  all_goals
    go_enter Try.func13, Try.ntmps13
    go_wp2
    go_ret
    exact ⟨by (simp [h] <;> omega), rfl⟩


end Go.Proofs.Ytemeckdjkjnieaa
