/- MhSha: ShaM ShaN ShaA ShaB ShaC ShaD ShaE -/
import Derived.Test.YtoeiemeffiiidaaDoorMBase
import Derived.Laws.Bits64b
namespace Go.Proofs.YtoeiemeffiiidaaDoor
set_option maxRecDepth 100000
set_option linter.unusedSimpArgs false
set_option linter.unusedVariables false
open Go.RowKit


/-- How many of the first n are so. -/
def cnt (f : Nat → Bool) : Nat → Nat
  | 0 => 0
  | n + 1 => cnt f n + if f n then 1 else 0
theorem cnt_add (f : Nat → Bool) (m : Nat) : ∀ n, cnt f (m + n) = cnt f m + cnt (fun j => f (m + j)) n
  | 0 => rfl
  | n + 1 => by
    show cnt f (m + n) + _ = cnt f m + (cnt (fun j => f (m + j)) n + _)
    rw [cnt_add f m n, Nat.add_assoc]
    rfl
theorem cnt_congr {f g : Nat → Bool} : ∀ n, (∀ j, j < n → f j = g j) → cnt f n = cnt g n
  | 0, _ => rfl
  | n + 1, h => by
    show cnt f n + _ = cnt g n + _
    rw [cnt_congr n (fun j hj => h j (by omega)), h n (by omega)]
theorem cnt_none {f : Nat → Bool} : ∀ n, (∀ j, j < n → f j = false) → cnt f n = 0
  | 0, _ => rfl
  | n + 1, h => by
    show cnt f n + _ = 0
    rw [cnt_none n (fun j hj => h j (by omega)), h n (by omega)]
    rfl
theorem cnt_le (f : Nat → Bool) : ∀ n, cnt f n ≤ n
  | 0 => Nat.le_refl _
  | n + 1 => by
    have := cnt_le f n
    show cnt f n + _ ≤ n + 1
    split <;> omega
def val : List Nat → Nat
  | [] => 0
  | y :: ys => y + 256 * val ys
def mk5 : Nat → Nat | 0 => 0 | n + 1 => 85 + 256 * mk5 n
def mk3 : Nat → Nat | 0 => 0 | n + 1 => 51 + 256 * mk3 n
def mkF : Nat → Nat | 0 => 0 | n + 1 => 15 + 256 * mkF n
def byteA (y : Nat) : Nat := (y / 2 &&& 85) + (y &&& 85)
def byteB (y : Nat) : Nat := (y / 4 &&& 51) + (y &&& 51)
def byteC (y : Nat) : Nat := (y / 16 + y) &&& 15
theorem and_split {lo hi m M : Nat} (h1 : lo < 256) (h2 : m < 256) : (lo + 256 * hi) &&& (m + 256 * M) = (lo &&& m) + 256 * (hi &&& M) := by
  have e1 : ((lo + 256 * hi) &&& (m + 256 * M)) % 2 ^ 8 = lo &&& m := by
    rw [Nat.and_mod_two_pow]
    congr 1 <;> omega
  have e2 : ((lo + 256 * hi) &&& (m + 256 * M)) / 2 ^ 8 = hi &&& M := by
    rw [Nat.and_div_two_pow]
    congr 1 <;> omega
  have e3 := Nat.div_add_mod ((lo + 256 * hi) &&& (m + 256 * M)) (2 ^ 8)
  rw [e1, e2] at e3
  omega
theorem facA : ∀ y : Fin 256, ∀ t : Fin 2, (y.val / 2 + 128 * t.val) &&& 85 = y.val / 2 &&& 85 := by decide +kernel
theorem facB : ∀ y : Fin 256, ∀ t : Fin 4, (y.val / 4 + 64 * t.val) &&& 51 = y.val / 4 &&& 51 := by decide +kernel
theorem facC : ∀ y : Fin 137, ∀ t : Fin 8, (y.val + 16 * t.val) &&& 15 = y.val &&& 15 := by decide +kernel
theorem byteA_fac : ∀ y : Fin 256, byteA y.val < 256 ∧ byteB (byteA y.val) < 256 ∧ byteB (byteA y.val) / 16 ≤ 4 ∧ byteB (byteA y.val) % 16 ≤ 4 ∧ byteC (byteB (byteA y.val)) = cnt (fun j => y.val.testBit j) 8 := by decide +kernel
theorem stepA : ∀ ys : List Nat, (∀ y ∈ ys, y < 256) → (val ys / 2 &&& mk5 ys.length) + (val ys &&& mk5 ys.length) = val (ys.map byteA)
  | [], _ => by simp [val, mk5]
  | y :: ys, h => by
    have ih := stepA ys fun z hz => h z (by simp [hz])
    have hy := h y (by simp)
    show ((y + 256 * val ys) / 2 &&& (85 + 256 * mk5 ys.length)) + ((y + 256 * val ys) &&& (85 + 256 * mk5 ys.length)) = byteA y + 256 * val (ys.map byteA)
    have e : (y + 256 * val ys) / 2 = (y / 2 + 128 * (val ys % 2)) + 256 * (val ys / 2) := by omega
    rw [e, and_split (by omega) (by omega), and_split hy (by omega), ← ih]
    have f := facA ⟨y, hy⟩ ⟨val ys % 2, by omega⟩
    simp only at f
    rw [f]
    unfold byteA
    omega
theorem stepB : ∀ ys : List Nat, (∀ y ∈ ys, y < 256) → (val ys / 4 &&& mk3 ys.length) + (val ys &&& mk3 ys.length) = val (ys.map byteB)
  | [], _ => by simp [val, mk3]
  | y :: ys, h => by
    have ih := stepB ys fun z hz => h z (by simp [hz])
    have hy := h y (by simp)
    show ((y + 256 * val ys) / 4 &&& (51 + 256 * mk3 ys.length)) + ((y + 256 * val ys) &&& (51 + 256 * mk3 ys.length)) = byteB y + 256 * val (ys.map byteB)
    have e : (y + 256 * val ys) / 4 = (y / 4 + 64 * (val ys % 4)) + 256 * (val ys / 4) := by omega
    rw [e, and_split (by omega) (by omega), and_split hy (by omega), ← ih]
    have f := facB ⟨y, hy⟩ ⟨val ys % 4, by omega⟩
    simp only at f
    rw [f]
    unfold byteB
    omega
theorem val_mod (ys : List Nat) (h : ∀ y ∈ ys, y / 16 ≤ 4 ∧ y % 16 ≤ 4) : val ys % 16 ≤ 4 := by
  cases ys with
  | nil => simp [val]
  | cons y ys =>
    have := (h y (by simp)).2
    show (y + 256 * val ys) % 16 ≤ 4
    omega
theorem stepC : ∀ ys : List Nat, (∀ y ∈ ys, y / 16 ≤ 4 ∧ y % 16 ≤ 4) → (val ys / 16 + val ys) &&& mkF ys.length = val (ys.map byteC)
  | [], _ => by simp [val, mkF]
  | y :: ys, h => by
    have ih := stepC ys fun z hz => h z (by simp [hz])
    obtain ⟨h1, h2⟩ := h y (by simp)
    have h3 := val_mod ys fun z hz => h z (by simp [hz])
    show ((y + 256 * val ys) / 16 + (y + 256 * val ys)) &&& (15 + 256 * mkF ys.length) = byteC y + 256 * val (ys.map byteC)
    have e : (y + 256 * val ys) / 16 + (y + 256 * val ys) = (y / 16 + y + 16 * (val ys % 16)) + 256 * (val ys / 16 + val ys) := by omega
    rw [e, and_split (by omega) (by omega), ih]
    have f := facC ⟨y / 16 + y, by omega⟩ ⟨val ys % 16, by omega⟩
    simp only at f
    rw [f]
    rfl
theorem val_lt : ∀ ys : List Nat, (∀ y ∈ ys, y < 256) → val ys < 256 ^ ys.length
  | [], _ => by simp [val]
  | y :: ys, h => by
    have ih := val_lt ys fun z hz => h z (by simp [hz])
    have hy := h y (by simp)
    show y + 256 * val ys < 256 ^ (ys.length + 1)
    rw [Nat.pow_succ]
    omega
theorem val_bit (y : Nat) (ys : List Nat) (hy : y < 256) (j : Nat) : (val (y :: ys)).testBit j = if j < 8 then y.testBit j else (val ys).testBit (j - 8) := by
  show (y + 256 * val ys).testBit j = _
  by_cases h : j < 8
  · rw [if_pos h]
    have e : (y + 256 * val ys) % 2 ^ 8 = y := by omega
    have := Nat.testBit_mod_two_pow (y + 256 * val ys) 8 j
    rw [e] at this
    rw [this]
    simp [h]
  · rw [if_neg h]
    have e : (y + 256 * val ys) / 2 ^ 8 = val ys := by omega
    have h2 : ((y + 256 * val ys) / 2 ^ 8).testBit (j - 8) = (y + 256 * val ys).testBit (j - 8 + 8) := Nat.testBit_div_two_pow (y + 256 * val ys) (j - 8)
    rw [e] at h2
    rw [h2]
    congr 1
    omega
theorem val_cnt : ∀ ys : List Nat, (∀ y ∈ ys, y < 256) → cnt (fun j => (val ys).testBit j) (8 * ys.length) = (ys.map fun y => cnt (fun j => y.testBit j) 8).sum
  | [], _ => rfl
  | y :: ys, h => by
    have ih := val_cnt ys fun z hz => h z (by simp [hz])
    have hy := h y (by simp)
    rw [List.map_cons, List.sum_cons, ← ih, show 8 * (y :: ys).length = 8 + 8 * ys.length by simp; omega, cnt_add]
    congr 1
    · exact cnt_congr 8 fun j hj => by rw [val_bit y ys hy, if_pos hj]
    · exact cnt_congr _ fun j hj => by rw [val_bit y ys hy, if_neg (by omega)]; congr 1; omega
/-- A word's bytes. -/
theorem word_bytes {x : Nat} (hx : x < 18446744073709551616) : ∃ y0 y1 y2 y3 y4 y5 y6 y7 : Nat, (∀ y ∈ [y0, y1, y2, y3, y4, y5, y6, y7], y < 256) ∧ val [y0, y1, y2, y3, y4, y5, y6, y7] = x := by
  refine ⟨x % 256, x / 256 % 256, x / 65536 % 256, x / 16777216 % 256, x / 4294967296 % 256, x / 1099511627776 % 256, x / 281474976710656 % 256, x / 72057594037927936, ?_, ?_⟩
  · intro y hy
    simp at hy
    omega
  · simp only [val]
    omega
theorem divDigit {q r K m : Nat} (hm : 0 < m) (hq : q < m) (hr : r = q + m * K) : r / m = K := by
  rw [hr, Nat.add_mul_div_left _ _ hm, Nat.div_eq_of_lt hq, Nat.zero_add]
theorem sum8a {p0 p1 p2 p3 p4 p5 p6 p7 c K D0 D2 : Nat} (h0 : p0 ≤ 8) (h1 : p1 ≤ 8) (h2 : p2 ≤ 8) (h3 : p3 ≤ 8) (h4 : p4 ≤ 8) (h5 : p5 ≤ 8) (h6 : p6 ≤ 8) (h7 : p7 ≤ 8)
    (hK : K = p1 + 256 * p2 + 65536 * p3 + 16777216 * p4 + 4294967296 * p5 + 1099511627776 * p6 + 281474976710656 * p7) (hc : c = p0 + 256 * K)
    (hD0 : D0 = (p0 + p1) + 256 * (p1 + p2)) (hD2 : D2 = (p2 + p3) + 256 * (p3 + p4) + 65536 * (p4 + p5) + 16777216 * (p5 + p6) + 4294967296 * (p6 + p7) + 1099511627776 * p7) :
    c + K = D0 + 65536 * D2 ∧ c + K < 18446744073709551616 ∧ D0 < 65536 ∧ p0 < 256 := by
  exact ⟨by clear h0 h1 h2 h3 h4 h5 h6 h7; omega, by clear hD0 hD2; omega, by clear hK hc hD2; omega, by omega⟩
theorem sum8b {p0 p1 p2 p3 p4 p5 p6 p7 D0 D2 d E0 E4 : Nat} (h0 : p0 ≤ 8) (h1 : p1 ≤ 8) (h2 : p2 ≤ 8) (h3 : p3 ≤ 8) (h4 : p4 ≤ 8) (h5 : p5 ≤ 8) (h6 : p6 ≤ 8) (h7 : p7 ≤ 8)
    (hD0 : D0 = (p0 + p1) + 256 * (p1 + p2)) (hD2 : D2 = (p2 + p3) + 256 * (p3 + p4) + 65536 * (p4 + p5) + 16777216 * (p5 + p6) + 4294967296 * (p6 + p7) + 1099511627776 * p7) (hd : d = D0 + 65536 * D2)
    (hE0 : E0 = (p0 + p1 + p2 + p3) + 256 * (p1 + p2 + p3 + p4) + 65536 * (p2 + p3 + p4 + p5) + 16777216 * (p3 + p4 + p5 + p6)) (hE4 : E4 = (p4 + p5 + p6 + p7) + 256 * (p5 + p6 + p7) + 65536 * (p6 + p7) + 16777216 * p7) :
    d + D2 = E0 + 4294967296 * E4 ∧ d + D2 < 18446744073709551616 ∧ E0 < 4294967296 ∧ E4 < 268435456 := by
  exact ⟨by clear h0 h1 h2 h3 h4 h5 h6 h7; omega, by clear hE0 hE4; omega, by clear hD0 hD2 hd hE4; omega, by clear hD0 hD2 hd hE0; omega⟩
theorem sum8c {p0 p1 p2 p3 p4 p5 p6 p7 e f E0 E4 : Nat} (h0 : p0 ≤ 8) (h1 : p1 ≤ 8) (h2 : p2 ≤ 8) (h3 : p3 ≤ 8) (h4 : p4 ≤ 8) (h5 : p5 ≤ 8) (h6 : p6 ≤ 8) (h7 : p7 ≤ 8)
    (hE0 : E0 = (p0 + p1 + p2 + p3) + 256 * (p1 + p2 + p3 + p4) + 65536 * (p2 + p3 + p4 + p5) + 16777216 * (p3 + p4 + p5 + p6)) (hE4 : E4 = (p4 + p5 + p6 + p7) + 256 * (p5 + p6 + p7) + 65536 * (p6 + p7) + 16777216 * p7)
    (he : e = E0 + 4294967296 * E4) (hf : f = e + E4) : f % 128 = p0 + p1 + p2 + p3 + p4 + p5 + p6 + p7 := by
  obtain ⟨z, hz⟩ : ∃ z, f = (p0 + p1 + p2 + p3 + p4 + p5 + p6 + p7) + 128 * z := ⟨2 * ((p1 + p2 + p3 + p4) + 256 * (p2 + p3 + p4 + p5) + 65536 * (p3 + p4 + p5 + p6)) + 33554432 * E4 + 2 * ((p5 + p6 + p7) + 256 * (p6 + p7) + 65536 * p7), by clear h0 h1 h2 h3 h4 h5 h6 h7; omega⟩
  rw [hz, Nat.add_mul_mod_self_left]
  exact Nat.mod_eq_of_lt (by clear hE0 hE4 he hf hz; omega)
theorem sum8 {p0 p1 p2 p3 p4 p5 p6 p7 c d e f : Nat} (h0 : p0 ≤ 8) (h1 : p1 ≤ 8) (h2 : p2 ≤ 8) (h3 : p3 ≤ 8) (h4 : p4 ≤ 8) (h5 : p5 ≤ 8) (h6 : p6 ≤ 8) (h7 : p7 ≤ 8)
    (hc : c = val [p0, p1, p2, p3, p4, p5, p6, p7]) (hd : d = (c + c / 256) % 18446744073709551616) (he : e = (d + d / 65536) % 18446744073709551616) (hf : f = (e + e / 4294967296) % 18446744073709551616) :
    f % 128 = p0 + p1 + p2 + p3 + p4 + p5 + p6 + p7 ∧ f < 9223372036854775808 := by
  have c0 : c = p0 + 256 * (p1 + 256 * p2 + 65536 * p3 + 16777216 * p4 + 4294967296 * p5 + 1099511627776 * p6 + 281474976710656 * p7) := by
    rw [hc]
    clear hc hd he hf h0 h1 h2 h3 h4 h5 h6 h7
    simp only [val]
    omega
  obtain ⟨x1, x2, x3, x4⟩ := sum8a h0 h1 h2 h3 h4 h5 h6 h7 rfl c0 rfl rfl
  rw [divDigit (by decide) x4 c0, Nat.mod_eq_of_lt x2, x1] at hd
  obtain ⟨y1, y2, y3, y4⟩ := sum8b h0 h1 h2 h3 h4 h5 h6 h7 rfl rfl hd rfl rfl
  rw [divDigit (by decide) x3 hd, Nat.mod_eq_of_lt y2, y1] at he
  have hl : e + ((p4 + p5 + p6 + p7) + 256 * (p5 + p6 + p7) + 65536 * (p6 + p7) + 16777216 * p7) < 9223372036854775808 := by
    clear hf hd hc c0 x1 x2 x3 y1 y2
    omega
  rw [divDigit (by decide) y3 he, Nat.mod_eq_of_lt (Nat.lt_trans hl (by decide))] at hf
  exact ⟨sum8c h0 h1 h2 h3 h4 h5 h6 h7 rfl rfl he hf, by rw [hf]; exact hl⟩
def mk1 : Nat → Nat | 0 => 0 | n + 1 => 1 + 256 * mk1 n
theorem val_le (B : Nat) : ∀ ys : List Nat, (∀ y ∈ ys, y ≤ B) → val ys ≤ B * mk1 ys.length
  | [], _ => by simp [val]
  | y :: ys, h => by
    have ih := val_le B ys fun z hz => h z (by simp [hz])
    have hy := h y (by simp)
    show y + 256 * val ys ≤ B * (1 + 256 * mk1 ys.length)
    rw [Nat.mul_add, Nat.mul_one, Nat.mul_left_comm]
    omega
theorem m5_8 : mk5 8 = 6148914691236517205 := by decide +kernel
theorem m3_8 : mk3 8 = 3689348814741910323 := by decide +kernel
theorem mF_8 : mkF 8 = 1085102592571150095 := by decide +kernel
theorem byte_key {ys : List Nat} (hy : ∀ y ∈ ys, y < 256) : ∀ y ∈ ys, byteA y < 256 ∧ byteB (byteA y) < 256 ∧ byteB (byteA y) / 16 ≤ 4 ∧ byteB (byteA y) % 16 ≤ 4 ∧ byteC (byteB (byteA y)) = cnt (fun j => y.testBit j) 8 := fun y h => byteA_fac ⟨y, hy y h⟩
/-- The first three steps. -/
theorem ones_three {ys : List Nat} (hl : ys.length = 8) (hy : ∀ y ∈ ys, y < 256) {a b c : Nat} (ha : a = (val ys / 2 &&& 6148914691236517205) + (val ys &&& 6148914691236517205)) (hb : b = (a / 4 &&& 3689348814741910323) + (a &&& 3689348814741910323))
    (hc : c = (b / 16 + b) &&& 1085102592571150095) : c = val (ys.map fun y => cnt (fun j => y.testBit j) 8) ∧ a < 18446744073709551616 ∧ b ≤ 4919131752989213764 := by
  have key := byte_key hy
  have hA := stepA ys hy
  rw [hl, m5_8, ← ha] at hA
  have hyA : ∀ y ∈ ys.map byteA, y < 256 := by
    intro y h
    obtain ⟨z, hz, rfl⟩ := List.mem_map.1 h
    exact (key z hz).1
  have hB := stepB (ys.map byteA) hyA
  rw [List.length_map, hl, m3_8, ← hA, ← hb] at hB
  have hyB : ∀ y ∈ (ys.map byteA).map byteB, y < 256 ∧ (y / 16 ≤ 4 ∧ y % 16 ≤ 4) := by
    intro y h
    obtain ⟨z, hz, rfl⟩ := List.mem_map.1 h
    obtain ⟨u, hu, rfl⟩ := List.mem_map.1 hz
    exact ⟨(key u hu).2.1, (key u hu).2.2.1, (key u hu).2.2.2.1⟩
  have hC := stepC ((ys.map byteA).map byteB) fun y h => (hyB y h).2
  rw [List.length_map, List.length_map, hl, mF_8, ← hB, ← hc] at hC
  refine ⟨?_, ?_, ?_⟩
  · rw [hC, List.map_map, List.map_map]
    congr 1
    apply List.map_congr_left
    intro y h
    exact (key y h).2.2.2.2
  · have a1 := val_lt _ hyA
    rw [List.length_map, hl, ← hA] at a1
    exact a1
  · rw [hB]
    have h8 := val_le 68 ((ys.map byteA).map byteB) fun y h => by
      have := (hyB y h).2
      omega
    rw [List.length_map, List.length_map, hl] at h8
    exact Nat.le_trans h8 (show 68 * mk1 8 ≤ 4919131752989213764 by decide +kernel)
/-- How many bits a word has, as it is reckoned. -/
theorem ones_word {x a b c d e f : Nat} (hx : x < 18446744073709551616) (ha : a = (x / 2 &&& 6148914691236517205) + (x &&& 6148914691236517205)) (hb : b = (a / 4 &&& 3689348814741910323) + (a &&& 3689348814741910323))
    (hc : c = (b / 16 + b) &&& 1085102592571150095) (hd : d = (c + c / 256) % 18446744073709551616) (he : e = (d + d / 65536) % 18446744073709551616) (hf : f = (e + e / 4294967296) % 18446744073709551616) :
    f % 128 = cnt (fun j => x.testBit j) 64 ∧ f < 9223372036854775808 ∧ a < 18446744073709551616 ∧ b ≤ 4919131752989213764 := by
  obtain ⟨y0, y1, y2, y3, y4, y5, y6, y7, hy, rfl⟩ := word_bytes hx
  obtain ⟨h1, h2, h3⟩ := ones_three rfl hy ha hb hc
  have s := sum8 (cnt_le _ 8) (cnt_le _ 8) (cnt_le _ 8) (cnt_le _ 8) (cnt_le _ 8) (cnt_le _ 8) (cnt_le _ 8) (cnt_le _ 8) h1 hd he hf
  refine ⟨?_, s.2, h2, h3⟩
  have hcnt := val_cnt _ hy
  rw [s.1]
  refine Eq.trans ?_ hcnt.symm
  simp only [List.map_cons, List.map_nil, List.sum_cons, List.sum_nil, Nat.add_assoc, Nat.add_zero]
end Go.Proofs.YtoeiemeffiiidaaDoor

namespace Go.Proofs.YtoeiemeffiiidaaDoor
set_option maxRecDepth 100000
set_option linter.unusedSimpArgs false
set_option linter.unusedVariables false
open Go.RowKit


def bitsN (f : Nat → Bool) : Nat → Nat
  | 0 => 0
  | n + 1 => bitsN f n ||| (if f n then 2 ^ n else 0)
theorem bitsN_bit (f : Nat → Bool) (j : Nat) : ∀ n, (bitsN f n).testBit j = (decide (j < n) && f j)
  | 0 => by simp [bitsN]
  | n + 1 => by
    show (bitsN f n ||| (if f n then 2 ^ n else 0)).testBit j = _
    rw [Nat.testBit_or, bitsN_bit f j n]
    by_cases h : j = n
    · subst h
      cases hf : f j
      · simp
      · simp [Nat.testBit_two_pow]
    · have h1 : ¬ n = j := fun e => h e.symm
      by_cases h2 : j < n
      · have h3 : j < n + 1 := by omega
        cases hf : f n <;> simp [h2, h3, Nat.testBit_two_pow, h1]
      · have h3 : ¬ j < n + 1 := by omega
        cases hf : f n <;> simp [h2, h3, Nat.testBit_two_pow, h1]
theorem bitsN_lt (f : Nat → Bool) : ∀ n, bitsN f n < 2 ^ n
  | 0 => by simp [bitsN]
  | n + 1 => by
    show bitsN f n ||| (if f n then 2 ^ n else 0) < 2 ^ (n + 1)
    have h := bitsN_lt f n
    refine Nat.or_lt_two_pow (by rw [Nat.pow_succ]; omega) ?_
    split
    · rw [Nat.pow_succ]; have := Nat.two_pow_pos n; omega
    · exact Nat.two_pow_pos _
/-- A word of what is painted. -/
@[irreducible] def wordP (P : Nat → Bool) (k : Nat) : Nat := bitsN (fun j => P (64 * k + j)) 64
theorem wordP_lt (P : Nat → Bool) (k : Nat) : wordP P k < 18446744073709551616 := by
  unfold wordP
  exact bitsN_lt _ 64
theorem wordP_bit (P : Nat → Bool) (k j : Nat) (h : j < 64) : (wordP P k).testBit j = P (64 * k + j) := by
  unfold wordP
  rw [bitsN_bit]
  simp [h]
def updP (P : Nat → Bool) (i : Nat) (b : Bool) : Nat → Bool := fun x => if x = i then b else P x
theorem word_ext {x y : Nat} (hx : x < 18446744073709551616) (hy : y < 18446744073709551616) (h : ∀ j, j < 64 → x.testBit j = y.testBit j) : x = y := by
  apply Nat.eq_of_testBit_eq
  intro j
  by_cases hj : j < 64
  · exact h j hj
  · have e : (2 : Nat) ^ 64 ≤ 2 ^ j := Nat.pow_le_pow_right (by omega) (by omega)
    rw [Nat.testBit_lt_two_pow (Nat.lt_of_lt_of_le (show x < 2 ^ 64 from hx) e), Nat.testBit_lt_two_pow (Nat.lt_of_lt_of_le (show y < 2 ^ 64 from hy) e)]
theorem wordP_other (P : Nat → Bool) (k j : Nat) (b : Bool) {k' : Nat} (hj : j < 64) (h : ¬ k' = k) : wordP (updP P (64 * k + j) b) k' = wordP P k' :=
  word_ext (wordP_lt _ _) (wordP_lt _ _) fun i hi => by
    rw [wordP_bit _ _ _ hi, wordP_bit _ _ _ hi]
    unfold updP
    rw [if_neg (by omega)]
theorem pow_lt64 {j : Nat} (hj : j < 64) : (2 : Nat) ^ j < 18446744073709551616 := Nat.pow_lt_pow_right (by omega) (show j < 64 from hj)
theorem wordP_set (P : Nat → Bool) (k j : Nat) (hj : j < 64) : wordP P k ||| 2 ^ j = wordP (updP P (64 * k + j) true) k :=
  word_ext (Nat.or_lt_two_pow (n := 64) (wordP_lt _ _) (pow_lt64 hj)) (wordP_lt _ _) fun i hi => by
    rw [Nat.testBit_or, Nat.testBit_two_pow, wordP_bit _ _ _ hi, wordP_bit _ _ _ hi]
    unfold updP
    by_cases h : i = j
    · subst h; simp
    · have h1 : ¬ j = i := fun e => h e.symm
      have h2 : ¬ 64 * k + i = 64 * k + j := by omega
      simp [h, h1, h2]
theorem bits_andNot_u64_nat (a b : Nat) (ha : a < 18446744073709551616) (hb : b < 18446744073709551616) : ∃ c : Nat, bits .andNot .u64 (a : Int) (b : Int) = (c : Int) ∧ c < 18446744073709551616 ∧ ∀ j, j < 64 → c.testBit j = (a.testBit j && !b.testBit j) := by
  have h1 : (BitVec.ofInt 64 (a : Int)).toNat = a := by
    rw [BitVec.ofInt_natCast, BitVec.toNat_ofNat]; exact Nat.mod_eq_of_lt (by omega)
  have h2 : (BitVec.ofInt 64 (b : Int)).toNat = b := by
    rw [BitVec.ofInt_natCast, BitVec.toNat_ofNat]; exact Nat.mod_eq_of_lt (by omega)
  refine ⟨(BitVec.ofInt 64 (a : Int) &&& ~~~BitVec.ofInt 64 (b : Int)).toNat, ?_, (BitVec.ofInt 64 (a : Int) &&& ~~~BitVec.ofInt 64 (b : Int)).isLt, fun j hj => ?_⟩
  · show IntKind.u64.wrap ((BitVec.ofInt 64 (a : Int) &&& ~~~BitVec.ofInt 64 (b : Int)).toNat : Int) = _
    have := (BitVec.ofInt 64 (a : Int) &&& ~~~BitVec.ofInt 64 (b : Int)).isLt
    rw [IntKind.wrap_u64]
    omega
  · rw [← BitVec.getLsbD, BitVec.getLsbD_and, BitVec.getLsbD_not]
    unfold BitVec.getLsbD
    rw [h1, h2]
    simp [hj]
theorem wordP_clear (P : Nat → Bool) (k j : Nat) (hj : j < 64) : bits .andNot .u64 (wordP P k : Int) ((2 ^ j : Nat) : Int) = (wordP (updP P (64 * k + j) false) k : Int) := by
  obtain ⟨c, h1, h2, h3⟩ := bits_andNot_u64_nat (wordP P k) (2 ^ j) (wordP_lt _ _) (pow_lt64 hj)
  rw [h1]
  congr 1
  refine word_ext h2 (wordP_lt _ _) fun i hi => ?_
  rw [h3 i hi, Nat.testBit_two_pow, wordP_bit _ _ _ hi, wordP_bit _ _ _ hi]
  unfold updP
  by_cases h : i = j
  · subst h; simp
  · have h1 : ¬ j = i := fun e => h e.symm
    have h2 : ¬ 64 * k + i = 64 * k + j := by omega
    simp [h, h1, h2]
theorem bit_is (x j : Nat) (hx : x < 18446744073709551616) : (bits .and .u64 ((x : Int) / 2 ^ j) 1 == 1) = x.testBit j := by
  have e : ((x : Int) / 2 ^ j) = ((x / 2 ^ j : Nat) : Int) := by
    rw [Int.natCast_ediv]
    congr 1
  have h := bits_and_u64_nat (x / 2 ^ j) 1 (Nat.lt_of_le_of_lt (Nat.div_le_self _ _) hx) (by decide)
  rw [e, show (1 : Int) = ((1 : Nat) : Int) from rfl, h, Nat.and_one_is_mod]
  have ht : x.testBit j = decide (x / 2 ^ j % 2 = 1) := Nat.testBit_eq_decide_div_mod_eq
  rw [ht]
  rw [Bool.eq_iff_iff]
  simp
  omega
end Go.Proofs.YtoeiemeffiiidaaDoor

namespace Go.Proofs.YtoeiemeffiiidaaDoor
set_option maxRecDepth 100000
set_option linter.unusedSimpArgs false
set_option linter.unusedVariables false
open Go.RowKit


theorem heap_setCell (w : World) (b o : Nat) (v : Value) (i : Nat) : (w.setCell ⟨b, o, none⟩ v).heap[i]? = if b = i then (w.heap[i]?).map (fun | .cells c e f => .cells (c.setIfInBounds o v) e f | x => x) else w.heap[i]? := by
  unfold World.setCell
  simp only [Array.getElem?_modify]
  split
  · congr 1
  · rfl
theorem cell_setCell_self (w : World) (b o : Nat) (v : Value) : (w.setCell ⟨b, o, none⟩ v).cell? ⟨b, o, none⟩ = (w.cell? ⟨b, o, none⟩).map fun _ => v := by
  unfold World.cell?
  rw [heap_setCell]
  simp only [if_true]
  cases h : w.heap[b]? with
  | none => rfl
  | some x =>
    cases x with
    | cells c e f =>
      simp
      by_cases hl : o < c.size
      · simp [hl]
      · simp [hl]
    | _ => rfl
theorem cell_setCell_far (w : World) (b o b' o' : Nat) (v : Value) (h : ¬ (b' = b ∧ o' = o)) : (w.setCell ⟨b, o, none⟩ v).cell? ⟨b', o', none⟩ = w.cell? ⟨b', o', none⟩ := by
  unfold World.cell?
  rw [heap_setCell]
  by_cases hb : b = b'
  · subst hb
    simp only [if_true]
    cases w.heap[b]? with
    | none => rfl
    | some x =>
      cases x with
      | cells c e f =>
        simp
        rw [Array.getElem?_setIfInBounds, if_neg (by omega)]
      | _ => rfl
  · rw [if_neg hb]
theorem pow_cast {j : Nat} (hj : j < 64) : IntKind.u64.wrap ((2 : Int) ^ j) = ((2 ^ j : Nat) : Int) := by
  rw [IntKind.wrap_u64]
  have h := pow_lt64 hj
  have e : ((2 : Int) ^ j) = ((2 ^ j : Nat) : Int) := by simp
  rw [e]
  generalize 2 ^ j = x at h ⊢
  omega
/-- A map of granules: its block, its words' block. -/
structure Sh (w : World) (p q n : Nat) (P : Nat → Bool) : Prop where
  np : ¬ p = q
  ltp : p < w.heap.size
  ltq : q < w.heap.size
  c0 : w.cell? ⟨p, 0, none⟩ = some (.int .i64 n)
  c1 : w.cell? ⟨p, 1, none⟩ = some (.slice (some ⟨q, 0, none⟩) ((n + 63) / 64) ((n + 63) / 64))
  words : ∀ k, k < (n + 63) / 64 → w.cell? ⟨q, k, none⟩ = some (.int .u64 (wordP P k : Int)) ∧ w.frozen? ⟨q, k, none⟩ = false
  out : ∀ i, n ≤ i → P i = false
  bd : 1 ≤ n ∧ n ≤ 1048576
theorem Sh.only {S : Nat → Prop} {w w' : World} {p q n : Nat} {P : Nat → Bool} (h : Sh w p q n P) (x : Only S w w') (hp : ¬ S p) (hq : ¬ S q) : Sh w' p q n P :=
  ⟨h.np, Nat.lt_of_lt_of_le h.ltp x.size, Nat.lt_of_lt_of_le h.ltq x.size, by rw [x.cells p _ h.ltp hp]; exact h.c0, by rw [x.cells p _ h.ltp hp]; exact h.c1,
    fun k hk => by rw [x.cells q _ h.ltq hq, x.frozens q _ h.ltq hq]; exact h.words k hk, h.out, h.bd⟩
theorem Sh.ext {w w' : World} {p q n : Nat} {P : Nat → Bool} (h : Sh w p q n P) (x : Ext w w') : Sh w' p q n P := h.only (Only.ofExt (S := fun _ => False) x) id id
theorem Sh.set {w : World} {p q n i : Nat} {P : Nat → Bool} (h : Sh w p q n P) (hi : i < n) (b : Bool) : Sh (w.setCell ⟨q, i / 64, none⟩ (.int .u64 (wordP (updP P i b) (i / 64) : Int))) p q n (updP P i b) := by
  have x : Only (· = q) w (w.setCell ⟨q, i / 64, none⟩ (.int .u64 (wordP (updP P i b) (i / 64) : Int))) := Only.setCell (S := (· = q)) (Only.refl _ w) (.inl rfl) _
  refine ⟨h.np, Nat.lt_of_lt_of_le h.ltp x.size, Nat.lt_of_lt_of_le h.ltq x.size, by rw [x.cells p _ h.ltp h.np]; exact h.c0, by rw [x.cells p _ h.ltp h.np]; exact h.c1, fun k hk => ?_, fun j hj => ?_, h.bd⟩
  · obtain ⟨h1, h2⟩ := h.words k hk
    refine ⟨?_, by rw [World.frozen?_setCell]; exact h2⟩
    by_cases e : k = i / 64
    · subst e
      rw [cell_setCell_self, h1]
      rfl
    · rw [cell_setCell_far _ _ _ _ _ _ (by omega), h1]
      have e2 : i = 64 * (i / 64) + i % 64 := by omega
      rw [e2, wordP_other P (i / 64) (i % 64) b (by omega) (by omega)]
  · unfold updP
    rw [if_neg (by omega)]
    exact h.out j hj
theorem Sh.congr {w : World} {p q n : Nat} {P P' : Nat → Bool} (h : Sh w p q n P) (e : ∀ i, P i = P' i) : Sh w p q n P' := by
  have : P = P' := funext e
  rw [← this]
  exact h
set_option maxHeartbeats 1000000 in
theorem paint_true (p q n i : Nat) (P : Nat → Bool) (w : World) (h : Sh w p q n P) (hi : i < n) :
    Calls Tryd.prog 57 #[.pointer (some ⟨p, 0, none⟩), .int .i64 (i : Int), .bool true] w fun e w' => e = .returned (.tuple #[]) ∧ w.setCell ⟨q, i / 64, none⟩ (.int .u64 (wordP (updP P i true) (i / 64) : Int)) = w' := by
  obtain ⟨k, j, rfl, hj⟩ : ∃ k j : Nat, i = 64 * k + j ∧ j < 64 := ⟨i / 64, i % 64, by omega, by omega⟩
  have hkm : k < (n + 63) / 64 := by omega
  obtain ⟨hw, hf⟩ := h.words k hkm
  have h0 := h.c0
  have h1 := h.c1
  have hlp := h.ltp
  have hlq := h.ltq
  have hnp := h.np
  have hnp2 : ¬ q = p := fun e => hnp e.symm
  have hi0 : (0 : Int) ≤ ((64 * k + j : Nat) : Int) := by omega
  have hq1 : (((64 * k + j : Nat) : Int)).tdiv 64 = (k : Int) := by rw [Int.tdiv_eq_ediv_of_nonneg hi0]; omega
  have hr1 : (((64 * k + j : Nat) : Int)).tmod 64 = (j : Int) := by rw [Int.tmod_eq_emod_of_nonneg hi0]; omega
  have hk0 : (0 : Int) ≤ (k : Int) := by omega
  have hk1 : (k : Int) < (((n + 63) / 64 : Nat) : Int) := by omega
  have hj0 : (0 : Int) ≤ (j : Int) := by omega
  have hj1 : (j : Int) < 64 := by omega
  have HV : bits .or .u64 (wordP P k : Int) (IntKind.u64.wrap ((2 : Int) ^ j)) = (wordP (updP P (64 * k + j) true) k : Int) := by
    rw [pow_cast hj]
    rw [bits_or_u64_nat _ _ (wordP_lt _ _) (pow_lt64 hj), wordP_set P k j hj]
  rw [show (64 * k + j) / 64 = k by omega]
  have hkb : (k : Int) ≤ 1048576 := by have := h.bd; omega
  have hwk : wrap64 (k : Int) = (k : Int) := by unfold wrap64; omega
  have hwj : wrap64 (j : Int) = (j : Int) := by clear hwk; unfold wrap64; omega
  obtain ⟨x, hx⟩ : ∃ x : Int, ((64 * k + j : Nat) : Int) = x := ⟨_, rfl⟩
  rw [hx] at hi0 hq1 hr1 ⊢
  clear hx
  obtain ⟨m, hm⟩ : ∃ m, (n + 63) / 64 = m := ⟨_, rfl⟩
  rw [hm] at h1 hk1
  generalize wordP (updP P (64 * k + j) true) k = y at HV ⊢
  generalize wordP P k = z at hw HV
  have HVH := hid HV
  clear HV
  go_enter Tryd.func57, Tryd.ntmps57
  go_wp2
  rw [HVH.out]
  go_end0
  exact ⟨rfl, rfl⟩

set_option maxHeartbeats 1000000 in
theorem paint_false (p q n i : Nat) (P : Nat → Bool) (w : World) (h : Sh w p q n P) (hi : i < n) :
    Calls Tryd.prog 57 #[.pointer (some ⟨p, 0, none⟩), .int .i64 (i : Int), .bool false] w fun e w' => e = .returned (.tuple #[]) ∧ w.setCell ⟨q, i / 64, none⟩ (.int .u64 (wordP (updP P i false) (i / 64) : Int)) = w' := by
  obtain ⟨k, j, rfl, hj⟩ : ∃ k j : Nat, i = 64 * k + j ∧ j < 64 := ⟨i / 64, i % 64, by omega, by omega⟩
  have hkm : k < (n + 63) / 64 := by omega
  obtain ⟨hw, hf⟩ := h.words k hkm
  have h0 := h.c0
  have h1 := h.c1
  have hlp := h.ltp
  have hlq := h.ltq
  have hnp := h.np
  have hnp2 : ¬ q = p := fun e => hnp e.symm
  have hi0 : (0 : Int) ≤ ((64 * k + j : Nat) : Int) := by omega
  have hq1 : (((64 * k + j : Nat) : Int)).tdiv 64 = (k : Int) := by rw [Int.tdiv_eq_ediv_of_nonneg hi0]; omega
  have hr1 : (((64 * k + j : Nat) : Int)).tmod 64 = (j : Int) := by rw [Int.tmod_eq_emod_of_nonneg hi0]; omega
  have hk0 : (0 : Int) ≤ (k : Int) := by omega
  have hk1 : (k : Int) < (((n + 63) / 64 : Nat) : Int) := by omega
  have hj0 : (0 : Int) ≤ (j : Int) := by omega
  have hj1 : (j : Int) < 64 := by omega
  have HV : bits .andNot .u64 (wordP P k : Int) (IntKind.u64.wrap ((2 : Int) ^ j)) = (wordP (updP P (64 * k + j) false) k : Int) := by
    rw [pow_cast hj]
    exact wordP_clear P k j hj
  rw [show (64 * k + j) / 64 = k by omega]
  have hkb : (k : Int) ≤ 1048576 := by have := h.bd; omega
  have hwk : wrap64 (k : Int) = (k : Int) := by unfold wrap64; omega
  have hwj : wrap64 (j : Int) = (j : Int) := by clear hwk; unfold wrap64; omega
  obtain ⟨x, hx⟩ : ∃ x : Int, ((64 * k + j : Nat) : Int) = x := ⟨_, rfl⟩
  rw [hx] at hi0 hq1 hr1 ⊢
  clear hx
  obtain ⟨m, hm⟩ : ∃ m, (n + 63) / 64 = m := ⟨_, rfl⟩
  rw [hm] at h1 hk1
  generalize wordP (updP P (64 * k + j) false) k = y at HV ⊢
  generalize wordP P k = z at hw HV
  have HVH := hid HV
  clear HV
  go_enter Tryd.func57, Tryd.ntmps57
  go_wp2
  rw [HVH.out]
  go_end0
  exact ⟨rfl, rfl⟩

end Go.Proofs.YtoeiemeffiiidaaDoor

namespace Go.Proofs.YtoeiemeffiiidaaDoor
set_option maxRecDepth 100000
set_option linter.unusedSimpArgs false
set_option linter.unusedVariables false
open Go.RowKit

end Go.Proofs.YtoeiemeffiiidaaDoor

namespace Go.Proofs.YtoeiemeffiiidaaDoor
set_option maxRecDepth 100000
set_option linter.unusedSimpArgs false
set_option linter.unusedVariables false
open Go.RowKit


/-- What Is tells of any address. -/
def isP (n : Nat) (P : Nat → Bool) (i : Int) : Bool := decide (0 ≤ i) && P (i.toNat / 16)
def hitsP (n : Nat) (P : Nat → Bool) (t : Bool) (b tp : Int) : Bool := t && (decide (b < tp) && isP n P b)

def updR (P : Nat → Bool) (a k : Nat) (b : Bool) : Nat → Bool := fun x => if a ≤ x ∧ x < a + k then b else P x
theorem updR_zero (P : Nat → Bool) (a : Nat) (b : Bool) : updR P a 0 b = P := by funext x; unfold updR; rw [if_neg (by omega)]
theorem updR_succ (P : Nat → Bool) (a k : Nat) (b : Bool) : updP (updR P a k b) (a + k) b = updR P a (k + 1) b := by
  funext x
  unfold updP updR
  by_cases h1 : x = a + k
  · rw [if_pos h1, if_pos (by omega)]
  · rw [if_neg h1]
    by_cases h2 : a ≤ x ∧ x < a + k
    · rw [if_pos h2, if_pos (by omega)]
    · rw [if_neg h2, if_neg (by omega)]
/-- May these be painted? -/
def fineP (n : Nat) (f t : Int) : Bool := decide (f % 16 = 0) && (decide (t % 16 = 0) && (decide (0 ≤ f) && (decide (f ≤ t) && decide (t ≤ 16 * (n : Int)))))
def paintP (n : Nat) (P : Nat → Bool) (f t : Int) (b : Bool) : Nat → Bool := if fineP n f t then updR P (f.toNat / 16) ((t.toNat - f.toNat) / 16) b else P
set_option maxHeartbeats 1000000 in
theorem paint_go_true (p q n F K : Nat) (P : Nat → Bool) (w : World) (h : Sh w p q n P) (hK : F + K ≤ n) :
    Calls Tryd.prog 36 #[.pointer (some ⟨p, 0, none⟩), .int .i64 (16 * (F : Int)), .int .i64 (16 * ((F : Int) + (K : Int))), .bool true] w fun e w' => e = .returned (.bool true) ∧ Sh w' p q n (updR P F K true) ∧ Only (· = q) w w' := by
  have h0 := h.c0
  have hlp := h.ltp
  have hbd := h.bd
  have HH := hid h
  have hF0 : (0 : Int) ≤ (F : Int) := by omega
  have hFK : (F : Int) + (K : Int) ≤ 1048576 := by omega
  clear h
  have r1 : (16 * (F : Int)).tmod 16 = 0 := by rw [Int.tmod_eq_emod_of_nonneg (by omega)]; omega
  have r2 : (16 * ((F : Int) + (K : Int))).tmod 16 = 0 := by rw [Int.tmod_eq_emod_of_nonneg (by omega)]; omega
  have q1 : (16 * (F : Int)).tdiv 16 = (F : Int) := by rw [Int.tdiv_eq_ediv_of_nonneg (by omega)]; omega
  have q2 : (16 * (K : Int)).tdiv 16 = (K : Int) := by rw [Int.tdiv_eq_ediv_of_nonneg (by omega)]; omega
  have s1 : 16 * ((F : Int) + (K : Int)) - 16 * (F : Int) = 16 * (K : Int) := by omega
  have g1 : 16 * (F : Int) ≤ 16 * ((F : Int) + (K : Int)) := by omega
  have g2 : 16 * ((F : Int) + (K : Int)) ≤ (n : Int) * 16 := by omega
  have g3 : 0 ≤ 16 * (F : Int) := by omega
  go_enter Tryd.func36, Tryd.ntmps36
  go_wp2
  go_loopw [10, 43] (fun z iv wr => ∃ k : Nat, k ≤ K ∧ iv = .int .i64 (k : Int) ∧ Hid (Sh wr p q n (updR P F k true)) ∧ Hid (Only (· = q) w wr)) (fun _ iv _ => K - (intOf iv).toNat)
  case atStart => exact ⟨0, Nat.zero_le _, rfl, hid (by rw [updR_zero]; exact HH.out), hid (Only.refl _ _)⟩
  case round =>
    obtain ⟨k, hk, rfl, hs, hx⟩ := hrel
    by_cases hlt : k < K
    · have hk0 : (0 : Int) ≤ (k : Int) := by omega
      have hk1 : (k : Int) < (K : Int) := by omega
      obtain ⟨g, hg⟩ : ∃ g : Nat, F + k = g := ⟨_, rfl⟩
      have hgb : (g : Int) ≤ 1048576 := by omega
      have HSUM := hid (show (F : Int) + (k : Int) = (g : Int) by omega)
      have HLT := hid (show g < n by omega)
      have HS2 := hid (hs.out.set HLT.out true)
      have HP := hid (show updP (updR P F k true) g true = updR P F (k + 1) true by rw [← hg]; exact updR_succ P F k true)
      rw [HP.out] at HS2
      have HX2 := hid (Only.setCell (S := (· = q)) hx.out (b := q) (o := g / 64) (.inl rfl) (.int .u64 (wordP (updR P F (k + 1) true) (g / 64) : Int)))
      clear hg hgb
      go_wp2_with fail
      rw [HSUM.out]
      refine Calls.mono (paint_true p q n g (updR P F k true) _ hs.out HLT.out) ?_
      rw [HP.out]
      rintro e w1 ⟨rfl, rfl⟩
      go_wp2
      go_roundw
      case rel => exact ⟨k + 1, by omega, by first | rfl | go_num, HS2, HX2⟩
      case measure => first | (simp [intOf]; done) | (simp [intOf]; omega)
    · obtain rfl : k = K := by omega
      go_wp2
      go_ret
      exact ⟨rfl, hs.out, hx.out⟩

set_option maxHeartbeats 1000000 in
theorem paint_go_false (p q n F K : Nat) (P : Nat → Bool) (w : World) (h : Sh w p q n P) (hK : F + K ≤ n) :
    Calls Tryd.prog 36 #[.pointer (some ⟨p, 0, none⟩), .int .i64 (16 * (F : Int)), .int .i64 (16 * ((F : Int) + (K : Int))), .bool false] w fun e w' => e = .returned (.bool true) ∧ Sh w' p q n (updR P F K false) ∧ Only (· = q) w w' := by
  have h0 := h.c0
  have hlp := h.ltp
  have hbd := h.bd
  have HH := hid h
  have hF0 : (0 : Int) ≤ (F : Int) := by omega
  have hFK : (F : Int) + (K : Int) ≤ 1048576 := by omega
  clear h
  have r1 : (16 * (F : Int)).tmod 16 = 0 := by rw [Int.tmod_eq_emod_of_nonneg (by omega)]; omega
  have r2 : (16 * ((F : Int) + (K : Int))).tmod 16 = 0 := by rw [Int.tmod_eq_emod_of_nonneg (by omega)]; omega
  have q1 : (16 * (F : Int)).tdiv 16 = (F : Int) := by rw [Int.tdiv_eq_ediv_of_nonneg (by omega)]; omega
  have q2 : (16 * (K : Int)).tdiv 16 = (K : Int) := by rw [Int.tdiv_eq_ediv_of_nonneg (by omega)]; omega
  have s1 : 16 * ((F : Int) + (K : Int)) - 16 * (F : Int) = 16 * (K : Int) := by omega
  have g1 : 16 * (F : Int) ≤ 16 * ((F : Int) + (K : Int)) := by omega
  have g2 : 16 * ((F : Int) + (K : Int)) ≤ (n : Int) * 16 := by omega
  have g3 : 0 ≤ 16 * (F : Int) := by omega
  go_enter Tryd.func36, Tryd.ntmps36
  go_wp2
  go_loopw [10, 43] (fun z iv wr => ∃ k : Nat, k ≤ K ∧ iv = .int .i64 (k : Int) ∧ Hid (Sh wr p q n (updR P F k false)) ∧ Hid (Only (· = q) w wr)) (fun _ iv _ => K - (intOf iv).toNat)
  case atStart => exact ⟨0, Nat.zero_le _, rfl, hid (by rw [updR_zero]; exact HH.out), hid (Only.refl _ _)⟩
  case round =>
    obtain ⟨k, hk, rfl, hs, hx⟩ := hrel
    by_cases hlt : k < K
    · have hk0 : (0 : Int) ≤ (k : Int) := by omega
      have hk1 : (k : Int) < (K : Int) := by omega
      obtain ⟨g, hg⟩ : ∃ g : Nat, F + k = g := ⟨_, rfl⟩
      have hgb : (g : Int) ≤ 1048576 := by omega
      have HSUM := hid (show (F : Int) + (k : Int) = (g : Int) by omega)
      have HLT := hid (show g < n by omega)
      have HS2 := hid (hs.out.set HLT.out false)
      have HP := hid (show updP (updR P F k false) g false = updR P F (k + 1) false by rw [← hg]; exact updR_succ P F k false)
      rw [HP.out] at HS2
      have HX2 := hid (Only.setCell (S := (· = q)) hx.out (b := q) (o := g / 64) (.inl rfl) (.int .u64 (wordP (updR P F (k + 1) false) (g / 64) : Int)))
      clear hg hgb
      go_wp2_with fail
      rw [HSUM.out]
      refine Calls.mono (paint_false p q n g (updR P F k false) _ hs.out HLT.out) ?_
      rw [HP.out]
      rintro e w1 ⟨rfl, rfl⟩
      go_wp2
      go_roundw
      case rel => exact ⟨k + 1, by omega, by first | rfl | go_num, HS2, HX2⟩
      case measure => first | (simp [intOf]; done) | (simp [intOf]; omega)
    · obtain rfl : k = K := by omega
      go_wp2
      go_ret
      exact ⟨rfl, hs.out, hx.out⟩


theorem tmod_eq {x : Int} (h : x % 16 = 0) : x.tmod 16 = 0 := Int.tmod_eq_zero_of_dvd (Int.dvd_of_emod_eq_zero h)
theorem tmod_ne {x : Int} (h : ¬ x % 16 = 0) : ¬ x.tmod 16 = 0 := fun e => h (Int.emod_eq_zero_of_dvd (Int.dvd_of_tmod_eq_zero e))
set_option maxHeartbeats 1000000 in
theorem paint_no1 (p q n : Nat) (P : Nat → Bool) (f t : Int) (b : Bool) (w : World) (h : Sh w p q n P) (h1 : ¬ f % 16 = 0) :
    Calls Tryd.prog 36 #[.pointer (some ⟨p, 0, none⟩), .int .i64 f, .int .i64 t, .bool b] w fun e w' => e = .returned (.bool false) ∧ w = w' := by
  have h0 := h.c0
  have hlp := h.ltp
  have hbd := h.bd
  have r1 : ¬ f.tmod 16 = 0 := tmod_ne h1
  clear h
  go_enter Tryd.func36, Tryd.ntmps36
  go_wp2
  go_ret
  exact ⟨rfl, rfl⟩

set_option maxHeartbeats 1000000 in
theorem paint_no2 (p q n : Nat) (P : Nat → Bool) (f t : Int) (b : Bool) (w : World) (h : Sh w p q n P) (h1 : f % 16 = 0) (h2 : ¬ t % 16 = 0) :
    Calls Tryd.prog 36 #[.pointer (some ⟨p, 0, none⟩), .int .i64 f, .int .i64 t, .bool b] w fun e w' => e = .returned (.bool false) ∧ w = w' := by
  have h0 := h.c0
  have hlp := h.ltp
  have hbd := h.bd
  have r1 : f.tmod 16 = 0 := tmod_eq h1
  have r2 : ¬ t.tmod 16 = 0 := tmod_ne h2
  clear h
  go_enter Tryd.func36, Tryd.ntmps36
  go_wp2
  go_ret
  exact ⟨rfl, rfl⟩

set_option maxHeartbeats 1000000 in
theorem paint_no3 (p q n : Nat) (P : Nat → Bool) (f t : Int) (b : Bool) (w : World) (h : Sh w p q n P) (h1 : f % 16 = 0) (h2 : t % 16 = 0) (h3 : f < 0) :
    Calls Tryd.prog 36 #[.pointer (some ⟨p, 0, none⟩), .int .i64 f, .int .i64 t, .bool b] w fun e w' => e = .returned (.bool false) ∧ w = w' := by
  have h0 := h.c0
  have hlp := h.ltp
  have hbd := h.bd
  have r1 : f.tmod 16 = 0 := tmod_eq h1
  have r2 : t.tmod 16 = 0 := tmod_eq h2
  clear h
  go_enter Tryd.func36, Tryd.ntmps36
  go_wp2
  go_ret
  exact ⟨rfl, rfl⟩

set_option maxHeartbeats 1000000 in
theorem paint_no4 (p q n : Nat) (P : Nat → Bool) (f t : Int) (b : Bool) (w : World) (h : Sh w p q n P) (h1 : f % 16 = 0) (h2 : t % 16 = 0) (h3 : ¬ f < 0) (h4 : t < f) :
    Calls Tryd.prog 36 #[.pointer (some ⟨p, 0, none⟩), .int .i64 f, .int .i64 t, .bool b] w fun e w' => e = .returned (.bool false) ∧ w = w' := by
  have h0 := h.c0
  have hlp := h.ltp
  have hbd := h.bd
  have r1 : f.tmod 16 = 0 := tmod_eq h1
  have r2 : t.tmod 16 = 0 := tmod_eq h2
  clear h
  go_enter Tryd.func36, Tryd.ntmps36
  go_wp2
  go_ret
  exact ⟨rfl, rfl⟩

set_option maxHeartbeats 1000000 in
theorem paint_no5 (p q n : Nat) (P : Nat → Bool) (f t : Int) (b : Bool) (w : World) (h : Sh w p q n P) (h1 : f % 16 = 0) (h2 : t % 16 = 0) (h3 : ¬ f < 0) (h4 : ¬ t < f) (h5 : (n : Int) * 16 < t) :
    Calls Tryd.prog 36 #[.pointer (some ⟨p, 0, none⟩), .int .i64 f, .int .i64 t, .bool b] w fun e w' => e = .returned (.bool false) ∧ w = w' := by
  have h0 := h.c0
  have hlp := h.ltp
  have hbd := h.bd
  have r1 : f.tmod 16 = 0 := tmod_eq h1
  have r2 : t.tmod 16 = 0 := tmod_eq h2
  clear h
  go_enter Tryd.func36, Tryd.ntmps36
  go_wp2
  go_ret
  exact ⟨rfl, rfl⟩


theorem paint_any {p q n : Nat} {P : Nat → Bool} {w : World} (h : Sh w p q n P) (f t : Int) (b : Bool) :
    Calls Tryd.prog 36 #[.pointer (some ⟨p, 0, none⟩), .int .i64 f, .int .i64 t, .bool b] w fun e w' => e = .returned (.bool (fineP n f t)) ∧ Sh w' p q n (paintP n P f t b) ∧ Only (· = q) w w' := by
  cases hf : fineP n f t with
  | false =>
    have hp : paintP n P f t b = P := by unfold paintP; rw [hf]; rfl
    rw [hp]
    have key : Calls Tryd.prog 36 #[.pointer (some ⟨p, 0, none⟩), .int .i64 f, .int .i64 t, .bool b] w fun e w' => e = .returned (.bool false) ∧ w = w' := by
      by_cases h1 : f % 16 = 0
      · by_cases h2 : t % 16 = 0
        · by_cases h3 : f < 0
          · exact paint_no3 p q n P f t b w h h1 h2 h3
          · by_cases h4 : t < f
            · exact paint_no4 p q n P f t b w h h1 h2 h3 h4
            · by_cases h5 : (n : Int) * 16 < t
              · exact paint_no5 p q n P f t b w h h1 h2 h3 h4 h5
              · exfalso
                unfold fineP at hf
                simp [h1, h2] at hf
                omega
        · exact paint_no2 p q n P f t b w h h1 h2
      · exact paint_no1 p q n P f t b w h h1
    exact key.mono fun e w' ⟨h1, h2⟩ => ⟨h1, h2 ▸ h, h2 ▸ Only.refl _ _⟩
  | true =>
    have hp : paintP n P f t b = updR P (f.toNat / 16) ((t.toNat - f.toNat) / 16) b := by unfold paintP; rw [hf]; rfl
    rw [hp]
    unfold fineP at hf
    simp only [Bool.and_eq_true, decide_eq_true_eq] at hf
    obtain ⟨h1, h2, h3, h4, h5⟩ := hf
    have e1 : f = 16 * ((f.toNat / 16 : Nat) : Int) := by omega
    have e2 : t = 16 * (((f.toNat / 16 : Nat) : Int) + (((t.toNat - f.toNat) / 16 : Nat) : Int)) := by omega
    have hK : f.toNat / 16 + (t.toNat - f.toNat) / 16 ≤ n := by omega
    generalize f.toNat / 16 = F at e1 e2 hK ⊢
    generalize (t.toNat - f.toNat) / 16 = K at e2 hK ⊢
    subst e1 e2
    cases b
    · exact paint_go_false p q n F K P w h hK
    · exact paint_go_true p q n F K P w h hK
end Go.Proofs.YtoeiemeffiiidaaDoor

namespace Go.Proofs.YtoeiemeffiiidaaDoor
set_option maxRecDepth 100000
set_option linter.unusedSimpArgs false
set_option linter.unusedVariables false
open Go.RowKit


def onesA (x : Int) : Int := IntKind.u64.wrap (bits BinOp.and IntKind.u64 (x / 2) 6148914691236517205 + bits BinOp.and IntKind.u64 x 6148914691236517205)
def onesB (a : Int) : Int := IntKind.u64.wrap (bits BinOp.and IntKind.u64 (a / 4) 3689348814741910323 + bits BinOp.and IntKind.u64 a 3689348814741910323)
def onesC (b : Int) : Int := bits BinOp.and IntKind.u64 (IntKind.u64.wrap (b / 16 + b)) 1085102592571150095
def onesD (c : Int) : Int := IntKind.u64.wrap (c + c / 256)
def onesE (c : Int) : Int := IntKind.u64.wrap (c + c / 65536)
def onesF (c : Int) : Int := IntKind.u64.wrap (c + c / 4294967296)
def ones (x : Int) : Int := bits BinOp.and IntKind.i64 (wrap64 (onesF (onesE (onesD (onesC (onesB (onesA x))))))) 127
theorem and_u64_lit (a : Nat) (m : Nat) (ha : a < 18446744073709551616) (hm : m < 18446744073709551616) (M : Int) (e : M = (m : Int)) : bits .and .u64 (a : Int) M = ((a &&& m : Nat) : Int) := by
  rw [e]
  exact bits_and_u64_nat a m ha hm
theorem bits_and127 (f : Nat) (hf : f < 9223372036854775808) : bits .and .i64 (f : Int) 127 = ((f % 128 : Nat) : Int) := by
  have h1 : (BitVec.ofInt 64 (f : Int)).toNat = f := by
    rw [BitVec.ofInt_natCast, BitVec.toNat_ofNat]; exact Nat.mod_eq_of_lt (by omega)
  have h2 : (BitVec.ofInt 64 (127 : Int)).toNat = 127 := by decide
  show IntKind.i64.wrap ((BitVec.ofInt 64 (f : Int) &&& BitVec.ofInt 64 (127 : Int)).toNat : Int) = _
  rw [BitVec.toNat_and, h1, h2, show (127 : Nat) = 2 ^ 7 - 1 from rfl, Nat.and_two_pow_sub_one_eq_mod]
  exact wrap_small _ (by omega) (by omega)
theorem ones_val (x : Nat) (hx : x < 18446744073709551616) : ones (x : Int) = (cnt (fun j => x.testBit j) 64 : Int) := by
  obtain ⟨a, ha⟩ : ∃ a, a = (x / 2 &&& 6148914691236517205) + (x &&& 6148914691236517205) := ⟨_, rfl⟩
  obtain ⟨b, hb⟩ : ∃ b, b = (a / 4 &&& 3689348814741910323) + (a &&& 3689348814741910323) := ⟨_, rfl⟩
  obtain ⟨c, hc⟩ : ∃ c, c = (b / 16 + b) &&& 1085102592571150095 := ⟨_, rfl⟩
  obtain ⟨d, hd⟩ : ∃ d, d = (c + c / 256) % 18446744073709551616 := ⟨_, rfl⟩
  obtain ⟨e, he⟩ : ∃ e, e = (d + d / 65536) % 18446744073709551616 := ⟨_, rfl⟩
  obtain ⟨f, hf⟩ : ∃ f, f = (e + e / 4294967296) % 18446744073709551616 := ⟨_, rfl⟩
  obtain ⟨h1, h2, h3, h4⟩ := ones_word hx ha hb hc hd he hf
  have hA : onesA (x : Int) = (a : Int) := by
    unfold onesA
    rw [show ((x : Int) / 2) = ((x / 2 : Nat) : Int) from rfl, and_u64_lit (x / 2) 6148914691236517205 (by omega) (by decide) 6148914691236517205 rfl, and_u64_lit x 6148914691236517205 hx (by decide) 6148914691236517205 rfl, IntKind.wrap_u64]
    clear hb hc hd he hf h1 h2 h4
    omega
  have hB : onesB (a : Int) = (b : Int) := by
    unfold onesB
    rw [show ((a : Int) / 4) = ((a / 4 : Nat) : Int) from rfl, and_u64_lit (a / 4) 3689348814741910323 (by omega) (by decide) 3689348814741910323 rfl, and_u64_lit a 3689348814741910323 h3 (by decide) 3689348814741910323 rfl, IntKind.wrap_u64]
    clear ha hA hc hd he hf h1 h2 h3
    omega
  have hC : onesC (b : Int) = (c : Int) := by
    unfold onesC
    have hw : IntKind.u64.wrap ((b : Int) / 16 + (b : Int)) = ((b / 16 + b : Nat) : Int) := by
      rw [IntKind.wrap_u64]
      clear ha hA hB hb hc hd he hf h1 h2 h3
      omega
    rw [hw, and_u64_lit (b / 16 + b) 1085102592571150095 (by clear ha hA hB hb hc hd he hf h1 h2 h3 hw; omega) (by decide) 1085102592571150095 rfl, hc]
  have hD : onesD (c : Int) = (d : Int) := by
    unfold onesD
    rw [IntKind.wrap_u64, hd]
    rfl
  have hE : onesE (d : Int) = (e : Int) := by
    unfold onesE
    rw [IntKind.wrap_u64, he]
    rfl
  have hF : onesF (e : Int) = (f : Int) := by
    unfold onesF
    rw [IntKind.wrap_u64, hf]
    rfl
  unfold ones
  rw [hA, hB, hC, hD, hE, hF]
  have hw : wrap64 (f : Int) = (f : Int) := by
    clear ha hA hB hb hc hd he hf h1 h3 h4 hC hD hE hF
    unfold wrap64
    omega
  rw [hw, bits_and127 f h2, h1]
set_option maxHeartbeats 1000000 in
theorem ones64 (x : Nat) (w : World) (hx : x < 18446744073709551616) :
    Calls Tryd.prog 48 #[.int .u64 (x : Int)] w fun e w' => e = .returned (.int .i64 (cnt (fun j => x.testBit j) 64 : Int)) ∧ w = w' := by
  have HO := hid (ones_val x hx)
  go_enter Tryd.func48, Tryd.ntmps48
  go_wp2
  go_ret
  refine ⟨?_, rfl⟩
  rw [← HO.out]
  simp [ones, onesA, onesB, onesC, onesD, onesE, onesF]


theorem cnt_word (P : Nat → Bool) (k : Nat) : cnt (fun j => (wordP P k).testBit j) 64 = cnt (fun j => P (64 * k + j)) 64 := cnt_congr 64 fun j hj => wordP_bit P k j hj
theorem cnt_succ64 (P : Nat → Bool) (k : Nat) : cnt P (64 * (k + 1)) = cnt P (64 * k) + cnt (fun j => P (64 * k + j)) 64 := by
  rw [show 64 * (k + 1) = 64 * k + 64 by omega, cnt_add]
theorem cnt_all {P : Nat → Bool} {n : Nat} (h : ∀ i, n ≤ i → P i = false) : cnt P (64 * ((n + 63) / 64)) = cnt P n := by
  have e : 64 * ((n + 63) / 64) = n + (64 * ((n + 63) / 64) - n) := by omega
  have e2 : cnt (fun j => P (n + j)) (64 * ((n + 63) / 64) - n) = 0 := cnt_none _ fun j _ => h _ (by omega)
  rw [e, cnt_add, e2]
  rfl
set_option maxHeartbeats 1000000 in
theorem many_ (p q n : Nat) (P : Nat → Bool) (w : World) (h : Sh w p q n P) :
    Calls Tryd.prog 25 #[.pointer (some ⟨p, 0, none⟩)] w fun e w' => e = .returned (.int .i64 (cnt P n : Int)) ∧ w = w' := by
  have h0 := h.c0
  have h1 := h.c1
  have hlp := h.ltp
  have hlq := h.ltq
  have hbd := h.bd
  have HH := hid h
  have HA := hid (cnt_all h.out)
  obtain ⟨m, hm⟩ : ∃ m, (n + 63) / 64 = m := ⟨_, rfl⟩
  have hm1 : m ≤ 16385 := by omega
  rw [hm] at h1 HA
  have HM := hid hm
  clear h hm
  go_enter Tryd.func25, Tryd.ntmps25
  go_wp2
  go_loop [3, 11] (fun s iv => ∃ k : Nat, k ≤ m ∧ iv = .int .i64 (k : Int) ∧ s = .int .i64 (cnt P (64 * k) : Int)) (fun _ iv => m - (intOf iv).toNat)
  case atStart => exact ⟨0, Nat.zero_le _, rfl, rfl⟩
  case round =>
    obtain ⟨k, hk, rfl, rfl⟩ := hrel
    by_cases hlt : k < m
    · obtain ⟨hw, _⟩ := HH.out.words k (by have := HM.out; omega)
      have hk0 : (0 : Int) ≤ (k : Int) := by omega
      have hk1 : (k : Int) < (m : Int) := by omega
      have HC := hid (cnt_succ64 P k)
      have c1 := cnt_le P (64 * k)
      have c2 := cnt_le (fun j => P (64 * k + j)) 64
      have HX := hid (wordP_lt P k)
      have HW := hid (cnt_word P k)
      obtain ⟨a, ha⟩ : ∃ a, cnt P (64 * k) = a := ⟨_, rfl⟩
      obtain ⟨b, hb⟩ : ∃ b, cnt (fun j => P (64 * k + j)) 64 = b := ⟨_, rfl⟩
      rw [ha, hb] at HC
      rw [ha] at c1 ⊢
      rw [hb] at c2 HW
      clear ha hb
      go_wp2_with (go_at_call 48; (with_reducible refine Calls.mono (ones64 (wordP P k) _ HX.out) ?_); rw [HW.out]; rintro e w1 ⟨rfl, rfl⟩)
      go_round
      case rel => exact ⟨k + 1, by omega, by first | rfl | go_num, by rw [HC.out]; first | rfl | go_num⟩
      case measure => first | (simp [intOf]; done) | (simp [intOf]; omega)
    · obtain rfl : k = m := by omega
      rw [HA.out]
      go_wp2
      go_ret
      exact ⟨rfl, rfl⟩

end Go.Proofs.YtoeiemeffiiidaaDoor

namespace Go.Proofs.YtoeiemeffiiidaaDoor
set_option maxRecDepth 100000
set_option linter.unusedSimpArgs false
set_option linter.unusedVariables false
open Go.RowKit


def NewIs (n : Nat) (w : World) (e : Ending) (w' : World) : Prop := ∃ p q, e = .returned (.pointer (some ⟨p, 0, none⟩)) ∧ Sh w' p q n (fun _ => false) ∧ Ext w w' ∧ w.heap.size ≤ p ∧ w.heap.size ≤ q
theorem info_u64 : (Tryd.prog.info? 86).map (fun i => (i.zero, i.size, i.bytes)) = some (some (.int .u64 0), 1, 8) := by kernel_rfl
theorem made_words {w : World} {base g m : Nat} (h : w.ownsRow base 86 1 (.slice (some ⟨g, 0, none⟩) m m) m (madeCells #[Value.int .u64 0] m).toList) :
    g < w.heap.size ∧ ∀ k, k < m → w.cell? ⟨g, k, none⟩ = some (.int .u64 0) ∧ w.frozen? ⟨g, k, none⟩ = false := by
  rcases h.2 with ⟨h0, _⟩ | ⟨g', cap, cur, hv, _, hg, _, _, hs, ht⟩
  · injection h0 with e; cases e
  · injection hv with e1 e2 e3
    injection e1 with e1
    injection e1 with e1
    subst e1
    refine ⟨(Array.getElem?_eq_some_iff.1 hg).1, fun k hk => ⟨?_, by simp [World.frozen?, hg]⟩⟩
    rw [h.cellAt k (by omega)]
    rw [toList_madeCells_one]
    simp [hk]
theorem word_zero (k : Nat) : wordP (fun _ => false) k = 0 := word_ext (wordP_lt _ _) (by decide) fun j hj => by
  rw [wordP_bit _ _ _ hj]
  simp
set_option maxHeartbeats 1000000 in
theorem new_low (g : Int) (w : World) (h : g < 1) :
    Calls Tryd.prog 9 #[.int .i64 g] w fun e w' => e = .returned (.pointer none) ∧ w = w' := by
  go_enter Tryd.func9, Tryd.ntmps9
  go_wp2
  go_ret
  exact ⟨rfl, rfl⟩

set_option maxHeartbeats 1000000 in
theorem new_high (g : Int) (w : World) (h0 : ¬ g < 1) (h : 1048576 < g) :
    Calls Tryd.prog 9 #[.int .i64 g] w fun e w' => e = .returned (.pointer none) ∧ w = w' := by
  go_enter Tryd.func9, Tryd.ntmps9
  go_wp2
  go_ret
  exact ⟨rfl, rfl⟩

set_option maxHeartbeats 1000000 in
theorem new_ (n : Nat) (w : World) (h1 : 1 ≤ n) (h2 : n ≤ 1048576) :
    Calls Tryd.prog 9 #[.int .i64 (n : Int)] w fun e w' => NewIs n w e w' := by
  have hq : ((n : Int) + 64 - 1).tdiv 64 = (((n + 63) / 64 : Nat) : Int) := by rw [Int.tdiv_eq_ediv_of_nonneg (by omega)]; omega
  obtain ⟨m, hm⟩ : ∃ m, (n + 63) / 64 = m := ⟨_, rfl⟩
  rw [hm] at hq
  have hm1 : m ≤ 16385 := by omega
  have HM := hid hm
  clear hm
  obtain ⟨i0, hi0, hz0, hz1, hz2⟩ := info_parts info_u64
  go_enter Tryd.func9, Tryd.ntmps9
  go_wp2_with (at_make; refine wpList_make_full _ rfl _ _ 57 rfl w.heap.size 86 i0 _ 1 Tryd.underlying57 hi0 hz0 hz1 .i64 .i64 _ _ m rfl rfl rfl rfl (by rw [hz2]; omega) (by unfold maxLen; omega) (Nat.le_refl _) ?_)
  intro w1 hown hg
  have hx1 : Ext w w1 := ⟨hg.os, hg.tape, hg.output, hg.size, fun k hk => hg.block k hk (by simp)⟩
  obtain ⟨hql, hqw⟩ := made_words hown
  have HQW := hid hqw
  clear hown hg hqw
  have hsz := hx1.size
  go_wp2
  go_ret
  refine ⟨w1.heap.size, w.heap.size, rfl, ⟨by omega, by simp, by simp; omega, by simp [go_sem], by rw [HM.out]; simp [go_sem], fun k hk => ?_, fun _ _ => rfl, h1, h2⟩, (by repeat (first | (with_reducible exact Ext.refl _) | (with_reducible refine Ext.undrew ?_) | (with_reducible refine Ext.grow ?_ _) | (with_reducible refine Ext.drew ?_) | (with_reducible refine Ext.drewN ?_ _) | (with_reducible refine Ext.alloc ?_ _) | (with_reducible assumption) | ((with_reducible refine Ext.setCell ?_ ?_ _); rotate_left; (first | exact Nat.le_refl _ | ((try dsimp only); (try simp only [World.size_alloc, grow_size, World.size_setCell]); omega))))), hsz, Nat.le_refl _⟩
  rw [HM.out] at hk
  obtain ⟨f1, f2⟩ := HQW.out k hk
  rw [word_zero]
  have x := Ext.alloc (Ext.refl w1) (.cells #[.int .i64 n, .slice (some ⟨w.heap.size, 0, none⟩) m m] 59)
  exact ⟨(x.cells _ _ hql).trans f1, (x.frozens _ _ hql).trans f2⟩

end Go.Proofs.YtoeiemeffiiidaaDoor
