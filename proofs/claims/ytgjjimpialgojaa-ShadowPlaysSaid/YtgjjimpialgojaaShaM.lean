/- Layer 8: how many bits a word has. -/
import Derived.Test.YtgjjimpialgojaaG
namespace Go.Proofs.Ytgjjimpialgojaa
set_option linter.unusedSimpArgs false
set_option linter.unusedVariables false
open Go.RowKit


/-- How many of the first n are so. -/
def cnt (f : Nat → Bool) : Nat → Nat
  | 0 => 0
  | n + 1 => cnt f n + if f n then 1 else 0
theorem cnt_add (f : Nat → Bool) (m : Nat) : ∀ n, cnt f (m + n) = cnt f m + cnt (fun j => f (m + j)) n
  | 0 => rfl
  | n + 1 => by
    show cnt f (m + n) + _ = cnt f m + (cnt (fun j => f (m + j)) n + _)
    rw [cnt_add f m n, Nat.add_assoc]
    rfl
theorem cnt_congr {f g : Nat → Bool} : ∀ n, (∀ j, j < n → f j = g j) → cnt f n = cnt g n
  | 0, _ => rfl
  | n + 1, h => by
    show cnt f n + _ = cnt g n + _
    rw [cnt_congr n (fun j hj => h j (by omega)), h n (by omega)]
theorem cnt_none {f : Nat → Bool} : ∀ n, (∀ j, j < n → f j = false) → cnt f n = 0
  | 0, _ => rfl
  | n + 1, h => by
    show cnt f n + _ = 0
    rw [cnt_none n (fun j hj => h j (by omega)), h n (by omega)]
    rfl
theorem cnt_le (f : Nat → Bool) : ∀ n, cnt f n ≤ n
  | 0 => Nat.le_refl _
  | n + 1 => by
    have := cnt_le f n
    show cnt f n + _ ≤ n + 1
    split <;> omega
def val : List Nat → Nat
  | [] => 0
  | y :: ys => y + 256 * val ys
def mk5 : Nat → Nat | 0 => 0 | n + 1 => 85 + 256 * mk5 n
def mk3 : Nat → Nat | 0 => 0 | n + 1 => 51 + 256 * mk3 n
def mkF : Nat → Nat | 0 => 0 | n + 1 => 15 + 256 * mkF n
def byteA (y : Nat) : Nat := (y / 2 &&& 85) + (y &&& 85)
def byteB (y : Nat) : Nat := (y / 4 &&& 51) + (y &&& 51)
def byteC (y : Nat) : Nat := (y / 16 + y) &&& 15
theorem and_split {lo hi m M : Nat} (h1 : lo < 256) (h2 : m < 256) : (lo + 256 * hi) &&& (m + 256 * M) = (lo &&& m) + 256 * (hi &&& M) := by
  have e1 : ((lo + 256 * hi) &&& (m + 256 * M)) % 2 ^ 8 = lo &&& m := by
    rw [Nat.and_mod_two_pow]
    congr 1 <;> omega
  have e2 : ((lo + 256 * hi) &&& (m + 256 * M)) / 2 ^ 8 = hi &&& M := by
    rw [Nat.and_div_two_pow]
    congr 1 <;> omega
  have e3 := Nat.div_add_mod ((lo + 256 * hi) &&& (m + 256 * M)) (2 ^ 8)
  rw [e1, e2] at e3
  omega
theorem facA : ∀ y : Fin 256, ∀ t : Fin 2, (y.val / 2 + 128 * t.val) &&& 85 = y.val / 2 &&& 85 := by decide +kernel
theorem facB : ∀ y : Fin 256, ∀ t : Fin 4, (y.val / 4 + 64 * t.val) &&& 51 = y.val / 4 &&& 51 := by decide +kernel
theorem facC : ∀ y : Fin 137, ∀ t : Fin 8, (y.val + 16 * t.val) &&& 15 = y.val &&& 15 := by decide +kernel
theorem byteA_fac : ∀ y : Fin 256, byteA y.val < 256 ∧ byteB (byteA y.val) < 256 ∧ byteB (byteA y.val) / 16 ≤ 4 ∧ byteB (byteA y.val) % 16 ≤ 4 ∧ byteC (byteB (byteA y.val)) = cnt (fun j => y.val.testBit j) 8 := by decide +kernel
theorem stepA : ∀ ys : List Nat, (∀ y ∈ ys, y < 256) → (val ys / 2 &&& mk5 ys.length) + (val ys &&& mk5 ys.length) = val (ys.map byteA)
  | [], _ => by simp [val, mk5]
  | y :: ys, h => by
    have ih := stepA ys fun z hz => h z (by simp [hz])
    have hy := h y (by simp)
    show ((y + 256 * val ys) / 2 &&& (85 + 256 * mk5 ys.length)) + ((y + 256 * val ys) &&& (85 + 256 * mk5 ys.length)) = byteA y + 256 * val (ys.map byteA)
    have e : (y + 256 * val ys) / 2 = (y / 2 + 128 * (val ys % 2)) + 256 * (val ys / 2) := by omega
    rw [e, and_split (by omega) (by omega), and_split hy (by omega), ← ih]
    have f := facA ⟨y, hy⟩ ⟨val ys % 2, by omega⟩
    simp only at f
    rw [f]
    unfold byteA
    omega
theorem stepB : ∀ ys : List Nat, (∀ y ∈ ys, y < 256) → (val ys / 4 &&& mk3 ys.length) + (val ys &&& mk3 ys.length) = val (ys.map byteB)
  | [], _ => by simp [val, mk3]
  | y :: ys, h => by
    have ih := stepB ys fun z hz => h z (by simp [hz])
    have hy := h y (by simp)
    show ((y + 256 * val ys) / 4 &&& (51 + 256 * mk3 ys.length)) + ((y + 256 * val ys) &&& (51 + 256 * mk3 ys.length)) = byteB y + 256 * val (ys.map byteB)
    have e : (y + 256 * val ys) / 4 = (y / 4 + 64 * (val ys % 4)) + 256 * (val ys / 4) := by omega
    rw [e, and_split (by omega) (by omega), and_split hy (by omega), ← ih]
    have f := facB ⟨y, hy⟩ ⟨val ys % 4, by omega⟩
    simp only at f
    rw [f]
    unfold byteB
    omega
theorem val_mod (ys : List Nat) (h : ∀ y ∈ ys, y / 16 ≤ 4 ∧ y % 16 ≤ 4) : val ys % 16 ≤ 4 := by
  cases ys with
  | nil => simp [val]
  | cons y ys =>
    have := (h y (by simp)).2
    show (y + 256 * val ys) % 16 ≤ 4
    omega
theorem stepC : ∀ ys : List Nat, (∀ y ∈ ys, y / 16 ≤ 4 ∧ y % 16 ≤ 4) → (val ys / 16 + val ys) &&& mkF ys.length = val (ys.map byteC)
  | [], _ => by simp [val, mkF]
  | y :: ys, h => by
    have ih := stepC ys fun z hz => h z (by simp [hz])
    obtain ⟨h1, h2⟩ := h y (by simp)
    have h3 := val_mod ys fun z hz => h z (by simp [hz])
    show ((y + 256 * val ys) / 16 + (y + 256 * val ys)) &&& (15 + 256 * mkF ys.length) = byteC y + 256 * val (ys.map byteC)
    have e : (y + 256 * val ys) / 16 + (y + 256 * val ys) = (y / 16 + y + 16 * (val ys % 16)) + 256 * (val ys / 16 + val ys) := by omega
    rw [e, and_split (by omega) (by omega), ih]
    have f := facC ⟨y / 16 + y, by omega⟩ ⟨val ys % 16, by omega⟩
    simp only at f
    rw [f]
    rfl
theorem val_lt : ∀ ys : List Nat, (∀ y ∈ ys, y < 256) → val ys < 256 ^ ys.length
  | [], _ => by simp [val]
  | y :: ys, h => by
    have ih := val_lt ys fun z hz => h z (by simp [hz])
    have hy := h y (by simp)
    show y + 256 * val ys < 256 ^ (ys.length + 1)
    rw [Nat.pow_succ]
    omega
theorem val_bit (y : Nat) (ys : List Nat) (hy : y < 256) (j : Nat) : (val (y :: ys)).testBit j = if j < 8 then y.testBit j else (val ys).testBit (j - 8) := by
  show (y + 256 * val ys).testBit j = _
  by_cases h : j < 8
  · rw [if_pos h]
    have e : (y + 256 * val ys) % 2 ^ 8 = y := by omega
    have := Nat.testBit_mod_two_pow (y + 256 * val ys) 8 j
    rw [e] at this
    rw [this]
    simp [h]
  · rw [if_neg h]
    have e : (y + 256 * val ys) / 2 ^ 8 = val ys := by omega
    have h2 : ((y + 256 * val ys) / 2 ^ 8).testBit (j - 8) = (y + 256 * val ys).testBit (j - 8 + 8) := Nat.testBit_div_two_pow (y + 256 * val ys) (j - 8)
    rw [e] at h2
    rw [h2]
    congr 1
    omega
theorem val_cnt : ∀ ys : List Nat, (∀ y ∈ ys, y < 256) → cnt (fun j => (val ys).testBit j) (8 * ys.length) = (ys.map fun y => cnt (fun j => y.testBit j) 8).sum
  | [], _ => rfl
  | y :: ys, h => by
    have ih := val_cnt ys fun z hz => h z (by simp [hz])
    have hy := h y (by simp)
    rw [List.map_cons, List.sum_cons, ← ih, show 8 * (y :: ys).length = 8 + 8 * ys.length by simp; omega, cnt_add]
    congr 1
    · exact cnt_congr 8 fun j hj => by rw [val_bit y ys hy, if_pos hj]
    · exact cnt_congr _ fun j hj => by rw [val_bit y ys hy, if_neg (by omega)]; congr 1; omega
/-- A word's bytes. -/
theorem word_bytes {x : Nat} (hx : x < 18446744073709551616) : ∃ y0 y1 y2 y3 y4 y5 y6 y7 : Nat, (∀ y ∈ [y0, y1, y2, y3, y4, y5, y6, y7], y < 256) ∧ val [y0, y1, y2, y3, y4, y5, y6, y7] = x := by
  refine ⟨x % 256, x / 256 % 256, x / 65536 % 256, x / 16777216 % 256, x / 4294967296 % 256, x / 1099511627776 % 256, x / 281474976710656 % 256, x / 72057594037927936, ?_, ?_⟩
  · intro y hy
    simp at hy
    omega
  · simp only [val]
    omega
theorem divDigit {q r K m : Nat} (hm : 0 < m) (hq : q < m) (hr : r = q + m * K) : r / m = K := by
  rw [hr, Nat.add_mul_div_left _ _ hm, Nat.div_eq_of_lt hq, Nat.zero_add]
theorem sum8a {p0 p1 p2 p3 p4 p5 p6 p7 c K D0 D2 : Nat} (h0 : p0 ≤ 8) (h1 : p1 ≤ 8) (h2 : p2 ≤ 8) (h3 : p3 ≤ 8) (h4 : p4 ≤ 8) (h5 : p5 ≤ 8) (h6 : p6 ≤ 8) (h7 : p7 ≤ 8)
    (hK : K = p1 + 256 * p2 + 65536 * p3 + 16777216 * p4 + 4294967296 * p5 + 1099511627776 * p6 + 281474976710656 * p7) (hc : c = p0 + 256 * K)
    (hD0 : D0 = (p0 + p1) + 256 * (p1 + p2)) (hD2 : D2 = (p2 + p3) + 256 * (p3 + p4) + 65536 * (p4 + p5) + 16777216 * (p5 + p6) + 4294967296 * (p6 + p7) + 1099511627776 * p7) :
    c + K = D0 + 65536 * D2 ∧ c + K < 18446744073709551616 ∧ D0 < 65536 ∧ p0 < 256 := by
  exact ⟨by clear h0 h1 h2 h3 h4 h5 h6 h7; omega, by clear hD0 hD2; omega, by clear hK hc hD2; omega, by omega⟩
theorem sum8b {p0 p1 p2 p3 p4 p5 p6 p7 D0 D2 d E0 E4 : Nat} (h0 : p0 ≤ 8) (h1 : p1 ≤ 8) (h2 : p2 ≤ 8) (h3 : p3 ≤ 8) (h4 : p4 ≤ 8) (h5 : p5 ≤ 8) (h6 : p6 ≤ 8) (h7 : p7 ≤ 8)
    (hD0 : D0 = (p0 + p1) + 256 * (p1 + p2)) (hD2 : D2 = (p2 + p3) + 256 * (p3 + p4) + 65536 * (p4 + p5) + 16777216 * (p5 + p6) + 4294967296 * (p6 + p7) + 1099511627776 * p7) (hd : d = D0 + 65536 * D2)
    (hE0 : E0 = (p0 + p1 + p2 + p3) + 256 * (p1 + p2 + p3 + p4) + 65536 * (p2 + p3 + p4 + p5) + 16777216 * (p3 + p4 + p5 + p6)) (hE4 : E4 = (p4 + p5 + p6 + p7) + 256 * (p5 + p6 + p7) + 65536 * (p6 + p7) + 16777216 * p7) :
    d + D2 = E0 + 4294967296 * E4 ∧ d + D2 < 18446744073709551616 ∧ E0 < 4294967296 ∧ E4 < 268435456 := by
  exact ⟨by clear h0 h1 h2 h3 h4 h5 h6 h7; omega, by clear hE0 hE4; omega, by clear hD0 hD2 hd hE4; omega, by clear hD0 hD2 hd hE0; omega⟩
theorem sum8c {p0 p1 p2 p3 p4 p5 p6 p7 e f E0 E4 : Nat} (h0 : p0 ≤ 8) (h1 : p1 ≤ 8) (h2 : p2 ≤ 8) (h3 : p3 ≤ 8) (h4 : p4 ≤ 8) (h5 : p5 ≤ 8) (h6 : p6 ≤ 8) (h7 : p7 ≤ 8)
    (hE0 : E0 = (p0 + p1 + p2 + p3) + 256 * (p1 + p2 + p3 + p4) + 65536 * (p2 + p3 + p4 + p5) + 16777216 * (p3 + p4 + p5 + p6)) (hE4 : E4 = (p4 + p5 + p6 + p7) + 256 * (p5 + p6 + p7) + 65536 * (p6 + p7) + 16777216 * p7)
    (he : e = E0 + 4294967296 * E4) (hf : f = e + E4) : f % 128 = p0 + p1 + p2 + p3 + p4 + p5 + p6 + p7 := by
  obtain ⟨z, hz⟩ : ∃ z, f = (p0 + p1 + p2 + p3 + p4 + p5 + p6 + p7) + 128 * z := ⟨2 * ((p1 + p2 + p3 + p4) + 256 * (p2 + p3 + p4 + p5) + 65536 * (p3 + p4 + p5 + p6)) + 33554432 * E4 + 2 * ((p5 + p6 + p7) + 256 * (p6 + p7) + 65536 * p7), by clear h0 h1 h2 h3 h4 h5 h6 h7; omega⟩
  rw [hz, Nat.add_mul_mod_self_left]
  exact Nat.mod_eq_of_lt (by clear hE0 hE4 he hf hz; omega)
theorem sum8 {p0 p1 p2 p3 p4 p5 p6 p7 c d e f : Nat} (h0 : p0 ≤ 8) (h1 : p1 ≤ 8) (h2 : p2 ≤ 8) (h3 : p3 ≤ 8) (h4 : p4 ≤ 8) (h5 : p5 ≤ 8) (h6 : p6 ≤ 8) (h7 : p7 ≤ 8)
    (hc : c = val [p0, p1, p2, p3, p4, p5, p6, p7]) (hd : d = (c + c / 256) % 18446744073709551616) (he : e = (d + d / 65536) % 18446744073709551616) (hf : f = (e + e / 4294967296) % 18446744073709551616) :
    f % 128 = p0 + p1 + p2 + p3 + p4 + p5 + p6 + p7 ∧ f < 9223372036854775808 := by
  have c0 : c = p0 + 256 * (p1 + 256 * p2 + 65536 * p3 + 16777216 * p4 + 4294967296 * p5 + 1099511627776 * p6 + 281474976710656 * p7) := by
    rw [hc]
    clear hc hd he hf h0 h1 h2 h3 h4 h5 h6 h7
    simp only [val]
    omega
  obtain ⟨x1, x2, x3, x4⟩ := sum8a h0 h1 h2 h3 h4 h5 h6 h7 rfl c0 rfl rfl
  rw [divDigit (by decide) x4 c0, Nat.mod_eq_of_lt x2, x1] at hd
  obtain ⟨y1, y2, y3, y4⟩ := sum8b h0 h1 h2 h3 h4 h5 h6 h7 rfl rfl hd rfl rfl
  rw [divDigit (by decide) x3 hd, Nat.mod_eq_of_lt y2, y1] at he
  have hl : e + ((p4 + p5 + p6 + p7) + 256 * (p5 + p6 + p7) + 65536 * (p6 + p7) + 16777216 * p7) < 9223372036854775808 := by
    clear hf hd hc c0 x1 x2 x3 y1 y2
    omega
  rw [divDigit (by decide) y3 he, Nat.mod_eq_of_lt (Nat.lt_trans hl (by decide))] at hf
  exact ⟨sum8c h0 h1 h2 h3 h4 h5 h6 h7 rfl rfl he hf, by rw [hf]; exact hl⟩
def mk1 : Nat → Nat | 0 => 0 | n + 1 => 1 + 256 * mk1 n
theorem val_le (B : Nat) : ∀ ys : List Nat, (∀ y ∈ ys, y ≤ B) → val ys ≤ B * mk1 ys.length
  | [], _ => by simp [val]
  | y :: ys, h => by
    have ih := val_le B ys fun z hz => h z (by simp [hz])
    have hy := h y (by simp)
    show y + 256 * val ys ≤ B * (1 + 256 * mk1 ys.length)
    rw [Nat.mul_add, Nat.mul_one, Nat.mul_left_comm]
    omega
theorem m5_8 : mk5 8 = 6148914691236517205 := by decide +kernel
theorem m3_8 : mk3 8 = 3689348814741910323 := by decide +kernel
theorem mF_8 : mkF 8 = 1085102592571150095 := by decide +kernel
theorem byte_key {ys : List Nat} (hy : ∀ y ∈ ys, y < 256) : ∀ y ∈ ys, byteA y < 256 ∧ byteB (byteA y) < 256 ∧ byteB (byteA y) / 16 ≤ 4 ∧ byteB (byteA y) % 16 ≤ 4 ∧ byteC (byteB (byteA y)) = cnt (fun j => y.testBit j) 8 := fun y h => byteA_fac ⟨y, hy y h⟩
/-- The first three steps. -/
theorem ones_three {ys : List Nat} (hl : ys.length = 8) (hy : ∀ y ∈ ys, y < 256) {a b c : Nat} (ha : a = (val ys / 2 &&& 6148914691236517205) + (val ys &&& 6148914691236517205)) (hb : b = (a / 4 &&& 3689348814741910323) + (a &&& 3689348814741910323))
    (hc : c = (b / 16 + b) &&& 1085102592571150095) : c = val (ys.map fun y => cnt (fun j => y.testBit j) 8) ∧ a < 18446744073709551616 ∧ b ≤ 4919131752989213764 := by
  have key := byte_key hy
  have hA := stepA ys hy
  rw [hl, m5_8, ← ha] at hA
  have hyA : ∀ y ∈ ys.map byteA, y < 256 := by
    intro y h
    obtain ⟨z, hz, rfl⟩ := List.mem_map.1 h
    exact (key z hz).1
  have hB := stepB (ys.map byteA) hyA
  rw [List.length_map, hl, m3_8, ← hA, ← hb] at hB
  have hyB : ∀ y ∈ (ys.map byteA).map byteB, y < 256 ∧ (y / 16 ≤ 4 ∧ y % 16 ≤ 4) := by
    intro y h
    obtain ⟨z, hz, rfl⟩ := List.mem_map.1 h
    obtain ⟨u, hu, rfl⟩ := List.mem_map.1 hz
    exact ⟨(key u hu).2.1, (key u hu).2.2.1, (key u hu).2.2.2.1⟩
  have hC := stepC ((ys.map byteA).map byteB) fun y h => (hyB y h).2
  rw [List.length_map, List.length_map, hl, mF_8, ← hB, ← hc] at hC
  refine ⟨?_, ?_, ?_⟩
  · rw [hC, List.map_map, List.map_map]
    congr 1
    apply List.map_congr_left
    intro y h
    exact (key y h).2.2.2.2
  · have a1 := val_lt _ hyA
    rw [List.length_map, hl, ← hA] at a1
    exact a1
  · rw [hB]
    have h8 := val_le 68 ((ys.map byteA).map byteB) fun y h => by
      have := (hyB y h).2
      omega
    rw [List.length_map, List.length_map, hl] at h8
    exact Nat.le_trans h8 (show 68 * mk1 8 ≤ 4919131752989213764 by decide +kernel)
/-- How many bits a word has, as it is reckoned. -/
theorem ones_word {x a b c d e f : Nat} (hx : x < 18446744073709551616) (ha : a = (x / 2 &&& 6148914691236517205) + (x &&& 6148914691236517205)) (hb : b = (a / 4 &&& 3689348814741910323) + (a &&& 3689348814741910323))
    (hc : c = (b / 16 + b) &&& 1085102592571150095) (hd : d = (c + c / 256) % 18446744073709551616) (he : e = (d + d / 65536) % 18446744073709551616) (hf : f = (e + e / 4294967296) % 18446744073709551616) :
    f % 128 = cnt (fun j => x.testBit j) 64 ∧ f < 9223372036854775808 ∧ a < 18446744073709551616 ∧ b ≤ 4919131752989213764 := by
  obtain ⟨y0, y1, y2, y3, y4, y5, y6, y7, hy, rfl⟩ := word_bytes hx
  obtain ⟨h1, h2, h3⟩ := ones_three rfl hy ha hb hc
  have s := sum8 (cnt_le _ 8) (cnt_le _ 8) (cnt_le _ 8) (cnt_le _ 8) (cnt_le _ 8) (cnt_le _ 8) (cnt_le _ 8) (cnt_le _ 8) h1 hd he hf
  refine ⟨?_, s.2, h2, h3⟩
  have hcnt := val_cnt _ hy
  rw [s.1]
  refine Eq.trans ?_ hcnt.symm
  simp only [List.map_cons, List.map_nil, List.sum_cons, List.sum_nil, Nat.add_assoc, Nat.add_zero]

end Go.Proofs.Ytgjjimpialgojaa
