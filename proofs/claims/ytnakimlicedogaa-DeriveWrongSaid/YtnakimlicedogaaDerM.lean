/- Layer 4: what the laws say of what is made. -/
import Derived.Test.YtnakimlicedogaaCapM
import Derived.Test.YtnakimlicedogaaDer
namespace Go.Proofs.Ytnakimlicedogaa
set_option linter.unusedSimpArgs false
set_option linter.unusedVariables false
open Go.RowKit

theorem wfu8 {n : Int} (h : (Lit.int .u8 n).wf = true) : 0 ≤ n ∧ n ≤ 255 := by
  simpa [Lit.wf, IntKind.min, IntKind.max, IntKind.signed, IntKind.bits] using h
theorem wfu16 {n : Int} (h : (Lit.int .u16 n).wf = true) : 0 ≤ n ∧ n ≤ 65535 := by
  simpa [Lit.wf, IntKind.min, IntKind.max, IntKind.signed, IntKind.bits] using h
theorem firstE_cons {e : Int} {l : List Int} : firstE (e :: l) = 0 ↔ e = 0 ∧ firstE l = 0 := by
  by_cases h : e = 0 <;> simp [firstE, h]
theorem firstE_nil : firstE [] = 0 := rfl
theorem mustE_zero {b : Bool} {e : Int} (he : e ≠ 0) : mustE b e = 0 ↔ b = true := by cases b <;> simp [mustE, he]
theorem useE0 {c : Cap} : useE c = 0 ↔ rightC c = true ∧ c.tag = true ∧ c.type = 0 := by
  rw [← useE_eq]
  simp [firstE_cons, mustE_zero, firstE_nil]
theorem authE0 {c : Cap} {p : Int} : authE c p = 0 ↔ useE c = 0 ∧ hasB c.perms p = true ∧ inC c c.at_ 1 = true ∧ 1 < c.at_ ∧ c.at_ ≤ 255 := by
  unfold authE
  simp [firstE_cons, mustE_zero, firstE_nil]
theorem boundsE0 {c : Cap} {n : Int} : boundsE c n = 0 ↔ useE c = 0 ∧ inC c c.at_ n = true := by
  simp [boundsE, firstE_cons, mustE_zero, firstE_nil]
theorem permsE0 {c : Cap} {n : Int} : permsE c n = 0 ↔ useE c = 0 ∧ rightB n = true := by
  simp [permsE, firstE_cons, mustE_zero, firstE_nil]
theorem moveE0 {c : Cap} : moveE c = 0 ↔ rightC c = true ∧ (c.tag = true → c.type = 0) := by
  simp [moveE, firstE_cons, mustE_zero, firstE_nil]
  cases c.tag <;> simp
theorem sealE0 {c d : Cap} : sealE c d = 0 ↔ useE c = 0 ∧ authE d 32 = 0 := by
  simp [sealE, firstE_cons, mustE_zero, firstE_nil]
theorem unsealE0 {c d : Cap} : unsealE c d = 0 ↔ rightC c = true ∧ c.tag = true ∧ c.type ≠ 0 ∧ authE d 64 = 0 ∧ d.at_ = c.type := by
  simp [unsealE, firstE_cons, mustE_zero, firstE_nil]
theorem enterE0 {c : Cap} : enterE c = 0 ↔ useE c = 0 ∧ hasB c.perms 4 = true := by
  simp [enterE, firstE_cons, mustE_zero, firstE_nil]
theorem buildE0 {c d : Cap} : buildE c d = 0 ↔ rightC c = true ∧ useE d = 0 ∧ c.type = 0 ∧ hasB d.perms c.perms = true ∧ underC c d = true := by
  simp [buildE, firstE_cons, mustE_zero, firstE_nil]
theorem madeC_bad {c : Cap} {e : Int} (h : e ≠ 0) : madeC c e = ⟨false, 0, 0, 0, 0, 0⟩ := by simp [madeC, h, zeroC]
theorem madeC_ok {c : Cap} {e : Int} (h : e = 0) : madeC c e = c := by simp [madeC, h]
theorem andN_bd : ∀ p : Nat, p < 128 → ∀ q : Nat, q < 128 → (rightB (bits .and .i64 (p : Int) (q : Int)) && hasB (p : Int) (bits .and .i64 (p : Int) (q : Int))) = true := by decide +kernel
theorem and_has {p q : Int} (hp : rightB p = true) (hq : rightB q = true) : rightB (bits .and .i64 p q) = true ∧ hasB p (bits .and .i64 p q) = true := by
  obtain ⟨p0, p1⟩ := rightB_iff.1 hp
  obtain ⟨q0, q1⟩ := rightB_iff.1 hq
  obtain ⟨m, rfl⟩ := Int.eq_ofNat_of_zero_le p0
  obtain ⟨k, rfl⟩ := Int.eq_ofNat_of_zero_le q0
  simpa using andN_bd m (by omega) k (by omega)
theorem inC_nums {c : Cap} {x n : Int} (hr : rightC c = true) (h : inC c x n = true) : 0 ≤ n ∧ c.base ≤ x ∧ x ≤ c.top ∧ x + n ≤ c.top := by
  have b := rightC_bd hr
  simp only [inC, Bool.and_eq_true, decide_eq_true_eq] at h
  obtain ⟨⟨⟨⟨h1, h2⟩, h3⟩, h4⟩, h5⟩ := h
  rw [wrap64_id (by omega) (by omega)] at h5
  exact ⟨h2, h3, h4, by omega⟩
theorem inC_of {c : Cap} {x n : Int} (hr : rightC c = true) (h : 0 ≤ n ∧ c.base ≤ x ∧ x + n ≤ c.top) : inC c x n = true := by
  have b := rightC_bd hr
  simp only [inC, Bool.and_eq_true, decide_eq_true_eq]
  refine ⟨⟨⟨⟨by omega, by omega⟩, by omega⟩, by omega⟩, ?_⟩
  rw [wrap64_id (by omega) (by omega)]; omega
/-- It is tagged, as the other one is, right, and under that. -/
def LessC (x o : Cap) : Prop := x.tag = true ∧ o.tag = true ∧ rightC x = true ∧ underC x o = true
theorem less_same {c x : Cap} (hr : rightC c = true) (ht : c.tag = true) (h : x.tag = true ∧ x.base = c.base ∧ x.top = c.top ∧ x.at_ = c.at_ ∧ x.perms = c.perms ∧ 0 ≤ x.type ∧ x.type ≤ 255) : LessC x c := by
  have b := rightC_bd hr
  have t := b.2.2.2.2.2.2.2.2.2.2 ht
  obtain ⟨h1, h2, h3, h4, h5, h6, h7⟩ := h
  refine ⟨h1, ht, rightC_mk ⟨by omega, by omega, by omega, by omega, by omega, by omega, by omega, by omega, h6, h7, fun _ => by omega⟩, underC_mk ⟨by omega, by omega, by omega, ?_⟩⟩
  rw [h5]; exact hasB_refl (by omega) (by omega)
theorem bounds_ok {c : Cap} {n : Int} (h : boundsE c n = 0) : boundsC c n = ⟨true, c.at_, c.at_ + n, c.at_, c.perms, 0⟩ ∧ LessC (boundsC c n) c := by
  obtain ⟨hu, hi⟩ := boundsE0.1 h
  obtain ⟨hr, ht, hy⟩ := useE0.1 hu
  have b := rightC_bd hr
  have t := b.2.2.2.2.2.2.2.2.2.2 ht
  have i := inC_nums hr hi
  have e : boundsC c n = ⟨true, c.at_, c.at_ + n, c.at_, c.perms, 0⟩ := by
    rw [boundsC, madeC_ok h, wrap64_id (by omega) (by omega), ht, hy]
  refine ⟨e, ?_⟩
  rw [e]
  refine ⟨rfl, ht, rightC_mk ⟨by (try dsimp only); omega, by (try dsimp only); omega, by (try dsimp only); omega, by (try dsimp only); omega, by (try dsimp only); omega, by (try dsimp only); omega, by (try dsimp only); omega, by (try dsimp only); omega, by (try dsimp only); omega, by (try dsimp only); omega, fun _ => by (try dsimp only); omega⟩, underC_mk ⟨by (try dsimp only); omega, by (try dsimp only); omega, by (try dsimp only); omega, hasB_refl (by omega) (by omega)⟩⟩
theorem perms_ok {c : Cap} {n : Int} (h : permsE c n = 0) : permsC c n = ⟨true, c.base, c.top, c.at_, bits .and .i64 c.perms n, 0⟩ ∧ LessC (permsC c n) c := by
  obtain ⟨hu, hp⟩ := permsE0.1 h
  obtain ⟨hr, ht, hy⟩ := useE0.1 hu
  have b := rightC_bd hr
  have t := b.2.2.2.2.2.2.2.2.2.2 ht
  obtain ⟨a1, a2⟩ := and_has (rightB_iff.2 ⟨by omega, by omega⟩ : rightB c.perms = true) hp
  have a3 := rightB_iff.1 a1
  have e : permsC c n = ⟨true, c.base, c.top, c.at_, bits .and .i64 c.perms n, 0⟩ := by
    rw [permsC, madeC_ok h, ht, hy]
  refine ⟨e, ?_⟩
  rw [e]
  exact ⟨rfl, ht, rightC_mk ⟨by (try dsimp only); omega, by (try dsimp only); omega, by (try dsimp only); omega, by (try dsimp only); omega, by (try dsimp only); omega, by (try dsimp only); omega, a3.1, a3.2, by (try dsimp only); omega, by (try dsimp only); omega, fun _ => by (try dsimp only); omega⟩, underC_mk ⟨by (try dsimp only); omega, by (try dsimp only); omega, by (try dsimp only); omega, a2⟩⟩
theorem move_eq {c : Cap} {n : Int} (h : moveE c = 0) : moveC c n = ⟨c.tag, c.base, c.top, low32 n, c.perms, c.type⟩ := by rw [moveC, madeC_ok h]
theorem move_ok {c : Cap} {n : Int} (h : moveE c = 0) (ht : c.tag = true) (n0 : -9223372036854775808 ≤ n) (n1 : n ≤ 9223372036854775807) : LessC (moveC c n) c := by
  obtain ⟨hr, hy⟩ := moveE0.1 h
  have b := rightC_bd hr
  have t := b.2.2.2.2.2.2.2.2.2.2 ht
  have l := low32_bd n n0 n1
  rw [move_eq h]
  exact ⟨ht, ht, rightC_mk ⟨by (try dsimp only); omega, by (try dsimp only); omega, by (try dsimp only); omega, by (try dsimp only); omega, l.1, l.2, by (try dsimp only); omega, by (try dsimp only); omega, by (try dsimp only); omega, by (try dsimp only); omega, fun _ => by (try dsimp only); omega⟩, underC_mk ⟨by (try dsimp only); omega, by (try dsimp only); omega, by (try dsimp only); omega, hasB_refl (by (try dsimp only); omega) (by (try dsimp only); omega)⟩⟩
theorem seal_ok {c d : Cap} (h : sealE c d = 0) : sealC c d = ⟨true, c.base, c.top, c.at_, c.perms, d.at_⟩ ∧ LessC (sealC c d) c := by
  obtain ⟨hu, ha⟩ := sealE0.1 h
  obtain ⟨hr, ht, hy⟩ := useE0.1 hu
  obtain ⟨_, _, _, a1, a2⟩ := authE0.1 ha
  have e : sealC c d = ⟨true, c.base, c.top, c.at_, c.perms, d.at_⟩ := by rw [sealC, madeC_ok h, ht]
  refine ⟨e, ?_⟩
  rw [e]
  exact less_same hr ht ⟨rfl, rfl, rfl, rfl, rfl, by (try dsimp only); omega, by (try dsimp only); omega⟩
theorem unseal_ok {c d : Cap} (h : unsealE c d = 0) : unsealC c d = ⟨true, c.base, c.top, c.at_, c.perms, 0⟩ ∧ LessC (unsealC c d) c := by
  obtain ⟨hr, ht, _⟩ := unsealE0.1 h
  have e : unsealC c d = ⟨true, c.base, c.top, c.at_, c.perms, 0⟩ := by rw [unsealC, madeC_ok h, ht]
  refine ⟨e, ?_⟩
  rw [e]
  exact less_same hr ht ⟨rfl, rfl, rfl, rfl, rfl, by (try dsimp only); omega, by (try dsimp only); omega⟩
theorem enter_ok {c : Cap} (h : enterE c = 0) : enterC c = ⟨true, c.base, c.top, c.at_, c.perms, 1⟩ ∧ LessC (enterC c) c := by
  obtain ⟨hu, _⟩ := enterE0.1 h
  obtain ⟨hr, ht, hy⟩ := useE0.1 hu
  have e : enterC c = ⟨true, c.base, c.top, c.at_, c.perms, 1⟩ := by rw [enterC, madeC_ok h, ht]
  refine ⟨e, ?_⟩
  rw [e]
  exact less_same hr ht ⟨rfl, rfl, rfl, rfl, rfl, by (try dsimp only); omega, by (try dsimp only); omega⟩
theorem build_ok {c d : Cap} (h : buildE c d = 0) : buildC c d = ⟨true, c.base, c.top, c.at_, c.perms, 0⟩ ∧ LessC (buildC c d) d := by
  obtain ⟨hr, hu, hy, hp, hn⟩ := buildE0.1 h
  obtain ⟨hrd, htd, _⟩ := useE0.1 hu
  have b := rightC_bd hr
  have bd := rightC_bd hrd
  have t := bd.2.2.2.2.2.2.2.2.2.2 htd
  have u := underC_bd hn
  have e : buildC c d = ⟨true, c.base, c.top, c.at_, c.perms, 0⟩ := by rw [buildC, madeC_ok h, hy]
  refine ⟨e, ?_⟩
  rw [e]
  exact ⟨rfl, htd, rightC_mk ⟨by (try dsimp only); omega, by (try dsimp only); omega, by (try dsimp only); omega, by (try dsimp only); omega, by (try dsimp only); omega, by (try dsimp only); omega, by (try dsimp only); omega, by (try dsimp only); omega, by (try dsimp only); omega, by (try dsimp only); omega, fun _ => by (try dsimp only); omega⟩, underC_mk ⟨by (try dsimp only); omega, by (try dsimp only); omega, by (try dsimp only); omega, hp⟩⟩
theorem and64_nat (a b : Nat) (ha : a < 2 ^ 63) (hb : b < 2 ^ 63) : bits .and .i64 (a : Int) (b : Int) = ((a &&& b : Nat) : Int) :=
  (bits_nat .i64 63 (by decide) (fun n h0 h1 => IntWalk.i64_in n (by omega)) a b ha hb).1
theorem andu8_nat (a b : Nat) (ha : a < 2 ^ 8) (hb : b < 2 ^ 8) : bits .and .u8 (a : Int) (b : Int) = ((a &&& b : Nat) : Int) :=
  (bits_nat .u8 8 (by decide) (fun n h0 h1 => by simp [IntKind.wrap, IntKind.bits, IntKind.signed]; omega) a b ha hb).1
theorem and64_small {x y : Int} (hx : 0 ≤ x ∧ x ≤ 255) (hy : 0 ≤ y ∧ y ≤ 255) : ∃ a b : Nat, x = a ∧ y = b ∧ a < 256 ∧ b < 256 ∧ bits .and .i64 x y = ((a &&& b : Nat) : Int) := by
  obtain ⟨a, rfl⟩ := Int.eq_ofNat_of_zero_le hx.1
  obtain ⟨b, rfl⟩ := Int.eq_ofNat_of_zero_le hy.1
  exact ⟨a, b, rfl, rfl, by omega, by omega, and64_nat a b (by omega) (by omega)⟩
theorem mask_u8 {p : Int} (h0 : 0 ≤ p) (h1 : p ≤ 255) : bits .and .u8 p 127 = ((p.toNat &&& 127 : Nat) : Int) ∧ 0 ≤ bits .and .u8 p 127 ∧ bits .and .u8 p 127 ≤ 127 := by
  obtain ⟨a, rfl⟩ := Int.eq_ofNat_of_zero_le h0
  have e := andu8_nat a 127 (by omega) (by decide)
  have l : a &&& 127 ≤ 127 := Nat.and_le_right
  have e' : bits .and .u8 (a : Int) 127 = ((a &&& 127 : Nat) : Int) := e
  rw [e']
  exact ⟨rfl, by omega, by omega⟩
theorem twice_bits {x p q : Int} (hx : 0 ≤ x ∧ x ≤ 127) (hp : 0 ≤ p ∧ p ≤ 255) (hq : 0 ≤ q ∧ q ≤ 255) :
    bits .and .i64 (bits .and .i64 x (bits .and .u8 p 127)) (bits .and .u8 q 127) = bits .and .i64 (bits .and .i64 (bits .and .i64 x p) q) 127 := by
  obtain ⟨a, rfl⟩ := Int.eq_ofNat_of_zero_le hx.1
  obtain ⟨b, rfl⟩ := Int.eq_ofNat_of_zero_le hp.1
  obtain ⟨c, rfl⟩ := Int.eq_ofNat_of_zero_le hq.1
  have l1 : b &&& 127 ≤ 127 := Nat.and_le_right
  have l2 : c &&& 127 ≤ 127 := Nat.and_le_right
  have l3 : a &&& (b &&& 127) ≤ a := Nat.and_le_left
  have l4 : a &&& b ≤ a := Nat.and_le_left
  have l5 : a &&& b &&& c ≤ a &&& b := Nat.and_le_left
  rw [(mask_u8 hp.1 hp.2).1, (mask_u8 hq.1 hq.2).1, Int.toNat_natCast, Int.toNat_natCast, and64_nat a b (by omega) (by omega), and64_nat _ c (by omega) (by omega), and64_nat a _ (by omega) (by omega), and64_nat _ _ (by omega) (by omega)]
  have e := and64_nat (a &&& b &&& c) 127 (by omega) (by decide)
  have e' : bits .and .i64 ((a &&& b &&& c : Nat) : Int) 127 = ((a &&& b &&& c &&& 127 : Nat) : Int) := e
  rw [e']
  congr 1
  apply Nat.eq_of_testBit_eq
  intro i
  simp only [Nat.testBit_and]
  cases a.testBit i <;> cases b.testBit i <;> cases c.testBit i <;> cases Nat.testBit 127 i <;> rfl
theorem boundsE_again {c : Cap} {n m : Int} (h : boundsE c n = 0) (hm : 0 ≤ m ∧ m ≤ 65535) : boundsE ⟨true, c.at_, c.at_ + n, c.at_, c.perms, 0⟩ m = 0 ↔ m ≤ n := by
  obtain ⟨e, _, _, hr, _⟩ := bounds_ok h
  rw [e] at hr
  rw [boundsE0]
  constructor
  · intro ⟨_, hi⟩
    have := inC_nums hr hi
    dsimp only at this
    omega
  · intro hle
    refine ⟨useE0.2 ⟨hr, rfl, rfl⟩, inC_of hr ⟨by omega, by dsimp only; omega, by dsimp only; omega⟩⟩
theorem hasN_64 : ∀ p : Nat, p < 128 → hasB (p : Int) 64 = decide (64 ≤ p) := by decide +kernel
theorem hasB_64 {p : Int} (h0 : 0 ≤ p) (h1 : p ≤ 127) : hasB p 64 = decide (64 ≤ p) := by
  obtain ⟨m, rfl⟩ := Int.eq_ofNat_of_zero_le h0
  rw [hasN_64 m (by omega)]
  congr 1
  apply propext
  omega
theorem back_iff {c d : Cap} (hr : rightC c = true) (ht : c.tag = true) (hk : 1 < c.type ∧ c.type ≤ 255) :
    unsealE c d = 0 ↔ rightC d = true ∧ d.tag = true ∧ d.type = 0 ∧ 64 ≤ d.perms ∧ inC d d.at_ 1 = true ∧ d.at_ = c.type := by
  rw [unsealE0, authE0, useE0]
  constructor
  · rintro ⟨_, _, _, ⟨⟨a1, a2, a3⟩, a4, a5, _⟩, a6⟩
    have b := rightC_bd a1
    rw [hasB_64 (by omega) (by omega)] at a4
    exact ⟨a1, a2, a3, by simpa using a4, a5, a6⟩
  · rintro ⟨a1, a2, a3, a4, a5, a6⟩
    have b := rightC_bd a1
    exact ⟨hr, ht, by omega, ⟨⟨a1, a2, a3⟩, by rw [hasB_64 (by omega) (by omega)]; simpa using a4, a5, by omega, by omega⟩, a6⟩
theorem useE_sealed {c : Cap} (hr : rightC c = true) (ht : c.tag = true) (hk : c.type ≠ 0) : useE c = 42 := by simp [useE, hr, ht, hk]
theorem useE_untagged {c : Cap} (hr : rightC c = true) (ht : c.tag = false) : useE c = 41 := by simp [useE, hr, ht]
theorem sealE_use {c d : Cap} (h : useE c ≠ 0) : sealE c d = useE c := by simp [sealE, firstE, h]
theorem enterE_use {c : Cap} (h : useE c ≠ 0) : enterE c = useE c := by simp [enterE, firstE, h]
theorem boundsE_use {c : Cap} {n : Int} (h : useE c ≠ 0) : boundsE c n = useE c := by simp [boundsE, firstE, h]
theorem permsE_use {c : Cap} {n : Int} (h : useE c ≠ 0) : permsE c n = useE c := by simp [permsE, firstE, h]
end Go.Proofs.Ytnakimlicedogaa
