/- Layer 8: a granule. -/
import Derived.Test.YtgjjimpialgojaaProg
import Derived.Test.YtgjjimpialgojaaShaN
import Derived.Test.YtgjjimpialgojaaH
namespace Go.Proofs.Ytgjjimpialgojaa
set_option linter.unusedSimpArgs false
set_option linter.unusedVariables false
open Go.RowKit


theorem heap_setCell (w : World) (b o : Nat) (v : Value) (i : Nat) : (w.setCell ⟨b, o, none⟩ v).heap[i]? = if b = i then (w.heap[i]?).map (fun | .cells c e f => .cells (c.setIfInBounds o v) e f | x => x) else w.heap[i]? := by
  unfold World.setCell
  simp only [Array.getElem?_modify]
  split
  · congr 1
  · rfl
theorem cell_setCell_self (w : World) (b o : Nat) (v : Value) : (w.setCell ⟨b, o, none⟩ v).cell? ⟨b, o, none⟩ = (w.cell? ⟨b, o, none⟩).map fun _ => v := by
  unfold World.cell?
  rw [heap_setCell]
  simp only [if_true]
  cases h : w.heap[b]? with
  | none => rfl
  | some x =>
    cases x with
    | cells c e f =>
      simp
      by_cases hl : o < c.size
      · simp [hl]
      · simp [hl]
    | _ => rfl
theorem cell_setCell_far (w : World) (b o b' o' : Nat) (v : Value) (h : ¬ (b' = b ∧ o' = o)) : (w.setCell ⟨b, o, none⟩ v).cell? ⟨b', o', none⟩ = w.cell? ⟨b', o', none⟩ := by
  unfold World.cell?
  rw [heap_setCell]
  by_cases hb : b = b'
  · subst hb
    simp only [if_true]
    cases w.heap[b]? with
    | none => rfl
    | some x =>
      cases x with
      | cells c e f =>
        simp
        rw [Array.getElem?_setIfInBounds, if_neg (by omega)]
      | _ => rfl
  · rw [if_neg hb]
theorem pow_cast {j : Nat} (hj : j < 64) : IntKind.u64.wrap ((2 : Int) ^ j) = ((2 ^ j : Nat) : Int) := by
  rw [IntKind.wrap_u64]
  have h := pow_lt64 hj
  have e : ((2 : Int) ^ j) = ((2 ^ j : Nat) : Int) := by simp
  rw [e]
  generalize 2 ^ j = x at h ⊢
  omega
/-- A map of granules: its block, its words' block. -/
structure Sh (w : World) (p q n : Nat) (P : Nat → Bool) : Prop where
  np : ¬ p = q
  ltp : p < w.heap.size
  ltq : q < w.heap.size
  c0 : w.cell? ⟨p, 0, none⟩ = some (.int .i64 n)
  c1 : w.cell? ⟨p, 1, none⟩ = some (.slice (some ⟨q, 0, none⟩) ((n + 63) / 64) ((n + 63) / 64))
  words : ∀ k, k < (n + 63) / 64 → w.cell? ⟨q, k, none⟩ = some (.int .u64 (wordP P k : Int)) ∧ w.frozen? ⟨q, k, none⟩ = false
  out : ∀ i, n ≤ i → P i = false
  bd : 1 ≤ n ∧ n ≤ 1048576
theorem Sh.only {S : Nat → Prop} {w w' : World} {p q n : Nat} {P : Nat → Bool} (h : Sh w p q n P) (x : Only S w w') (hp : ¬ S p) (hq : ¬ S q) : Sh w' p q n P :=
  ⟨h.np, Nat.lt_of_lt_of_le h.ltp x.size, Nat.lt_of_lt_of_le h.ltq x.size, by rw [x.cells p _ h.ltp hp]; exact h.c0, by rw [x.cells p _ h.ltp hp]; exact h.c1,
    fun k hk => by rw [x.cells q _ h.ltq hq, x.frozens q _ h.ltq hq]; exact h.words k hk, h.out, h.bd⟩
theorem Sh.ext {w w' : World} {p q n : Nat} {P : Nat → Bool} (h : Sh w p q n P) (x : Ext w w') : Sh w' p q n P := h.only (Only.ofExt (S := fun _ => False) x) id id
theorem Sh.set {w : World} {p q n i : Nat} {P : Nat → Bool} (h : Sh w p q n P) (hi : i < n) (b : Bool) : Sh (w.setCell ⟨q, i / 64, none⟩ (.int .u64 (wordP (updP P i b) (i / 64) : Int))) p q n (updP P i b) := by
  have x : Only (· = q) w (w.setCell ⟨q, i / 64, none⟩ (.int .u64 (wordP (updP P i b) (i / 64) : Int))) := Only.setCell (S := (· = q)) (Only.refl _ w) (.inl rfl) _
  refine ⟨h.np, Nat.lt_of_lt_of_le h.ltp x.size, Nat.lt_of_lt_of_le h.ltq x.size, by rw [x.cells p _ h.ltp h.np]; exact h.c0, by rw [x.cells p _ h.ltp h.np]; exact h.c1, fun k hk => ?_, fun j hj => ?_, h.bd⟩
  · obtain ⟨h1, h2⟩ := h.words k hk
    refine ⟨?_, by rw [World.frozen?_setCell]; exact h2⟩
    by_cases e : k = i / 64
    · subst e
      rw [cell_setCell_self, h1]
      rfl
    · rw [cell_setCell_far _ _ _ _ _ _ (by omega), h1]
      have e2 : i = 64 * (i / 64) + i % 64 := by omega
      rw [e2, wordP_other P (i / 64) (i % 64) b (by omega) (by omega)]
  · unfold updP
    rw [if_neg (by omega)]
    exact h.out j hj
theorem Sh.congr {w : World} {p q n : Nat} {P P' : Nat → Bool} (h : Sh w p q n P) (e : ∀ i, P i = P' i) : Sh w p q n P' := by
  have : P = P' := funext e
  rw [← this]
  exact h
set_option maxHeartbeats 1000000 in
theorem painted_ (p q n i : Nat) (P : Nat → Bool) (w : World) (h : Sh w p q n P) (hi : i < n) :
    Calls Try.prog 24 #[.pointer (some ⟨p, 0, none⟩), .int .i64 (i : Int)] w fun e w' => e = .returned (.bool (P i)) ∧ w = w' := by
  obtain ⟨k, j, rfl, hj⟩ : ∃ k j : Nat, i = 64 * k + j ∧ j < 64 := ⟨i / 64, i % 64, by omega, by omega⟩
  have hkm : k < (n + 63) / 64 := by omega
  obtain ⟨hw, hf⟩ := h.words k hkm
  have h0 := h.c0
  have h1 := h.c1
  have hlp := h.ltp
  have hlq := h.ltq
  have hnp := h.np
  have hnp2 : ¬ q = p := fun e => hnp e.symm
  have hi0 : (0 : Int) ≤ ((64 * k + j : Nat) : Int) := by omega
  have hq1 : (((64 * k + j : Nat) : Int)).tdiv 64 = (k : Int) := by rw [Int.tdiv_eq_ediv_of_nonneg hi0]; omega
  have hr1 : (((64 * k + j : Nat) : Int)).tmod 64 = (j : Int) := by rw [Int.tmod_eq_emod_of_nonneg hi0]; omega
  have hk0 : (0 : Int) ≤ (k : Int) := by omega
  have hk1 : (k : Int) < (((n + 63) / 64 : Nat) : Int) := by omega
  have hj0 : (0 : Int) ≤ (j : Int) := by omega
  have hj1 : (j : Int) < 64 := by omega
  have HB := hid ((bit_is (wordP P k) j (wordP_lt _ _)).trans (wordP_bit P k j hj))
  have hkb : (k : Int) ≤ 1048576 := by have := h.bd; omega
  have hwk : wrap64 (k : Int) = (k : Int) := by unfold wrap64; omega
  have hwj : wrap64 (j : Int) = (j : Int) := by clear hwk; unfold wrap64; omega
  obtain ⟨x, hx⟩ : ∃ x : Int, ((64 * k + j : Nat) : Int) = x := ⟨_, rfl⟩
  rw [hx] at hi0 hq1 hr1 ⊢
  clear hx
  obtain ⟨m, hm⟩ : ∃ m, (n + 63) / 64 = m := ⟨_, rfl⟩
  rw [hm] at h1 hk1
  go_enter Try.func24, Try.ntmps24
  go_wp2
  rw [HB.out]
  go_ret
  exact ⟨rfl, rfl⟩

set_option maxHeartbeats 1000000 in
theorem paint_true (p q n i : Nat) (P : Nat → Bool) (w : World) (h : Sh w p q n P) (hi : i < n) :
    Calls Try.prog 22 #[.pointer (some ⟨p, 0, none⟩), .int .i64 (i : Int), .bool true] w fun e w' => e = .returned (.tuple #[]) ∧ w.setCell ⟨q, i / 64, none⟩ (.int .u64 (wordP (updP P i true) (i / 64) : Int)) = w' := by
  obtain ⟨k, j, rfl, hj⟩ : ∃ k j : Nat, i = 64 * k + j ∧ j < 64 := ⟨i / 64, i % 64, by omega, by omega⟩
  have hkm : k < (n + 63) / 64 := by omega
  obtain ⟨hw, hf⟩ := h.words k hkm
  have h0 := h.c0
  have h1 := h.c1
  have hlp := h.ltp
  have hlq := h.ltq
  have hnp := h.np
  have hnp2 : ¬ q = p := fun e => hnp e.symm
  have hi0 : (0 : Int) ≤ ((64 * k + j : Nat) : Int) := by omega
  have hq1 : (((64 * k + j : Nat) : Int)).tdiv 64 = (k : Int) := by rw [Int.tdiv_eq_ediv_of_nonneg hi0]; omega
  have hr1 : (((64 * k + j : Nat) : Int)).tmod 64 = (j : Int) := by rw [Int.tmod_eq_emod_of_nonneg hi0]; omega
  have hk0 : (0 : Int) ≤ (k : Int) := by omega
  have hk1 : (k : Int) < (((n + 63) / 64 : Nat) : Int) := by omega
  have hj0 : (0 : Int) ≤ (j : Int) := by omega
  have hj1 : (j : Int) < 64 := by omega
  have HV : bits .or .u64 (wordP P k : Int) (IntKind.u64.wrap ((2 : Int) ^ j)) = (wordP (updP P (64 * k + j) true) k : Int) := by
    rw [pow_cast hj]
    rw [bits_or_u64_nat _ _ (wordP_lt _ _) (pow_lt64 hj), wordP_set P k j hj]
  rw [show (64 * k + j) / 64 = k by omega]
  have hkb : (k : Int) ≤ 1048576 := by have := h.bd; omega
  have hwk : wrap64 (k : Int) = (k : Int) := by unfold wrap64; omega
  have hwj : wrap64 (j : Int) = (j : Int) := by clear hwk; unfold wrap64; omega
  obtain ⟨x, hx⟩ : ∃ x : Int, ((64 * k + j : Nat) : Int) = x := ⟨_, rfl⟩
  rw [hx] at hi0 hq1 hr1 ⊢
  clear hx
  obtain ⟨m, hm⟩ : ∃ m, (n + 63) / 64 = m := ⟨_, rfl⟩
  rw [hm] at h1 hk1
  generalize wordP (updP P (64 * k + j) true) k = y at HV ⊢
  generalize wordP P k = z at hw HV
  have HVH := hid HV
  clear HV
  go_enter Try.func22, Try.ntmps22
  go_wp2
  rw [HVH.out]
  go_end0
  exact ⟨rfl, rfl⟩

set_option maxHeartbeats 1000000 in
theorem paint_false (p q n i : Nat) (P : Nat → Bool) (w : World) (h : Sh w p q n P) (hi : i < n) :
    Calls Try.prog 22 #[.pointer (some ⟨p, 0, none⟩), .int .i64 (i : Int), .bool false] w fun e w' => e = .returned (.tuple #[]) ∧ w.setCell ⟨q, i / 64, none⟩ (.int .u64 (wordP (updP P i false) (i / 64) : Int)) = w' := by
  obtain ⟨k, j, rfl, hj⟩ : ∃ k j : Nat, i = 64 * k + j ∧ j < 64 := ⟨i / 64, i % 64, by omega, by omega⟩
  have hkm : k < (n + 63) / 64 := by omega
  obtain ⟨hw, hf⟩ := h.words k hkm
  have h0 := h.c0
  have h1 := h.c1
  have hlp := h.ltp
  have hlq := h.ltq
  have hnp := h.np
  have hnp2 : ¬ q = p := fun e => hnp e.symm
  have hi0 : (0 : Int) ≤ ((64 * k + j : Nat) : Int) := by omega
  have hq1 : (((64 * k + j : Nat) : Int)).tdiv 64 = (k : Int) := by rw [Int.tdiv_eq_ediv_of_nonneg hi0]; omega
  have hr1 : (((64 * k + j : Nat) : Int)).tmod 64 = (j : Int) := by rw [Int.tmod_eq_emod_of_nonneg hi0]; omega
  have hk0 : (0 : Int) ≤ (k : Int) := by omega
  have hk1 : (k : Int) < (((n + 63) / 64 : Nat) : Int) := by omega
  have hj0 : (0 : Int) ≤ (j : Int) := by omega
  have hj1 : (j : Int) < 64 := by omega
  have HV : bits .andNot .u64 (wordP P k : Int) (IntKind.u64.wrap ((2 : Int) ^ j)) = (wordP (updP P (64 * k + j) false) k : Int) := by
    rw [pow_cast hj]
    exact wordP_clear P k j hj
  rw [show (64 * k + j) / 64 = k by omega]
  have hkb : (k : Int) ≤ 1048576 := by have := h.bd; omega
  have hwk : wrap64 (k : Int) = (k : Int) := by unfold wrap64; omega
  have hwj : wrap64 (j : Int) = (j : Int) := by clear hwk; unfold wrap64; omega
  obtain ⟨x, hx⟩ : ∃ x : Int, ((64 * k + j : Nat) : Int) = x := ⟨_, rfl⟩
  rw [hx] at hi0 hq1 hr1 ⊢
  clear hx
  obtain ⟨m, hm⟩ : ∃ m, (n + 63) / 64 = m := ⟨_, rfl⟩
  rw [hm] at h1 hk1
  generalize wordP (updP P (64 * k + j) false) k = y at HV ⊢
  generalize wordP P k = z at hw HV
  have HVH := hid HV
  clear HV
  go_enter Try.func22, Try.ntmps22
  go_wp2
  rw [HVH.out]
  go_end0
  exact ⟨rfl, rfl⟩


end Go.Proofs.Ytgjjimpialgojaa
