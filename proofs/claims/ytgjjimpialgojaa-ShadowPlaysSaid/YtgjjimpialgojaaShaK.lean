/- Layer 8: what is true of rows. -/
import Derived.Test.YtgjjimpialgojaaShaI
namespace Go.Proofs.Ytgjjimpialgojaa
set_option linter.unusedSimpArgs false
set_option linter.unusedVariables false
open Go.RowKit


/-- What rows of what is painted are. -/
structure RowGood (P : Nat → Bool) (i : Nat) (x : Nat × Nat) : Prop where
  lt : x.1 < x.2
  le : x.2 ≤ i
  all : ∀ y, x.1 ≤ y → y < x.2 → P y = true
  ahead : x.1 = 0 ∨ P (x.1 - 1) = false
  behind : x.2 = i ∨ P x.2 = false
def sumR (L : List (Nat × Nat)) : Nat := (L.map fun x => x.2 - x.1).sum
structure RowsGood (P : Nat → Bool) (i : Nat) (L : List (Nat × Nat)) : Prop where
  each : ∀ j (h : j < L.length), RowGood P i L[j]
  apart : ∀ j (h : j + 1 < L.length), (L[j]'(by omega)).2 < (L[j + 1]).1
  sum : sumR L = cnt P i
  last : 0 < i → P (i - 1) = true → ∃ L' a, L = L' ++ [(a, i)]
theorem sumR_snoc (L : List (Nat × Nat)) (x : Nat × Nat) : sumR (L ++ [x]) = sumR L + (x.2 - x.1) := by simp [sumR]
theorem each_snoc {P : Nat → Bool} {i : Nat} {L : List (Nat × Nat)} {x : Nat × Nat} (h : ∀ j (h : j < L.length), RowGood P i L[j]) (hx : RowGood P i x) : ∀ j (h : j < (L ++ [x]).length), RowGood P i (L ++ [x])[j] := by
  intro j hj
  by_cases e : j < L.length
  · rw [List.getElem_append_left e]
    exact h j e
  · have e2 : j = L.length := by simp at hj; omega
    subst e2
    simpa using hx
theorem apart_snoc {L : List (Nat × Nat)} {x : Nat × Nat} (h : ∀ j (h : j + 1 < L.length), (L[j]'(by omega)).2 < (L[j + 1]).1) (hx : ∀ (h : 0 < L.length), (L[L.length - 1]'(by omega)).2 < x.1) : ∀ j (h : j + 1 < (L ++ [x]).length), ((L ++ [x])[j]'(by omega)).2 < ((L ++ [x])[j + 1]).1 := by
  intro j hj
  have hj2 : j < L.length := by simp at hj; omega
  rw [List.getElem_append_left hj2]
  by_cases e : j + 1 < L.length
  · rw [List.getElem_append_left e]
    exact h j e
  · have e2 : j = L.length - 1 := by omega
    have e3 : (L ++ [x])[j + 1]'hj = x := by
      rw [List.getElem_append_right (by omega)]
      simp
    rw [e3]
    subst e2
    exact hx (by omega)
theorem each_left {P : Nat → Bool} {i : Nat} {L M : List (Nat × Nat)} (h : ∀ j (h : j < (L ++ M).length), RowGood P i (L ++ M)[j]) : ∀ j (h : j < L.length), RowGood P i L[j] := fun j hj => by
  have := h j (by simp; omega)
  rwa [List.getElem_append_left hj] at this
theorem apart_left {L M : List (Nat × Nat)} (h : ∀ j (h : j + 1 < (L ++ M).length), ((L ++ M)[j]'(by omega)).2 < ((L ++ M)[j + 1]).1) : ∀ j (h : j + 1 < L.length), (L[j]'(by omega)).2 < (L[j + 1]).1 := fun j hj => by
  have := h j (by simp; omega)
  rwa [List.getElem_append_left hj, List.getElem_append_left (by omega)] at this
theorem good_mono {P : Nat → Bool} {i : Nat} {x : Nat × Nat} (h : RowGood P i x) (hb : x.2 = i → P i = false) : RowGood P (i + 1) x :=
  ⟨h.lt, by have := h.le; omega, h.all, h.ahead, .inr (h.behind.elim (fun e => e ▸ hb e) id)⟩
theorem row_one {P : Nat → Bool} {i : Nat} (hp : P i = true) (hi : i = 0 ∨ P (i - 1) = false) : RowGood P (i + 1) (i, i + 1) :=
  ⟨Nat.lt_succ_self i, Nat.le_refl _, fun y h1 h2 => by
    have e : y = i := by simp at h1 h2; omega
    rw [e]
    exact hp, hi, .inl rfl⟩
theorem rows_good (P : Nat → Bool) : ∀ i, RowsGood P i (rowsP P i)
  | 0 => ⟨fun j h => absurd h (by simp [rowsP]), fun j h => absurd h (by simp [rowsP]), rfl, fun h => absurd h (by omega)⟩
  | i + 1 => by
    have ih := rows_good P i
    have hc : cnt P (i + 1) = cnt P i + if P i then 1 else 0 := rfl
    cases hp : P i with
    | false =>
      rw [rowsP_no hp]
      refine ⟨fun j h => good_mono (ih.each j h) fun _ => hp, ih.apart, by rw [hc, hp, ih.sum]; rfl, fun _ h => ?_⟩
      rw [show i + 1 - 1 = i by omega, hp] at h
      cases h
    | true =>
      have hc1 : cnt P (i + 1) = cnt P i + 1 := by rw [hc, hp]; rfl
      rcases List.eq_nil_or_concat (rowsP P i) with hL | ⟨L, x, hL⟩
      · have hi : i = 0 ∨ P (i - 1) = false := by
          rcases Nat.eq_zero_or_pos i with h0 | h0
          · exact .inl h0
          · right
            cases hq : P (i - 1) with
            | false => rfl
            | true =>
              obtain ⟨L', a, e⟩ := ih.last h0 hq
              rw [hL] at e
              simp at e
        have hs := ih.sum
        rw [hL] at hs
        rw [rowsP_first hp hL]
        refine ⟨fun j h => ?_, fun j h => absurd h (by simp), ?_, fun _ _ => ⟨[], i, rfl⟩⟩
        · have e : j = 0 := by simpa using h
          subst e
          exact row_one hp hi
        · rw [hc1, ← hs]
          simp [sumR]
      · obtain ⟨a, b⟩ := x
        rw [List.concat_eq_append] at hL
        have hE := ih.each
        have hA := ih.apart
        have hS := ih.sum
        rw [hL] at hE hA hS
        have hx : RowGood P i (a, b) := by
          have := hE L.length (by simp)
          simpa using this
        have hl : ∀ (h : 0 < L.length), (L[L.length - 1]'(by omega)).2 < a := fun h => by
          have := hA (L.length - 1) (by simp; omega)
          rw [List.getElem_append_left (by omega)] at this
          have e3 : (L ++ [(a, b)])[L.length - 1 + 1]'(by simp; omega) = (a, b) := by
            rw [List.getElem_append_right (by omega)]
            simp
          rw [e3] at this
          exact this
        rw [sumR_snoc] at hS
        by_cases hb : b = i
        · subst hb
          rw [rowsP_more hp hL]
          refine ⟨each_snoc (fun j h => good_mono (each_left hE j h) fun e => ?_) ⟨?_, Nat.le_refl _, fun y h1 h2 => ?_, hx.ahead, .inl rfl⟩, apart_snoc (apart_left hA) hl, ?_, fun _ _ => ⟨L, a, rfl⟩⟩
          · exfalso
            have h1 := (each_left hE j h).behind
            have h2 := (each_left hE j h).le
            have h3 : (L[j]).2 ≤ a := by
              have key : ∀ m (hm : m < L.length), (L[m]).2 ≤ a := by
                intro m hm
                by_cases e1 : m = L.length - 1
                · subst e1
                  exact Nat.le_of_lt (hl (by omega))
                · have h4 : ∀ d, ∀ m (hm : m < L.length), L.length - 1 - m = d → (L[m]).2 ≤ a := by
                    intro d
                    induction d with
                    | zero => intro m hm hd; have : m = L.length - 1 := by omega
                              subst this; exact Nat.le_of_lt (hl (by omega))
                    | succ d ihd =>
                      intro m hm hd
                      have h5 := apart_left hA m (by omega)
                      have h6 := (each_left hE (m + 1) (by omega)).lt
                      have h7 := ihd (m + 1) (by omega) (by omega)
                      omega
                  exact h4 _ m hm rfl
              exact key j h
            have h4 := hx.lt
            simp at h4
            omega
          · have := hx.lt
            simp at this ⊢
            omega
          · by_cases e : y = b
            · rw [e]; exact hp
            · exact hx.all y h1 (by simp at h2 ⊢; omega)
          · rw [sumR_snoc, hc1]
            have := hx.lt
            simp at hS this ⊢
            omega
        · have hbi : b < i := by have := hx.le; simp at this; omega
          have hi : i = 0 ∨ P (i - 1) = false := by
            right
            cases hq : P (i - 1) with
            | false => rfl
            | true =>
              obtain ⟨L', a', e⟩ := ih.last (by omega) hq
              rw [hL] at e
              have := congrArg List.getLast? e
              simp at this
              omega
          rw [rowsP_new hp hL hb, hL]
          have hEach : ∀ j (h : j < (L ++ [(a, b)]).length), RowGood P (i + 1) (L ++ [(a, b)])[j] := fun j h => good_mono (hE j h) fun e => by
            exfalso
            have key : ∀ d, ∀ m (hm : m < (L ++ [(a, b)]).length), (L ++ [(a, b)]).length - 1 - m = d → ((L ++ [(a, b)])[m]).2 ≤ b := by
              intro d
              induction d with
              | zero =>
                intro m hm hd
                have : m = L.length := by simp at hd hm; omega
                subst this
                simp
              | succ d ihd =>
                intro m hm hd
                have h5 := hA m (by omega)
                have h6 := (hE (m + 1) (by omega)).lt
                have h7 := ihd (m + 1) (by omega) (by omega)
                omega
            have := key _ j h rfl
            omega
          refine ⟨each_snoc hEach (row_one hp hi), apart_snoc hA (fun h => ?_), ?_, fun _ _ => ⟨L ++ [(a, b)], i, rfl⟩⟩
          · have e3 : (L ++ [(a, b)])[(L ++ [(a, b)]).length - 1]'(by simp) = (a, b) := by simp
            rw [e3]
            exact hbi
          · rw [sumR_snoc, sumR_snoc, hc1, ← hS]
            simp
def sumTo (L : List (Nat × Nat)) (j : Nat) : Nat := sumR (L.take j)
theorem sumTo_succ {L : List (Nat × Nat)} {j : Nat} (h : j < L.length) : sumTo L (j + 1) = sumTo L j + ((L[j]).2 - (L[j]).1) := by
  unfold sumTo
  rw [List.take_succ_eq_append_getElem h, sumR_snoc]
theorem sumTo_le {L : List (Nat × Nat)} : ∀ j, sumTo L j ≤ sumR L := fun j => by
  unfold sumTo
  have e : sumR L = sumR (L.take j) + sumR (L.drop j) := by
    have := List.take_append_drop j L
    have h2 : ∀ A B : List (Nat × Nat), sumR (A ++ B) = sumR A + sumR B := fun A B => by simp [sumR]
    rw [← h2, this]
  omega

end Go.Proofs.Ytgjjimpialgojaa
