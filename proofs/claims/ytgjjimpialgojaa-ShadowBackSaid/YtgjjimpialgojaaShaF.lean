/- Layer 8: rows. -/
import Derived.Test.YtgjjimpialgojaaShaE
namespace Go.Proofs.Ytgjjimpialgojaa
set_option linter.unusedSimpArgs false
set_option linter.unusedVariables false
open Go.RowKit


theorem info_two : (Try.prog.info? 42).map (fun i => (i.zero, i.size, i.bytes)) = some (some (.agg #[.int .i64 0, .int .i64 0]), 2, 16) := by kernel_rfl
def rowV (x : Nat × Nat) : List Value := [.int .i64 (16 * (x.1 : Int)), .int .i64 (16 * (x.2 : Int))]
def rowsV (L : List (Nat × Nat)) : List Value := L.flatMap rowV
theorem rowsV_append (L M : List (Nat × Nat)) : rowsV (L ++ M) = rowsV L ++ rowsV M := by simp [rowsV]
theorem rowsV_length : ∀ L, (rowsV L).length = L.length * 2
  | [] => rfl
  | x :: L => by
    show (rowV x ++ rowsV L).length = _
    rw [List.length_append, rowsV_length L, List.length_cons]
    show 2 + _ = _
    omega
theorem rowsV_at : ∀ (L : List (Nat × Nat)) (i j : Nat) (h : i < L.length), j < 2 → (rowsV L)[i * 2 + j]? = (rowV L[i])[j]?
  | [], _, _, h, _ => absurd h (by simp)
  | x :: L, i, j, h, hj => by
    have e : rowsV (x :: L) = rowV x ++ rowsV L := by simp [rowsV]
    have hl : (rowV x).length = 2 := rfl
    rw [e]
    match i, h with
    | 0, _ =>
      rw [List.getElem?_append_left (by omega)]
      simp
    | i + 1, h =>
      rw [List.getElem?_append_right (by omega), hl, show (i + 1) * 2 + j - 2 = i * 2 + j by omega, rowsV_at L i j (by simpa using h) hj]
      rfl
/-- Rows in memory, to be read. -/
def RdW (w : World) (A : Option Addr) (L : List (Nat × Nat)) : Prop := 0 < L.length → ∃ b o, A = some ⟨b, o, none⟩ ∧ b < w.heap.size ∧ ∀ i (h : i < L.length), w.cell? ⟨b, o + i * 2, none⟩ = some (.int .i64 (16 * ((L[i]).1 : Int))) ∧ w.cell? ⟨b, o + i * 2 + 1, none⟩ = some (.int .i64 (16 * ((L[i]).2 : Int)))
theorem RdW.ext {w w' : World} {A : Option Addr} {L : List (Nat × Nat)} (h : RdW w A L) (x : Ext w w') : RdW w' A L := fun h0 => by
  obtain ⟨b, o, hA, hb, hc⟩ := h h0
  exact ⟨b, o, hA, Nat.lt_of_lt_of_le hb x.size, fun i hi => by rw [x.cells b _ hb, x.cells b _ hb]; exact hc i hi⟩
theorem RdW.only {S : Nat → Prop} {w w' : World} {A : Option Addr} {L : List (Nat × Nat)} (h : RdW w A L) (x : Only S w w') (hs : ∀ b o, A = some ⟨b, o, none⟩ → ¬ S b) : RdW w' A L := fun h0 => by
  obtain ⟨b, o, hA, hb, hc⟩ := h h0
  exact ⟨b, o, hA, Nat.lt_of_lt_of_le hb x.size, fun i hi => by rw [x.cells b _ hb (hs b o hA), x.cells b _ hb (hs b o hA)]; exact hc i hi⟩
/-- Rows of the call's own. -/
def OwnW (w : World) (base : Nat) (v : Value) (L : List (Nat × Nat)) : Prop := w.ownsRow base 42 2 v L.length (rowsV L)
theorem OwnW.nil (w : World) (base : Nat) : OwnW w base (.slice none 0 0) [] := ⟨by simp [rowsV], .inl ⟨rfl, rfl⟩⟩
theorem OwnW.rd {w : World} {base : Nat} {v : Value} {L : List (Nat × Nat)} (h : OwnW w base v L) : ∃ A ca, v = .slice A L.length ca ∧ RdW w A L ∧ ∀ b o, A = some ⟨b, o, none⟩ → base ≤ b := by
  rcases h.2 with ⟨rfl, h0⟩ | ⟨g, cap, cur, rfl, hb, hg, hn, _, hs, ht⟩
  · exact ⟨none, 0, by rw [h0], fun h1 => absurd h1 (by omega), fun b o h => by cases h⟩
  · refine ⟨some ⟨g, 0, none⟩, cap, rfl, fun _ => ⟨g, 0, rfl, (Array.getElem?_eq_some_iff.1 hg).1, fun i hi => ?_⟩, fun b o h => by injection h with h; injection h with h1 h2; omega⟩
    have key : ∀ j, j < 2 → w.cell? ⟨g, 0 + i * 2 + j, none⟩ = (rowV L[i])[j]? := fun j hj => by
      rw [cell_of_row w g _ cur 42 (0, 0) hg]
      have h1 := rowsV_at L i j hi hj
      rw [← ht, List.getElem?_take, if_pos (by omega)] at h1
      rw [Nat.zero_add]
      simpa using h1
    exact ⟨key 0 (by omega), key 1 (by omega)⟩
theorem OwnW.ext {w w' : World} {base : Nat} {v : Value} {L : List (Nat × Nat)} (h : OwnW w base v L) (x : Ext w w') : OwnW w' base v L := by
  refine ⟨h.1, ?_⟩
  rcases h.2 with h0 | ⟨g, cap, cur, hv, hb, hg, r⟩
  · exact .inl h0
  · exact .inr ⟨g, cap, cur, hv, hb, by rw [x.block g (Array.getElem?_eq_some_iff.1 hg).1]; exact hg, r⟩
theorem Ext.owned {a w w' : World} {e : TypeId} {size n : Nat} {v : Value} {xs : List Value} (h : Ext a w) (hown : w.ownsRow a.heap.size e size v n xs) (hg : w.grownBy w' v.ownBlock) : Ext a w' := by
  refine ⟨hg.os.trans h.os, hg.tape.trans h.tape, hg.output.trans h.output, Nat.le_trans h.size hg.size, fun k hk => ?_⟩
  rw [hg.block k (Nat.lt_of_lt_of_le hk h.size) (fun e => by
    rcases hown.2 with ⟨h0, _⟩ | ⟨g, cap, cur, hv, hb, _⟩
    · rw [h0] at e; cases e
    · rw [hv] at e
      have : k = g := by simpa [Value.ownBlock] using e
      omega)]
  exact h.block k hk
theorem owns_base {w : World} {base : Nat} {e : TypeId} {size n : Nat} {v : Value} {xs : List Value} (h : w.ownsRow base e size v n xs) {g : Nat} (hg : v.ownBlock = some g) : base ≤ g ∧ g < w.heap.size := by
  rcases h.2 with ⟨h0, _⟩ | ⟨g', cap, cur, hv, hb, hh, _⟩
  · rw [h0] at hg; cases hg
  · rw [hv] at hg
    have e : g' = g := by simpa [Value.ownBlock] using hg
    subst e
    exact ⟨hb, (Array.getElem?_eq_some_iff.1 hh).1⟩
/-- The rows of what is painted, up to a granule. -/
def rowsP (P : Nat → Bool) : Nat → List (Nat × Nat)
  | 0 => []
  | i + 1 => if P i then (match (rowsP P i).getLast? with
      | some x => if x.2 = i then (rowsP P i).dropLast ++ [(x.1, i + 1)] else rowsP P i ++ [(i, i + 1)]
      | none => [(i, i + 1)]) else rowsP P i
theorem rowsP_no {P : Nat → Bool} {i : Nat} (h : P i = false) : rowsP P (i + 1) = rowsP P i := by
  show (if P i then _ else rowsP P i) = _
  rw [h]
  rfl
theorem rowsP_first {P : Nat → Bool} {i : Nat} (h : P i = true) (hL : rowsP P i = []) : rowsP P (i + 1) = [(i, i + 1)] := by
  show (if P i then (match (rowsP P i).getLast? with | some x => if x.2 = i then (rowsP P i).dropLast ++ [(x.1, i + 1)] else rowsP P i ++ [(i, i + 1)] | none => [(i, i + 1)]) else rowsP P i) = _
  rw [h, hL]
  rfl
theorem rowsP_more {P : Nat → Bool} {i a : Nat} {L : List (Nat × Nat)} (h : P i = true) (hL : rowsP P i = L ++ [(a, i)]) : rowsP P (i + 1) = L ++ [(a, i + 1)] := by
  show (if P i then (match (rowsP P i).getLast? with | some x => if x.2 = i then (rowsP P i).dropLast ++ [(x.1, i + 1)] else rowsP P i ++ [(i, i + 1)] | none => [(i, i + 1)]) else rowsP P i) = _
  rw [h, hL]
  simp
theorem rowsP_new {P : Nat → Bool} {i a b : Nat} {L : List (Nat × Nat)} (h : P i = true) (hL : rowsP P i = L ++ [(a, b)]) (hb : ¬ b = i) : rowsP P (i + 1) = rowsP P i ++ [(i, i + 1)] := by
  show (if P i then (match (rowsP P i).getLast? with | some x => if x.2 = i then (rowsP P i).dropLast ++ [(x.1, i + 1)] else rowsP P i ++ [(i, i + 1)] | none => [(i, i + 1)]) else rowsP P i) = _
  rw [h, hL]
  simp [hb]
theorem rowsP_len (P : Nat → Bool) : ∀ i, (rowsP P i).length ≤ i
  | 0 => Nat.le_refl _
  | i + 1 => by
    have ih := rowsP_len P i
    cases h : P i with
    | false => rw [rowsP_no h]; omega
    | true =>
      rcases List.eq_nil_or_concat (rowsP P i) with hL | ⟨L, x, hL⟩
      · rw [rowsP_first h hL]; simp
      · obtain ⟨a, b⟩ := x
        rw [List.concat_eq_append] at hL
        by_cases hb : b = i
        · subst hb
          rw [rowsP_more h hL]
          rw [hL] at ih
          simp at ih ⊢
          omega
        · rw [rowsP_new h hL hb]
          simp
          omega

end Go.Proofs.Ytgjjimpialgojaa
