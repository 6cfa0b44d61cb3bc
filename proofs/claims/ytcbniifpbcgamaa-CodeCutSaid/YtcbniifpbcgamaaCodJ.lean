/- Layer 15: instructions in memory. -/
import Derived.Test.YtcbniifpbcgamaaCodI
import Derived.Test.YtcbniifpbcgamaaCodO
namespace Go.Proofs.Ytcbniifpbcgamaa
set_option linter.unusedSimpArgs false
set_option linter.unusedVariables false
open Go.RowKit


/-- An instruction. -/
structure I4 where
  op : Int
  a : Int
  b : Int
  c : Int
def I4.cells (x : I4) : List Value := [.int .i64 x.op, .int .i64 x.a, .int .i64 x.b, .int .i64 x.c]
theorem I4.len (x : I4) : x.cells.length = 4 := rfl
theorem I4.one (x : I4) : ∀ v ∈ x.cells, v.oneCell' = true := by
  intro v hv
  simp only [I4.cells, List.mem_cons, List.not_mem_nil, or_false] at hv
  rcases hv with rfl | rfl | rfl | rfl <;> rfl
def byK (l : List Int) (k j : Nat) : Int := l.getD (4 * k + j) 0
/-- The instruction of a word. -/
def insK (l : List Int) (k : Nat) : I4 := ⟨byK l k 0, byK l k 1, gB (byK l k 0) (byK l k 2) (byK l k 3), gC (byK l k 0) (byK l k 3)⟩
def okK (l : List Int) (k : Nat) : Bool := rightI (insK l k).op (insK l k).a (insK l k).b (insK l k).c
def rowI (M : Nat → I4) (n : Nat) : List Value := (List.range n).flatMap fun i => (M i).cells
theorem rowI_succ (M : Nat → I4) (n : Nat) : rowI M (n + 1) = rowI M n ++ (M n).cells := by simp [rowI, List.range_succ, List.flatMap_append]
theorem rowI_length (M : Nat → I4) : ∀ n, (rowI M n).length = n * 4
  | 0 => rfl
  | n + 1 => by rw [rowI_succ, List.length_append, rowI_length M n, I4.len]; omega
theorem rowI_at (M : Nat → I4) : ∀ (n i j : Nat), i < n → j < 4 → (rowI M n)[i * 4 + j]? = (M i).cells[j]?
  | 0, _, _, h, _ => absurd h (by omega)
  | n + 1, i, j, hi, hj => by
    rw [rowI_succ]
    by_cases e : i < n
    · rw [List.getElem?_append_left (by rw [rowI_length]; omega)]
      exact rowI_at M n i j e hj
    · obtain rfl : i = n := by omega
      rw [List.getElem?_append_right (by rw [rowI_length]; omega), rowI_length]
      congr 1
      omega
/-- Instructions in memory, to be read. -/
def RdI (w : World) (A : Option Addr) (n : Nat) (M : Nat → I4) : Prop := 0 < n → ∃ b o, A = some ⟨b, o, none⟩ ∧ b < w.heap.size ∧ ∀ i, i < n → w.cell? ⟨b, o + i * 4, none⟩ = some (.int .i64 (M i).op) ∧ w.cell? ⟨b, o + i * 4 + 1, none⟩ = some (.int .i64 (M i).a) ∧ w.cell? ⟨b, o + i * 4 + 2, none⟩ = some (.int .i64 (M i).b) ∧ w.cell? ⟨b, o + i * 4 + 3, none⟩ = some (.int .i64 (M i).c)
theorem RdI.ext {w w' : World} {A : Option Addr} {n : Nat} {M : Nat → I4} (h : RdI w A n M) (x : Ext w w') : RdI w' A n M := fun h0 => by
  obtain ⟨b, o, hA, hb, hc⟩ := h h0
  exact ⟨b, o, hA, Nat.lt_of_lt_of_le hb x.size, fun i hi => by rw [x.cells b _ hb, x.cells b _ hb, x.cells b _ hb, x.cells b _ hb]; exact hc i hi⟩
theorem info_ins : (Try.prog.info? 23).map (fun i => (i.zero, i.size, i.bytes)) = some (some (.agg #[.int .i64 0, .int .i64 0, .int .i64 0, .int .i64 0]), 4, 32) := by kernel_rfl
theorem owns_ins {w : World} {base : Nat} {e : TypeId} {v : Value} {k : Nat} {M : Nat → I4} (h : w.ownsRow base e 4 v k (rowI M k)) : ∃ A ca, v = .slice A k ca ∧ RdI w A k M ∧ k ≤ ca ∧ (k = 0 ∨ ∃ q, A = some ⟨q, 0, none⟩ ∧ base ≤ q) ∧ ca ≤ maxLen := by
  rcases h.2 with ⟨rfl, rfl⟩ | ⟨g, cap, cur, rfl, hb, hg, hn, hm, hs, ht⟩
  · exact ⟨none, 0, rfl, fun h0 => absurd h0 (by omega), Nat.le_refl _, .inl rfl, by decide⟩
  · refine ⟨some ⟨g, 0, none⟩, cap, rfl, fun h0 => ⟨g, 0, rfl, (Array.getElem?_eq_some_iff.1 hg).1, fun i hi => ?_⟩, hn, .inr ⟨g, rfl, hb⟩, hm⟩
    have key : ∀ j v, j < 4 → (M i).cells[j]? = some v → w.cell? ⟨g, 0 + i * 4 + j, none⟩ = some v := fun j v hj hv => by
      rw [cell_of_row w g _ cur e (0, 0) hg]
      have h1 := rowI_at M k i j hi hj
      rw [← ht, hv, List.getElem?_take, if_pos (by omega)] at h1
      rw [Nat.zero_add]
      simpa using h1
    exact ⟨key 0 _ (by omega) rfl, key 1 _ (by omega) rfl, key 2 _ (by omega) rfl, key 3 _ (by omega) rfl⟩
theorem owns_nil (w : World) (base : Nat) (e : TypeId) (size : Nat) : w.ownsRow base e size (.slice none 0 0) 0 [] := ⟨by simp, .inl ⟨rfl, rfl⟩⟩
theorem ownsExt {w w' : World} {base : Nat} {e : TypeId} {size n : Nat} {v : Value} {xs : List Value} (h : w.ownsRow base e size v n xs) (x : Ext w w') : w'.ownsRow base e size v n xs := by
  refine ⟨h.1, ?_⟩
  rcases h.2 with h0 | ⟨g, cap, cur, hv, hb, hg, r⟩
  · exact .inl h0
  · exact .inr ⟨g, cap, cur, hv, hb, by rw [x.block g (Array.getElem?_eq_some_iff.1 hg).1]; exact hg, r⟩
/-- Four bytes, out of many. -/
theorem RdB.word {w : World} {b o : Nat} {l : List Int} {k : Nat} (h : RdB w (some ⟨b, o, none⟩) l) (hk : 4 * k + 4 ≤ l.length) : RdB w (some ⟨b, o + 4 * k, none⟩) [byK l k 0, byK l k 1, byK l k 2, byK l k 3] := fun _ => by
  obtain ⟨b', o', hA, hb, hc⟩ := h (by omega)
  cases hA
  refine ⟨b, o + 4 * k, rfl, hb, fun j hj => ?_⟩
  have hj4 : j < 4 := by simpa using hj
  have h1 := hc (4 * k + j) (by omega)
  rw [← Nat.add_assoc] at h1
  rw [h1]
  match j, hj with
  | 0, _ => simp [byK, List.getD_eq_getElem?_getD, List.getElem?_eq_getElem (show 4 * k < l.length by omega)]
  | 1, _ => simp [byK, List.getD_eq_getElem?_getD, List.getElem?_eq_getElem (show 4 * k + 1 < l.length by omega)]
  | 2, _ => simp [byK, List.getD_eq_getElem?_getD, List.getElem?_eq_getElem (show 4 * k + 2 < l.length by omega)]
  | 3, _ => simp [byK, List.getD_eq_getElem?_getD, List.getElem?_eq_getElem (show 4 * k + 3 < l.length by omega)]
theorem byK_bd {l : List Int} (h : byteL l) (k j : Nat) : 0 ≤ byK l k j ∧ byK l k j ≤ 255 := by
  unfold byK
  rw [List.getD_eq_getElem?_getD]
  by_cases hj : 4 * k + j < l.length
  · rw [List.getElem?_eq_getElem hj]
    exact h _ (List.getElem_mem hj)
  · rw [List.getElem?_eq_none (by omega)]
    decide
theorem getR_ok {l : List Int} {k : Nat} (h : okK l k = true) : getR (byK l k 0) (byK l k 1) (byK l k 2) (byK l k 3) = .tuple #[.agg #[.int .i64 (insK l k).op, .int .i64 (insK l k).a, .int .i64 (insK l k).b, .int .i64 (insK l k).c], .int .i64 0] := by
  unfold getR
  exact if_pos h
theorem getR_bad {l : List Int} {k : Nat} (h : okK l k = false) : getR (byK l k 0) (byK l k 1) (byK l k 2) (byK l k 3) = .tuple #[.agg #[.int .i64 0, .int .i64 0, .int .i64 0, .int .i64 0], .int .i64 151] := by
  unfold getR
  exact if_neg (fun e => by have h' : okK l k = true := e; rw [h] at h'; cases h')

end Go.Proofs.Ytcbniifpbcgamaa
