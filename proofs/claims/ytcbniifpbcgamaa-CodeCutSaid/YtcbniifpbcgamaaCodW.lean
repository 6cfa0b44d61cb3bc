/- Layer 15: many words, one behind the other. -/
import Derived.Test.YtcbniifpbcgamaaCodL
import Derived.Test.YtcbniifpbcgamaaCodM
import Derived.Test.YtcbniifpbcgamaaOpenI
namespace Go.Proofs.Ytcbniifpbcgamaa
set_option linter.unusedSimpArgs false
set_option linter.unusedVariables false
open Go.RowKit


theorem getD_app_l {α : Type} (l m : List α) (d : α) (n : Nat) (h : n < l.length) : (l ++ m).getD n d = l.getD n d := by
  rw [List.getD_eq_getElem?_getD, List.getD_eq_getElem?_getD, List.getElem?_append_left h]
theorem getD_app_r {α : Type} (l m : List α) (d : α) (n : Nat) (h : l.length ≤ n) : (l ++ m).getD n d = m.getD (n - l.length) d := by
  rw [List.getD_eq_getElem?_getD, List.getD_eq_getElem?_getD, List.getElem?_append_right h]
def okI (x : I4) : Bool := rightI x.op x.a x.b x.c
def putW (x : I4) : List Int := putI x.op x.a x.b x.c
def wordsI (L : List I4) : List Int := L.flatMap putW
theorem wordsI_length : ∀ L : List I4, (wordsI L).length = 4 * L.length
  | [] => rfl
  | x :: L => by
    show (putW x ++ wordsI L).length = _
    rw [List.length_append, wordsI_length L, putW, putI_length, List.length_cons]
    omega
theorem wordsI_append (L M : List I4) : wordsI (L ++ M) = wordsI L ++ wordsI M := by simp [wordsI]
theorem wordsI_byte : ∀ L : List I4, byteL (wordsI L) := by
  intro L n hn
  obtain ⟨x, _, hx⟩ := List.mem_flatMap.1 hn
  exact putI_byte _ _ _ _ _ hx
theorem byteL_append {l m : List Int} (h : byteL l) (h' : byteL m) : byteL (l ++ m) := by
  intro n hn
  rcases List.mem_append.1 hn with h0 | h0
  · exact h n h0
  · exact h' n h0
theorem byK_words : ∀ (L : List I4) (m : List Int) (k j : Nat) (hk : k < L.length), j < 4 → byK (wordsI L ++ m) k j = (putW L[k]).getD j 0
  | [], _, _, _, h, _ => absurd h (by simp)
  | x :: L, m, k, j, hk, hj => by
    have hl : (putW x).length = 4 := putI_length _ _ _ _
    have e : wordsI (x :: L) ++ m = putW x ++ (wordsI L ++ m) := by simp [wordsI]
    unfold byK
    rw [e]
    match k, hk with
    | 0, _ =>
      rw [getD_app_l _ _ _ _ (by omega)]
      simp
    | k + 1, hk =>
      rw [getD_app_r _ _ _ _ (by omega), hl]
      have h := byK_words L m k j (by simpa using hk) hj
      unfold byK at h
      rw [show 4 * (k + 1) + j - 4 = 4 * k + j by omega, h]
      rfl
theorem byK_behind (L : List I4) (m : List Int) (j : Nat) : byK (wordsI L ++ m) L.length j = m.getD j 0 := by
  unfold byK
  rw [getD_app_r _ _ _ _ (by rw [wordsI_length]; omega), wordsI_length]
  congr 1
  omega
theorem ins_words {L : List I4} (h : ∀ x ∈ L, okI x = true) (m : List Int) {k : Nat} (hk : k < L.length) : insK (wordsI L ++ m) k = L[k] := by
  have hx := h _ (List.getElem_mem hk)
  unfold okI at hx
  obtain ⟨y2, y3, e, _, _, e2, e3⟩ := putI_list hx
  have e' : putW L[k] = [L[k].op, L[k].a, y2, y3] := e
  unfold insK
  rw [byK_words L m k 0 hk (by omega), byK_words L m k 1 hk (by omega), byK_words L m k 2 hk (by omega), byK_words L m k 3 hk (by omega), e']
  simp only [List.getD_cons_zero, List.getD_cons_succ]
  rw [e2, e3]
theorem ok_words {L : List I4} (h : ∀ x ∈ L, okI x = true) (m : List Int) {k : Nat} (hk : k < L.length) : okK (wordsI L ++ m) k = true := by
  unfold okK
  rw [ins_words h m hk]
  exact h _ (List.getElem_mem hk)
theorem stop_cut {L : List I4} (h : ∀ x ∈ L, okI x = true) {m : List Int} (h0 : 0 < m.length) (h4 : m.length < 4) : Stop (wordsI L ++ m) L.length ∧ 4 * L.length < (wordsI L ++ m).length ∧ (wordsI L ++ m).length < 4 * L.length + 4 := by
  have hl : (wordsI L ++ m).length = 4 * L.length + m.length := by rw [List.length_append, wordsI_length]
  exact ⟨⟨fun j hj => ok_words h m hj, by omega, .inr (.inr ⟨by omega, by omega⟩)⟩, by omega, by omega⟩
theorem stop_full {L : List I4} (h : ∀ x ∈ L, okI x = true) : Stop (wordsI L) L.length ∧ 4 * L.length = (wordsI L).length := by
  have hl := wordsI_length L
  refine ⟨⟨fun j hj => ?_, by omega, .inl (by omega)⟩, by omega⟩
  have h1 := ok_words h [] hj
  rwa [List.append_nil] at h1
theorem stop_bad {L : List I4} (h : ∀ x ∈ L, okI x = true) {x0 x1 x2 x3 : Int} (hb : rightI x0 x1 (gB x0 x2 x3) (gC x0 x3) = false) (r : List Int) :
    Stop (wordsI L ++ ([x0, x1, x2, x3] ++ r)) L.length ∧ 4 * L.length + 4 ≤ (wordsI L ++ ([x0, x1, x2, x3] ++ r)).length ∧ okK (wordsI L ++ ([x0, x1, x2, x3] ++ r)) L.length = false := by
  have hl : (wordsI L ++ ([x0, x1, x2, x3] ++ r)).length = 4 * L.length + (4 + r.length) := by rw [List.length_append, wordsI_length, List.length_append]; rfl
  have hno : okK (wordsI L ++ ([x0, x1, x2, x3] ++ r)) L.length = false := by
    unfold okK insK
    rw [byK_behind, byK_behind, byK_behind, byK_behind]
    exact hb
  exact ⟨⟨fun j hj => ok_words h _ hj, by omega, .inr (.inl ⟨by omega, hno⟩)⟩, by omega, hno⟩
/-- The right ones. -/
def okL (l : List I4) : List I4 := l.filter okI
theorem okL_all (l : List I4) : ∀ x ∈ okL l, okI x = true := fun x hx => (List.mem_filter.1 hx).2
theorem okL_le (l : List I4) : (okL l).length ≤ l.length := List.length_filter_le _ _
theorem okL_succ {l : List I4} {i : Nat} (hi : i < l.length) : okL (l.take (i + 1)) = okL (l.take i) ++ (if okI l[i] then [l[i]] else []) := by
  unfold okL
  rw [← List.take_append_getElem hi, List.filter_append]
  congr 1
  by_cases h : okI l[i] = true <;> simp [h]
theorem okL_yes {l : List I4} {i : Nat} (hi : i < l.length) (h : okI l[i] = true) : okL (l.take (i + 1)) = okL (l.take i) ++ [l[i]] := by rw [okL_succ hi, if_pos h]
theorem okL_no {l : List I4} {i : Nat} (hi : i < l.length) (h : okI l[i] = false) : okL (l.take (i + 1)) = okL (l.take i) := by rw [okL_succ hi, if_neg (by rw [h]; simp), List.append_nil]
theorem okL_at {l : List I4} {i : Nat} (hi : i < l.length) (h : okI l[i] = true) : (okL l).getD (okL (l.take i)).length ⟨0, 0, 0, 0⟩ = l[i] := by
  have e : okL l = okL (l.take (i + 1)) ++ okL (l.drop (i + 1)) := by unfold okL; rw [← List.filter_append, List.take_append_drop]
  rw [e, okL_yes hi h, List.append_assoc, getD_app_r _ _ _ _ (Nat.le_refl _)]
  simp
theorem okL_take {n : Nat} (l : List I4) (h : l.length ≤ n) : okL (l.take n) = okL l := by rw [List.take_of_length_le h]
theorem words_yes {l : List I4} {i : Nat} (hi : i < l.length) (h : okI l[i] = true) : wordsI (okL (l.take (i + 1))) = wordsI (okL (l.take i)) ++ putI l[i].op l[i].a l[i].b l[i].c := by
  rw [okL_yes hi h, wordsI_append]
  simp [wordsI, putW]
theorem words_no {l : List I4} {i : Nat} (hi : i < l.length) (h : okI l[i] = false) : wordsI (okL (l.take (i + 1))) = wordsI (okL (l.take i)) := by rw [okL_no hi h]
theorem words_le (l : List I4) (i : Nat) : (wordsI (okL (l.take i))).length ≤ 4 * l.length := by
  rw [wordsI_length]
  have h1 := okL_le (l.take i)
  have h2 : (l.take i).length ≤ l.length := by simp; omega
  omega
/-- A row of instructions that came in: one of them. -/
theorem ins_at {w : World} {A : Option Addr} {zs : List I4} (h : SlAtN w A 4 (zs.map I4.cells)) {k : Nat} (hk : k < zs.length) (z : I4) (hz : zs[k] = z) : ∃ b o, A = some ⟨b, o, none⟩ ∧ b < w.heap.size ∧
    w.cell? ⟨b, o + k * 4, none⟩ = some (.int .i64 z.op) ∧ w.cell? ⟨b, o + k * 4 + 1, none⟩ = some (.int .i64 z.a) ∧ w.cell? ⟨b, o + k * 4 + 2, none⟩ = some (.int .i64 z.b) ∧ w.cell? ⟨b, o + k * 4 + 3, none⟩ = some (.int .i64 z.c) := by
  obtain ⟨b, o, hA, hb, hc⟩ := h (by simp; omega)
  subst hz
  refine ⟨b, o, hA, hb, ?_, ?_, ?_, ?_⟩
  · have := hc k (by simpa using hk) 0 (by omega); simpa [I4.cells] using this
  · have := hc k (by simpa using hk) 1 (by omega); simpa [I4.cells] using this
  · have := hc k (by simpa using hk) 2 (by omega); simpa [I4.cells] using this
  · have := hc k (by simpa using hk) 3 (by omega); simpa [I4.cells] using this
/-- Own bytes, read, with their capacity. -/
theorem OwnB.rdm {w : World} {base : Nat} {v : Value} {l : List Int} (h : OwnB w base v l) : ∃ A ca, v = .slice A l.length ca ∧ RdB w A l ∧ l.length ≤ ca ∧ ca ≤ maxLen := by
  obtain ⟨A, ca, hv, hr, hl⟩ := h.rd
  refine ⟨A, ca, hv, hr, hl, ?_⟩
  rcases h.2 with ⟨h1, _⟩ | ⟨g, cap, cur, h1, _, _, _, hm, _⟩
  · rw [h1] at hv
    injection hv with e1 e2 e3
    rw [← e3]
    decide
  · rw [h1] at hv
    injection hv with e1 e2 e3
    rw [← e3]
    exact hm

end Go.Proofs.Ytcbniifpbcgamaa
