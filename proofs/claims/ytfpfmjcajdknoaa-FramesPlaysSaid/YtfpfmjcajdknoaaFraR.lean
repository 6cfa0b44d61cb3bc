/- Layer 19: the document's stack. -/
import Derived.Test.YtfpfmjcajdknoaaFraQ
import Derived.Test.YtfpfmjcajdknoaaSameC
namespace Go.Proofs.Ytfpfmjcajdknoaa
set_option linter.unusedSimpArgs false
set_option linter.unusedVariables false
open Go.RowKit

open Go.Deep Go.RowKit
/-- A stack at block q: its rows are the slice v, of the stack's own. -/
def RStk (w : World) (q base : Nat) (v : Value) (n : Nat) (L : Nat → Cap) : Prop :=
  q < w.heap.size ∧ w.cell? ⟨q, 0, none⟩ = some v ∧ w.frozen? ⟨q, 0, none⟩ = false ∧ w.ownsRow base 32 30 v n (capsList (n * 5) L) ∧ base ≤ q ∧ ∀ g, v.ownBlock = some g → ¬ g = q
theorem RStk.ext {w w' : World} {q base : Nat} {v : Value} {n : Nat} {L : Nat → Cap} (h : RStk w q base v n L) (x : Ext w w') : RStk w' q base v n L :=
  ⟨Nat.lt_of_lt_of_le h.1 x.size, by rw [x.cells q _ h.1]; exact h.2.1, by rw [x.frozens q _ h.1]; exact h.2.2.1, ownsRow_ext h.2.2.2.1 x, h.2.2.2.2⟩
theorem RStk.slice {w : World} {q base : Nat} {v : Value} {n : Nat} {L : Nat → Cap} (h : RStk w q base v n L) : ∃ A cap, v = .slice A n cap ∧ (A = none → n = 0 ∧ cap = 0) ∧ (∀ a, A = some a → ∃ g, a = ⟨g, 0, none⟩ ∧ base ≤ g ∧ Row w g 0 (capsList (n * 5) L)) := by
  rcases h.2.2.2.1.2 with ⟨rfl, rfl⟩ | ⟨g, cap, cur, rfl, hb, hg, _, _, hs, ht⟩
  · exact ⟨none, 0, rfl, fun _ => ⟨rfl, rfl⟩, (fun a h => by cases h)⟩
  · refine ⟨some ⟨g, 0, none⟩, cap, rfl, (fun h => by cases h), fun a ha => ⟨g, by simpa using ha.symm, hb, ⟨(Array.getElem?_eq_some_iff.1 hg).1, fun j u hj => ?_, fun j hj => ?_⟩⟩⟩
    · rw [Nat.zero_add, cell_of_row w g _ cur 32 (0, 0) hg]
      have hlt := (List.getElem?_eq_some_iff.1 hj).1
      rw [capsList_length] at hlt
      rw [← ht, List.getElem?_take, if_pos (by omega)] at hj
      simpa using hj
    · rw [Nat.zero_add]
      simp [World.frozen?, hg]
theorem RStk.row {w : World} {q base g n cap : Nat} {L : Nat → Cap} (h : RStk w q base (.slice (some ⟨g, 0, none⟩) n cap) n L) {m : Nat} (hm : m < n) : Rng w g (m * 30) (rowCells L m) := by
  obtain ⟨A, c, e, _, h2⟩ := h.slice
  simp only [Value.slice.injEq] at e
  obtain ⟨g', e', _, hr⟩ := h2 _ e.1.symm
  obtain rfl : g = g' := by simpa using e'
  exact ⟨hr.lt, fun j v hj => by have := hr.range (m * 30 + j) v (rowCells_at L n m hm j v hj); simpa using this⟩
/-- The stack behind a Pop. -/
theorem RStk.popped {w w' : World} {q base g m cap : Nat} {L : Nat → Cap} (h : RStk w q base (.slice (some ⟨g, 0, none⟩) (m + 1) cap) (m + 1) L) (x : Only (· = q) w w') (hc : w'.cell? ⟨q, 0, none⟩ = some (.slice (some ⟨g, 0, none⟩) m cap)) (hf : w'.frozen? ⟨q, 0, none⟩ = false) :
    RStk w' q base (.slice (some ⟨g, 0, none⟩) m cap) m L := by
  obtain ⟨hq, _, _, ho, hb, hne⟩ := h
  refine ⟨Nat.lt_of_lt_of_le hq x.size, hc, hf, ⟨by rw [capsList_length]; omega, ?_⟩, hb, fun g' hg' => hne g' hg'⟩
  rcases ho.2 with ⟨h0, _⟩ | ⟨g', cap', cur, hv, hbg, hg, hn, hm, hs, ht⟩
  · cases h0
  · cases hv
    have hgq : ¬ g = q := hne g rfl
    refine .inr ⟨g, cap, cur, rfl, hbg, by rw [x.block g (Array.getElem?_eq_some_iff.1 hg).1 hgq]; exact hg, by omega, hm, hs, ?_⟩
    have e : (capsList ((m + 1) * 5) L).take (m * 30) = capsList (m * 5) L := by
      apply List.ext_getElem?
      intro j
      rw [List.getElem?_take]
      by_cases hj : j < m * 30
      · rw [if_pos hj]
        have e1 := capsList_at ((m + 1) * 5) L (j / 6) (j % 6) (by omega) (by omega)
        have e2 := capsList_at (m * 5) L (j / 6) (j % 6) (by omega) (by omega)
        rw [show j / 6 * 6 + j % 6 = j by omega] at e1 e2
        rw [e1, e2]
      · rw [if_neg hj, List.getElem?_eq_none (by rw [capsList_length]; omega)]
    rw [← e, ← ht, List.take_take, Nat.min_eq_left (by omega)]
theorem RStk.congr {w : World} {q base : Nat} {v : Value} {n : Nat} {L M : Nat → Cap} (h : RStk w q base v n L) (e : ∀ i, i < n * 5 → L i = M i) : RStk w q base v n M := by
  obtain ⟨h1, h2, h3, h4, h5⟩ := h
  exact ⟨h1, h2, h3, by rwa [capsList_congr e] at h4, h5⟩
theorem RStk.only {S : Nat → Prop} {w w' : World} {q base : Nat} {v : Value} {n : Nat} {L : Nat → Cap} (h : RStk w q base v n L) (x : Only S w w') (h1 : ¬ S q) (h2 : ∀ g, v.ownBlock = some g → ¬ S g) : RStk w' q base v n L :=
  ⟨Nat.lt_of_lt_of_le h.1 x.size, (x.cells q 0 h.1 h1).trans h.2.1, (x.frozens q 0 h.1 h1).trans h.2.2.1, ownsRow_only h.2.2.2.1 x h2, h.2.2.2.2⟩
theorem RStk.apart {w : World} {q base : Nat} {v : Value} {n : Nat} {L : Nat → Cap} (h : RStk w q base v n L) : ∀ g, v.ownBlock = some g → ¬ g = q := h.2.2.2.2.2
/-- What a change of the stack leaves of all else. -/
theorem RStk.extOf {w0 w w' : World} {q base : Nat} {v : Value} {n : Nat} {L : Nat → Cap} (h : RStk w q base v n L) (hE : Ext w0 w) (hb : w0.heap.size ≤ base) (ho : Only (tch q v) w w') : Ext w0 w' :=
  Ext.only hE ho (by
    rintro i (rfl | h')
    · exact Nat.le_trans hb h.2.2.2.2.1
    · exact Nat.le_trans hb (h.2.2.2.1.lt i h').1)
theorem RStk.rowOf {w w' : World} {q base b o : Nat} {v : Value} {n : Nat} {L : Nat → Cap} {vs : List Value} (h : RStk w q base v n L) (hr : Row w b o vs) (hb : b < base) (ho : Only (tch q v) w w') : Row w' b o vs :=
  hr.only ho (by
    rintro (rfl | h')
    · have := h.2.2.2.2.1; omega
    · have := (h.2.2.2.1.lt _ h').1; omega)
set_option maxHeartbeats 400000 in
theorem rnew_ (w : World) (L : Nat → Cap) : Calls Try.prog 9 #[] w fun e w' => ∃ b, e = .returned (.pointer (some ⟨b, 0, none⟩)) ∧ w.heap.size ≤ b ∧ Ext w w' ∧ RStk w' b w.heap.size (.slice none 0 0) 0 L := by
  go_enter Try.func9, Try.ntmps9
  go_wp2
  go_ret
  exact ⟨w.heap.size, rfl, Nat.le_refl _, (by repeat (first | (with_reducible exact Ext.refl _) | (with_reducible refine Ext.undrew ?_) | (with_reducible refine Ext.grow ?_ _) | (with_reducible refine Ext.drew ?_) | (with_reducible refine Ext.drewN ?_ _) | (with_reducible refine Ext.alloc ?_ _) | (with_reducible assumption) | ((with_reducible refine Ext.setCell ?_ ?_ _); rotate_left; (first | exact Nat.le_refl _ | ((try dsimp only); (try simp only [World.size_alloc, grow_size, World.size_setCell]); omega))))), by simp, by simp [go_sem], by simp [go_sem], ⟨by simp [capsList], .inl ⟨rfl, rfl⟩⟩, Nat.le_refl _, (fun g h => by cases h)⟩
set_option maxHeartbeats 400000 in
theorem rmany_ (q base : Nat) (v : Value) (n : Nat) (L : Nat → Cap) (w : World) (h : RStk w q base v n L) : Calls Try.prog 18 #[.pointer (some ⟨q, 0, none⟩)] w fun e w' => e = .returned (.int .i64 n) ∧ w' = w := by
  obtain ⟨A, cap, rfl, _, _⟩ := h.slice
  have hc := h.2.1
  have hq := h.1
  clear h
  go_enter Try.func18, Try.ntmps18
  go_wp2
  go_ret
  exact ⟨rfl, rfl⟩

end Go.Proofs.Ytfpfmjcajdknoaa
