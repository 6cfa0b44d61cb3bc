/- Layer 12: what holds of the runs. -/
import Derived.Test.YtkjakaoimbmcjaaExtQ
namespace Go.Proofs.Ytkjakaoimbmcjaa
set_option linter.unusedSimpArgs false
set_option linter.unusedVariables false
open Go.RowKit

/-- Runs that rise, none of which is beside another one, between two numbers. -/
def Good (fr to : Int) (l : List Pr) : Prop := l.Pairwise (fun x y => x.hi < y.lo) ∧ ∀ x ∈ l, fr ≤ x.lo ∧ x.lo < x.hi ∧ x.hi ≤ to
theorem Good.nil (fr to : Int) : Good fr to [] := ⟨List.Pairwise.nil, fun x h => by cases h⟩
theorem Good.one {fr to : Int} (h : fr < to) : Good fr to [Pr.mk fr to] := ⟨List.pairwise_singleton _ _, fun x hx => by
  obtain rfl : x = Pr.mk fr to := by simpa using hx
  exact ⟨Int.le_refl _, h, Int.le_refl _⟩⟩
theorem Good.okF {fr to : Int} {l : List Pr} (h : Good fr to l) (h0 : 0 ≤ fr) (h1 : to ≤ 16777216) : okF l := fun x hx => by have := h.2 x hx; omega
theorem Good.rise {fr to : Int} {l : List Pr} (h : Good fr to l) : l.Pairwise (fun x y => x.hi ≤ y.hi) := by
  have h1 : l.Pairwise (fun x y => x.hi < y.lo ∧ y.lo < y.hi) := h.1.imp_of_mem fun {a b} ha hb hab => ⟨hab, (h.2 b hb).2.1⟩
  exact h1.imp fun {a b} hab => by omega
theorem Good.mono {fr to : Int} {l : List Pr} (h : Good fr to l) (at_ : Int) : ∀ (a b : Nat) (hb : b < l.length) (hab : a ≤ b), at_ < (l[a]'(by omega)).hi → at_ < (l[b]).hi := rise_mono h.rise at_
theorem Good.sub {fr to : Int} {l m : List Pr} (h : Good fr to l) (hs : m.Sublist l) : Good fr to m := ⟨h.1.sublist hs, fun x hx => h.2 x (hs.subset hx)⟩
theorem good_append {fr to : Int} {A B : List Pr} : Good fr to (A ++ B) ↔ Good fr to A ∧ Good fr to B ∧ ∀ x ∈ A, ∀ y ∈ B, x.hi < y.lo := by
  unfold Good
  rw [List.pairwise_append]
  constructor
  · rintro ⟨⟨h1, h2, h3⟩, h4⟩
    exact ⟨⟨h1, fun x hx => h4 x (List.mem_append_left _ hx)⟩, ⟨h2, fun x hx => h4 x (List.mem_append_right _ hx)⟩, h3⟩
  · rintro ⟨⟨h1, h4⟩, ⟨h2, h5⟩, h3⟩
    exact ⟨⟨h1, h2, h3⟩, fun x hx => (List.mem_append.1 hx).elim (h4 x) (h5 x)⟩
theorem good_cons {fr to : Int} {p : Pr} {B : List Pr} : Good fr to (p :: B) ↔ (fr ≤ p.lo ∧ p.lo < p.hi ∧ p.hi ≤ to) ∧ Good fr to B ∧ ∀ y ∈ B, p.hi < y.lo := by
  unfold Good
  rw [List.pairwise_cons]
  constructor
  · rintro ⟨⟨h1, h2⟩, h4⟩
    exact ⟨h4 p List.mem_cons_self, ⟨h2, fun x hx => h4 x (List.mem_cons_of_mem _ hx)⟩, h1⟩
  · rintro ⟨h1, ⟨h2, h3⟩, h4⟩
    refine ⟨⟨h4, h2⟩, fun x hx => ?_⟩
    rcases List.mem_cons.1 hx with rfl | hx
    · exact h1
    · exact h3 x hx
theorem Good.take {fr to : Int} {l : List Pr} (h : Good fr to l) (k : Nat) (n : Int) (hk : k < l.length) (h1 : 1 ≤ n) (hf : fits n l[k] = true) : Good fr to (takeK l k n hk) := by
  have hn : n ≤ (l[k]).len := of_decide_eq_true hf
  unfold takeK
  split
  · exact h.sub (List.eraseIdx_sublist _ _)
  · rename_i hne
    have hs : l = l.take k ++ l[k] :: l.drop (k + 1) := by rw [← List.drop_eq_getElem_cons hk, List.take_append_drop]
    have hset : l.set k ⟨(l[k]).lo + n, (l[k]).hi⟩ = l.take k ++ ⟨(l[k]).lo + n, (l[k]).hi⟩ :: l.drop (k + 1) := List.set_eq_take_append_cons_drop.trans (by rw [if_pos hk])
    rw [hset]
    have hl : (l[k]).len = (l[k]).hi - (l[k]).lo := rfl
    have hg := h
    rw [hs] at hg
    generalize l[k] = p at *
    obtain ⟨g1, g2, g3⟩ := good_append.1 hg
    obtain ⟨g4, g5, g6⟩ := good_cons.1 g2
    refine good_append.2 ⟨g1, good_cons.2 ⟨⟨by show fr ≤ p.lo + n; omega, by show p.lo + n < p.hi; omega, g4.2.2⟩, g5, g6⟩, fun x hx y hy => ?_⟩
    rcases List.mem_cons.1 hy with rfl | hy
    · have := g3 x hx p List.mem_cons_self
      show x.hi < p.lo + n
      omega
    · exact g3 x hx y (List.mem_cons_of_mem _ hy)
theorem joinL_end (A : List Pr) (i : Nat) (h : A.length ≤ i) : joinL A i = A := by unfold joinL; rw [dif_neg (by omega)]
theorem joinL_zero (A : List Pr) : joinL A 0 = A := by unfold joinL; rw [dif_neg (by omega)]
theorem joinL_mid (A B : List Pr) (p y : Pr) : joinL (A ++ p :: y :: B) (A.length + 1) = if p.hi = y.lo then A ++ ⟨p.lo, y.hi⟩ :: B else A ++ p :: y :: B := by
  have hl : (A ++ p :: y :: B).length = A.length + (B.length + 2) := by simp
  unfold joinL
  rw [dif_pos ⟨by omega, by omega⟩]
  have e1 : (A ++ p :: y :: B)[A.length + 1 - 1]'(by omega) = p := by
    rw [List.getElem_append_right (by omega)]
    simp
  have e2 : (A ++ p :: y :: B)[A.length + 1]'(by omega) = y := by
    rw [List.getElem_append_right (by omega)]
    simp
  rw [e1, e2]
  by_cases h : p.hi = y.lo
  · rw [if_pos h, if_pos h, List.set_append_right _ _ (by omega), List.eraseIdx_append_of_length_le (by omega)]
    simp
  · rw [if_neg h, if_neg h]
/-- What is free behind: the first half of it. -/
def rightL (A : List Pr) (p : Pr) : List Pr → List Pr
  | [] => A ++ [p]
  | y :: B' => if p.hi = y.lo then A ++ ⟨p.lo, y.hi⟩ :: B' else A ++ p :: y :: B'
theorem giveL_right (A B : List Pr) (p : Pr) : joinL (A ++ p :: B) (A.length + 1) = rightL A p B := by
  cases B with
  | nil => exact joinL_end _ _ (by simp)
  | cons y B' => exact joinL_mid A B' p y
theorem Good.give {fr to : Int} {l : List Pr} (h : Good fr to l) (k : Nat) (p : Pr) (hk : k ≤ l.length) (hp : fr ≤ p.lo ∧ p.lo < p.hi ∧ p.hi ≤ to) (hlow : ∀ (j : Nat) (hj : j < l.length), j < k → (l[j]).hi ≤ p.lo) (hge : ∀ hk : k < l.length, p.hi ≤ (l[k]).lo) : Good fr to (giveL l k p) := by
  obtain ⟨A, B, rfl, rfl⟩ : ∃ A B, l = A ++ B ∧ k = A.length := ⟨l.take k, l.drop k, (List.take_append_drop k l).symm, by rw [List.length_take]; omega⟩
  have hA : ∀ x ∈ A, x.hi ≤ p.lo := fun x hx => by
    obtain ⟨j, hj, rfl⟩ := List.mem_iff_getElem.1 hx
    have := hlow j (by rw [List.length_append]; omega) hj
    rwa [List.getElem_append_left hj] at this
  obtain ⟨g1, g2, g3⟩ := good_append.1 h
  unfold giveL
  rw [List.take_left' rfl, List.drop_left' rfl, giveL_right]
  -- the right half
  obtain ⟨p', B', hB, h1, h2, h3, h4⟩ : ∃ p' B', rightL A p B = A ++ p' :: B' ∧ p'.lo = p.lo ∧ (fr ≤ p'.lo ∧ p'.lo < p'.hi ∧ p'.hi ≤ to) ∧ (Good fr to B' ∧ ∀ y ∈ B', p'.hi < y.lo) ∧ ∀ x ∈ A, ∀ y ∈ B', x.hi < y.lo := by
    cases B with
    | nil => exact ⟨p, [], rfl, rfl, hp, ⟨Good.nil _ _, fun y hy => by cases hy⟩, fun x _ y hy => by cases hy⟩
    | cons y B' =>
      obtain ⟨c1, c2, c3⟩ := good_cons.1 g2
      have hy : p.hi ≤ y.lo := by
        have := hge (by simp)
        simpa using this
      by_cases e : p.hi = y.lo
      · exact ⟨⟨p.lo, y.hi⟩, B', by simp [rightL, e], rfl, ⟨hp.1, by show p.lo < y.hi; omega, c1.2.2⟩, ⟨c2, c3⟩, fun x hx z hz => g3 x hx z (List.mem_cons_of_mem _ hz)⟩
      · exact ⟨p, y :: B', by simp [rightL, e], rfl, hp, ⟨g2, fun z hz => by
          rcases List.mem_cons.1 hz with rfl | hz
          · omega
          · have := c3 z hz; omega⟩, g3⟩
  rw [hB]
  clear hB
  rcases List.eq_nil_or_concat A with rfl | ⟨A', x, rfl⟩
  · rw [show ([] : List Pr).length = 0 from rfl, joinL_zero]
    exact good_append.2 ⟨g1, good_cons.2 ⟨h2, h3⟩, fun x hx => by cases hx⟩
  · rw [List.concat_eq_append] at g1 hA h4 ⊢
    obtain ⟨a1, a2, a3⟩ := good_append.1 g1
    have hx := (good_cons.1 a2).1
    have hxp := hA x (by simp)
    rw [List.append_assoc, List.singleton_append, List.length_append, show [x].length = 1 from rfl, joinL_mid]
    by_cases e : x.hi = p'.lo
    · rw [if_pos e]
      refine good_append.2 ⟨a1, good_cons.2 ⟨⟨hx.1, by show x.lo < p'.hi; omega, h2.2.2⟩, h3⟩, fun z hz u hu => ?_⟩
      rcases List.mem_cons.1 hu with rfl | hu
      · exact a3 z hz x List.mem_cons_self
      · exact h4 z (List.mem_append_left _ hz) u hu
    · rw [if_neg e]
      refine good_append.2 ⟨a1, good_cons.2 ⟨hx, good_cons.2 ⟨h2, h3⟩, fun u hu => ?_⟩, fun z hz u hu => ?_⟩
      · rcases List.mem_cons.1 hu with rfl | hu
        · omega
        · exact h4 x (by simp) u hu
      · rcases List.mem_cons.1 hu with rfl | hu
        · exact a3 z hz u List.mem_cons_self
        · rcases List.mem_cons.1 hu with rfl | hu
          · have := a3 z hz x List.mem_cons_self; omega
          · exact h4 z (List.mem_append_left _ hz) u hu

end Go.Proofs.Ytkjakaoimbmcjaa
