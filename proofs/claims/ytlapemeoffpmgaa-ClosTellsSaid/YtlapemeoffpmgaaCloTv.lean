/- Layer 6: types (values). -/
import Derived.Test.YtlapemeoffpmgaaCloA
import Derived.Test.YtlapemeoffpmgaaCloV
import Derived.Lib.SlicesCompact
namespace Go.Proofs.Ytlapemeoffpmgaa
set_option linter.unusedSimpArgs false
set_option linter.unusedVariables false
open Go.RowKit

/-- The types over which one of some has authority. -/
def tyN (O : List Cap) (p : Int) : List Nat := (List.range 256).filter fun k => decide (2 ≤ k) && O.any fun d => authC d p k
def rawT (O : List Cap) (p : Int) : List Nat := O.flatMap (kindsOf p)
theorem rawT_snoc (l : List Cap) (d : Cap) (p : Int) : rawT (l ++ [d]) p = rawT l p ++ kindsOf p d := by simp [rawT]
theorem rawT_mem {O : List Cap} {p : Int} {k : Nat} : k ∈ rawT O p ↔ k ∈ tyN O p := by
  simp only [rawT, tyN, List.mem_flatMap, kindsOf_mem, List.mem_filter, List.mem_range, Bool.and_eq_true, decide_eq_true_eq, List.any_eq_true]
  constructor
  · rintro ⟨d, hd, h1, h2, h3⟩; exact ⟨h1, h2, d, hd, h3⟩
  · rintro ⟨h1, h2, d, hd, h3⟩; exact ⟨d, hd, h1, h2, h3⟩
theorem kindsOf_len (p : Int) (o : Cap) : (kindsOf p o).length ≤ 256 := kindsTo_len p o 256
theorem rawT_len (p : Int) : ∀ l : List Cap, (rawT l p).length ≤ l.length * 256
  | [] => by simp [rawT]
  | d :: l => by
    have h1 := rawT_len p l
    have h2 := kindsOf_len p d
    rw [show rawT (d :: l) p = kindsOf p d ++ rawT l p by simp [rawT], List.length_append, List.length_cons, Nat.succ_mul]
    omega
/-- What rises, held without its doubles, rises strictly. -/
theorem compact_sorted {d : Array Int} (hs : ∀ i j : Nat, i < j → j < d.size → d[i]! ≤ d[j]!) : ∀ m : Nat, m ≤ d.size → (Lib.compactUpTo d m).Pairwise (· < ·) ∧ ∀ z, z ∈ Lib.compactUpTo d m ↔ ∃ j, j < m ∧ d[j]! = z
  | 0, _ => ⟨by simp [Lib.compactUpTo], fun z => by simp [Lib.compactUpTo]⟩
  | m + 1, hm => by
    obtain ⟨h1, h2⟩ := compact_sorted hs m (by omega)
    rw [Lib.compactUpTo_succ]
    by_cases hk : Lib.keeps d m = true
    · rw [if_pos hk]
      refine ⟨List.pairwise_append.2 ⟨h1, List.pairwise_singleton _ _, fun a ha b hb => ?_⟩, fun z => ?_⟩
      · obtain rfl := List.mem_singleton.1 hb
        obtain ⟨j, hj, rfl⟩ := (h2 a).1 ha
        have hkk : m = 0 ∨ d[m]! ≠ d[m - 1]! := of_decide_eq_true hk
        rcases hkk with h0 | h0
        · omega
        · have a1 : d[m - 1]! ≤ d[m]! := hs (m - 1) m (by omega) (by omega)
          have a2 : d[j]! ≤ d[m - 1]! := by
            rcases Nat.lt_or_ge j (m - 1) with h | h
            · exact hs j (m - 1) h (by omega)
            · obtain rfl : j = m - 1 := by omega
              exact Int.le_refl _
          omega
      · rw [List.mem_append, h2, List.mem_singleton]
        constructor
        · rintro (⟨j, hj, rfl⟩ | rfl)
          · exact ⟨j, by omega, rfl⟩
          · exact ⟨m, by omega, rfl⟩
        · rintro ⟨j, hj, rfl⟩
          by_cases e : j = m
          · subst e; exact .inr rfl
          · exact .inl ⟨j, by omega, rfl⟩
    · rw [if_neg hk, List.append_nil]
      refine ⟨h1, fun z => ?_⟩
      rw [h2]
      have hkk : ¬ (m = 0 ∨ d[m]! ≠ d[m - 1]!) := fun h => hk (decide_eq_true h)
      constructor
      · rintro ⟨j, hj, rfl⟩; exact ⟨j, by omega, rfl⟩
      · rintro ⟨j, hj, rfl⟩
        by_cases e : j = m
        · subst e
          exact ⟨j - 1, by omega, by
            have : ¬ d[j]! ≠ d[j - 1]! := fun h => hkk (.inr h)
            exact (Classical.not_not.1 this).symm⟩
        · exact ⟨j, by omega, rfl⟩
theorem rise_unique : ∀ {l m : List Int}, l.Pairwise (· < ·) → m.Pairwise (· < ·) → (∀ x, x ∈ l ↔ x ∈ m) → l = m
  | [], [], _, _, _ => rfl
  | [], b :: m, _, _, h => absurd ((h b).2 List.mem_cons_self) (by simp)
  | a :: l, [], _, _, h => absurd ((h a).1 List.mem_cons_self) (by simp)
  | a :: l, b :: m, hl, hm, h => by
    obtain ⟨hl1, hl2⟩ := List.pairwise_cons.1 hl
    obtain ⟨hm1, hm2⟩ := List.pairwise_cons.1 hm
    have e : a = b := by
      rcases List.mem_cons.1 ((h a).1 List.mem_cons_self) with e | e
      · exact e
      · rcases List.mem_cons.1 ((h b).2 List.mem_cons_self) with e' | e'
        · exact e'.symm
        · have := hm1 a e; have := hl1 b e'; omega
    subst e
    congr 1
    refine rise_unique hl2 hm2 fun x => ?_
    constructor
    · intro hx
      rcases List.mem_cons.1 ((h x).1 (List.mem_cons_of_mem _ hx)) with e | e
      · subst e; have := hl1 x hx; omega
      · exact e
    · intro hx
      rcases List.mem_cons.1 ((h x).2 (List.mem_cons_of_mem _ hx)) with e | e
      · subst e; have := hm1 x hx; omega
      · exact e
theorem types_eq (O : List Cap) (p : Int) : Lib.compact (((rawT O p).map fun k : Nat => (k : Int)).mergeSort fun x y => decide (x ≤ y)) = (tyN O p).map fun k : Nat => (k : Int) := by
  have hsrt := List.pairwise_mergeSort (le := fun x y : Int => decide (x ≤ y)) (by intro a b c h1 h2; simp at *; omega) (by intro a b; simp; omega) ((rawT O p).map fun k : Nat => (k : Int))
  have hmem : ∀ z : Int, z ∈ (((rawT O p).map fun k : Nat => (k : Int)).mergeSort fun x y => decide (x ≤ y)) ↔ z ∈ (rawT O p).map fun k : Nat => (k : Int) := fun z => List.mem_mergeSort
  generalize (((rawT O p).map fun k : Nat => (k : Int)).mergeSort fun x y => decide (x ≤ y)) = L at hsrt hmem
  have hs : ∀ i j : Nat, i < j → j < L.toArray.size → L.toArray[i]! ≤ L.toArray[j]! := by
    intro i j hij hj
    have hj' : j < L.length := by simpa using hj
    rw [List.pairwise_iff_getElem] at hsrt
    have := hsrt i j (by omega) hj' hij
    rw [getElem!_pos L.toArray i (by simp; omega), getElem!_pos L.toArray j hj]
    simpa using this
  obtain ⟨h1, h2⟩ := compact_sorted hs L.length (by simp)
  refine rise_unique h1 ?_ fun z => ?_
  · refine List.pairwise_map.2 ?_
    refine ((List.pairwise_lt_range (n := 256)).filter _).imp fun h => by omega
  · unfold Lib.compact
    rw [h2]
    have e1 : (∃ j, j < L.length ∧ L.toArray[j]! = z) ↔ z ∈ L := by
      rw [List.mem_iff_getElem]
      constructor
      · rintro ⟨j, hj, e⟩
        rw [getElem!_pos L.toArray j (by simpa using hj)] at e
        exact ⟨j, hj, by simpa using e⟩
      · rintro ⟨j, hj, e⟩
        refine ⟨j, hj, ?_⟩
        rw [getElem!_pos L.toArray j (by simpa using hj)]
        simpa using e
    rw [e1, hmem, List.mem_map, List.mem_map]
    constructor
    · rintro ⟨k, hk, rfl⟩; exact ⟨k, rawT_mem.1 hk, rfl⟩
    · rintro ⟨k, hk, rfl⟩; exact ⟨k, rawT_mem.2 hk, rfl⟩
theorem tyN_len (O : List Cap) (p : Int) : (tyN O p).length ≤ 256 := by
  have := List.length_filter_le (fun k : Nat => decide (2 ≤ k) && O.any fun d => authC d p k) (List.range 256)
  rwa [List.length_range] at this

end Go.Proofs.Ytlapemeoffpmgaa
