/- Layer 6: ints sorted and made compact. -/
import Derived.Test.YtlapemeoffpmgaaSrtK
import Derived.Test.YtlapemeoffpmgaaCloL
import Derived.Test.YtlapemeoffpmgaaShelf
namespace Go.Proofs.Ytlapemeoffpmgaa
set_option linter.unusedSimpArgs false
set_option linter.unusedVariables false
open Go.RowKit Go.Shelf Go.Lib Go.Sort

def intZ (z : Int) : List Value := [.int .i64 z]
theorem intZ_len (z : Int) : (intZ z).length = 1 := rfl
theorem rowF_intF (l : List Nat) : rowF intF l = rowF intZ (l.map fun k : Nat => (k : Int)) := by
  induction l with
  | nil => rfl
  | cons k l ih => rw [List.map_cons, rowF_cons, rowF_cons, ih]; rfl
theorem flat_intZ (d : Array Int) (j : Nat) (hj : j < d.size) : (Go.Sort.flatK intZ 1 d)[j]! = .int .i64 d[j]! := by
  rw [Go.Sort.get_flatK _ _ _ _ (by omega), Nat.div_one, Nat.mod_one]
  rfl
theorem putRow_intZ (w : World) (b off : Nat) (d : Array Int) : Go.Sort.putRow (Value.int .i64) w b off d = Go.Sort.putRowK intZ 1 w b off d := by
  unfold Go.Sort.putRowK Go.Sort.putRow
  refine Go.Sort.mapBlock_congr w b _ _ fun c e fr _ => ?_
  unfold Go.Sort.putCells
  apply Array.ext
  · simp
  · intro i h1 h2
    simp only [Array.getElem_mapIdx, Go.Sort.size_flatK, Nat.mul_one]
    split
    · rename_i h
      rw [flat_intZ d (i - off) (by omega)]
      rfl
    · rfl
theorem holds_intZ {w : World} {base g off n cap : Nat} {e : TypeId} {l : List Int} (h : ownsAt w base e 1 (.slice (some ⟨g, off, none⟩) n cap) n (rowF intZ l)) (hl : l.length = n) : Go.Sort.Holds (Value.int .i64) w g off l.toArray := by
  have h1 := holdsK_own intZ_len h hl
  intro j hj
  have h2 := h1 j (by rw [Go.Sort.size_flatK]; omega)
  rw [flat_intZ _ j hj] at h2
  exact h2
theorem ownsAt.cut {w : World} {base : Nat} {e : TypeId} {size n c m : Nat} {A : Option Addr} {xs : List Value} (h : ownsAt w base e size (.slice A n c) n xs) (hm : m ≤ n) : ownsAt w base e size (.slice A m c) m (xs.take (m * size)) := by
  have h0 : m * size ≤ n * size := Nat.mul_le_mul_right _ hm
  refine ⟨by rw [List.length_take, h.1]; omega, ?_⟩
  rcases h.2 with ⟨h1, h2⟩ | ⟨g, o, cap, cur, hv2, hb, hg, hn, hm2, hs, ht⟩
  · simp only [Value.slice.injEq] at h1
    obtain ⟨rfl, _, rfl⟩ := h1
    subst h2
    obtain rfl : m = 0 := by omega
    exact .inl ⟨rfl, rfl⟩
  · simp only [Value.slice.injEq] at hv2
    obtain ⟨rfl, _, rfl⟩ := hv2
    exact .inr ⟨g, o, c, cur, rfl, hb, hg, by omega, hm2, hs, by rw [← ht, List.take_take, Nat.min_eq_left h0]⟩
theorem isort_ (base n : Nat) (v : Value) (l : List Int) (w : World) (h : ownsAt w base 3 1 v n (rowF intZ l)) (hl : l.length = n) (hn : n ≤ 1000000000) : Calls Try.prog 37 #[v] w fun e w' => e = .returned (.tuple #[]) ∧ Hid (ownsAt w' base 3 1 v n (rowF intZ (l.mergeSort fun x y => decide (x ≤ y)))) ∧ Hid (Only (fun i => some i = v.ownBlock) w w') := by
  rcases Nat.eq_zero_or_pos n with h0 | h0
  · subst h0
    obtain rfl := List.eq_nil_of_length_eq_zero hl
    obtain ⟨A, ca, rfl, _, _⟩ := h.shape
    refine (Try.slices_Sort_int_none A ca w).mono ?_
    rintro e w' ⟨rfl, rfl⟩
    exact ⟨rfl, hid (by rw [List.mergeSort_nil]; exact h), hid (Only.refl _ _)⟩
  · obtain ⟨A, ca, rfl, _, _⟩ := h.shape
    obtain ⟨g, o, rfl, hb, hg, _, _⟩ := h.at_ rfl h0
    have hcon := Try.slices_Sort_int g (o * 1) ca l w (holds_intZ h hl) hg (by omega)
    rw [hl] at hcon
    refine hcon.mono ?_
    rintro e w' ⟨rfl, m, os, rfl⟩
    have e1 : Go.Sort.grow (Go.Sort.putRow (Value.int .i64) (Go.Sort.ahead w m) g (o * 1) (l.mergeSort fun x y => decide (x ≤ y)).toArray) os = sortWorldK intZ 1 w g (o * 1) m (l.mergeSort fun x y => decide (x ≤ y)).toArray os := by
      rw [putRow_intZ]
      rfl
    rw [e1]
    exact ⟨rfl, hid (own_sorted intZ_len h _ (by simpa using hl) m os), hid ((sort_only intZ 1 w g (o * 1) m _ os).wider fun i hi => by rw [hi]; rfl)⟩
theorem icompact_ (base n : Nat) (v : Value) (l : List Int) (w : World) (h : ownsAt w base 3 1 v n (rowF intZ l)) (hl : l.length = n) (hn : n ≤ 1000000000) (hk : (Lib.compact l).length ≤ n) : Calls Try.prog 38 #[v] w fun e w' => ∃ A c, e = .returned (.slice A (Lib.compact l).length c) ∧ Hid (ownsAt w' base 3 1 (.slice A (Lib.compact l).length c) (Lib.compact l).length (rowF intZ (Lib.compact l))) ∧ Hid (Only (fun i => some i = v.ownBlock) w w') := by
  rcases Nat.eq_zero_or_pos n with h0 | h0
  · subst h0
    obtain rfl := List.eq_nil_of_length_eq_zero hl
    obtain ⟨A, ca, rfl, _, _⟩ := h.shape
    refine (Try.slices_Compact_int_empty A ca w).mono ?_
    rintro e w' ⟨rfl, rfl⟩
    exact ⟨A, ca, rfl, hid h, hid (Only.refl _ _)⟩
  · obtain ⟨A, ca, rfl, hca, _⟩ := h.shape
    obtain ⟨g, o, rfl, hb, hg, _, _⟩ := h.at_ rfl h0
    have hcon := Try.slices_Compact_int g (o * 1) ca l w (holds_intZ h hl) (by omega) (by omega)
    rw [hl] at hcon
    refine hcon.mono ?_
    rintro e w' ⟨rfl, q, rfl⟩
    have e1 : Go.Sort.putRow (Value.int .i64) (Go.Sort.ahead w q) g (o * 1) (Lib.compact l ++ List.replicate (n - (Lib.compact l).length) 0).toArray = sortWorldK intZ 1 w g (o * 1) q (Lib.compact l ++ List.replicate (n - (Lib.compact l).length) 0).toArray #[] := by
      rw [putRow_intZ]
      unfold sortWorldK
      rw [Go.Sort.grow_empty]
    rw [e1]
    have h2 := (own_sorted intZ_len h (Lib.compact l ++ List.replicate (n - (Lib.compact l).length) 0).toArray (by simp; omega) q #[]).cut hk
    change ownsAt _ _ _ _ _ _ (List.take _ (rowF intZ (Lib.compact l ++ List.replicate (n - (Lib.compact l).length) 0))) at h2
    rw [rowF_take intZ_len, List.take_left] at h2
    exact ⟨_, ca, rfl, hid h2, hid ((sort_only intZ 1 w g (o * 1) q _ #[]).wider fun i hi => by rw [hi]; rfl)⟩

end Go.Proofs.Ytlapemeoffpmgaa
