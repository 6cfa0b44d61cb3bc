/- slices.SortFunc over own rows. -/
import Derived.Test.YtlapemeoffpmgaaRwF
import Derived.Shelf.SlSortCmp.WholeK
namespace Go.Proofs.Ytlapemeoffpmgaa
set_option linter.unusedSimpArgs false
set_option linter.unusedVariables false
open Go.RowKit Go.Sort

theorem flat_row {α : Type} [Inhabited α] {enc : α → List Value} {k : Nat} (hf : ∀ x, (enc x).length = k) (d : Array α) (j : Nat) (hj : j < d.size * k) : (rowF enc d.toList)[j]? = some (Go.Sort.flatK enc k d)[j]! := by
  have hk : 0 < k := by rcases Nat.eq_zero_or_pos k with h | h; (subst h; simp at hj); exact h
  have hi : j / k < d.size := (Nat.div_lt_iff_lt_mul hk).2 hj
  have hm : j % k < k := Nat.mod_lt _ hk
  have e : j / k * k + j % k = j := by rw [Nat.mul_comm]; exact Nat.div_add_mod j k
  have h1 := rowF_at hf d.toList (j / k) (j % k) (by simpa using hi) hm
  rw [e] at h1
  rw [h1, Go.Sort.get_flatK _ _ _ _ hj]
  have e2 : d[j / k]! = d[j / k]'hi := getElem!_pos d (j / k) hi
  rw [e2]
  have e3 : j % k < (enc d[j / k]).length := by rw [hf]; exact hm
  have e4 : (enc d[j / k])[j % k]! = (enc d[j / k])[j % k]'e3 := getElem!_pos (enc d[j / k]) (j % k) e3
  rw [e4]
  simp [e3]
theorem holdsK_own {α : Type} [Inhabited α] {enc : α → List Value} {k : Nat} (hf : ∀ x, (enc x).length = k) {w : World} {base g off n cap : Nat} {e : TypeId} {l : List α} (h : ownsAt w base e k (.slice (some ⟨g, off, none⟩) n cap) n (rowF enc l)) (hl : l.length = n) : Go.Sort.HoldsK enc k w g off l.toArray := by
  intro j hj
  rw [Go.Sort.size_flatK] at hj
  have h0 := flat_row hf l.toArray j hj
  have hn : 0 < n := by rcases Nat.eq_zero_or_pos n with h | h; (subst h; simp [hl] at hj); exact h
  obtain ⟨g', o, e1, _, _, hc, hfz⟩ := h.at_ rfl hn
  obtain ⟨rfl, rfl⟩ : g = g' ∧ off = o * k := by simpa using e1
  exact ⟨hc j _ h0, hfz _⟩
theorem own_sorted {α : Type} [Inhabited α] {enc : α → List Value} {k : Nat} (hf : ∀ x, (enc x).length = k) {w : World} {base g off n cap : Nat} {e : TypeId} {xs : List Value} (h : ownsAt w base e k (.slice (some ⟨g, off, none⟩) n cap) n xs) (d : Array α) (hd : d.size = n) (m : Nat) (os : Array Obj) : ownsAt (sortWorldK enc k w g off m d os) base e k (.slice (some ⟨g, off, none⟩) n cap) n (rowF enc d.toList) := by
  refine ⟨by rw [rowF_length hf]; simp [hd], ?_⟩
  rcases h.2 with ⟨h1, _⟩ | ⟨g', o, cap', cur, hv, hb, hg, hn, hm, hs, ht⟩
  · cases h1
  · simp only [Value.slice.injEq, Option.some.injEq, Addr.mk.injEq, and_true, true_and] at hv
    obtain ⟨⟨rfl, rfl⟩, rfl⟩ := hv
    have hgs : g < w.heap.size := (Array.getElem?_eq_some_iff.1 hg).1
    have hg2 : (sortWorldK enc k w g (o * k) m d os).heap[g]? = some (.cells (Go.Sort.putCells id (o * k) (Go.Sort.flatK enc k d) cur) e (0, 0)) := by
      unfold sortWorldK Go.Sort.grow Go.Sort.putRowK Go.Sort.putRow Go.Sort.mapBlock Go.Sort.ahead
      rw [Array.getElem?_append_left (by simpa using hgs), Array.getElem?_modify, if_pos rfl, hg]
      rfl
    refine .inr ⟨g, o, cap, _, rfl, hb, hg2, hn, hm, hs.imp id (fun h => by simpa [Go.Sort.putCells] using h), ?_⟩
    apply List.ext_getElem?
    intro j
    rw [List.getElem?_take]
    by_cases hj : j < n * k
    · rw [if_pos hj, flat_row hf d j (by rw [hd]; exact hj), List.getElem?_drop]
      have hsz : o * k + j < cur.size := by
        rcases hs with h0 | h0
        · subst h0
          obtain rfl : n = 0 := by omega
          simp at hj
        · rw [h0, Nat.add_mul]
          have := Nat.mul_le_mul_right k hn
          omega
      have hp : (Go.Sort.putCells id (o * k) (Go.Sort.flatK enc k d) cur)[o * k + j]? = some (Go.Sort.flatK enc k d)[j]! := by
        unfold Go.Sort.putCells
        rw [Array.getElem?_mapIdx, Array.getElem?_eq_getElem hsz]
        simp only [Option.map_some]
        rw [if_pos ⟨by omega, by rw [Go.Sort.size_flatK, hd]; omega⟩, Nat.add_sub_cancel_left]
        rfl
      rw [← hp]
      simp
    · rw [if_neg hj, List.getElem?_eq_none (by rw [rowF_length hf]; simp [hd]; omega)]
theorem sort_only {α : Type} [Inhabited α] (enc : α → List Value) (k : Nat) (w : World) (g off m : Nat) (d : Array α) (os : Array Obj) : Only (fun i => i = g) w (sortWorldK enc k w g off m d os) := by
  refine ⟨rfl, rfl, rfl, ?_, fun i hi hn => ?_⟩
  · unfold sortWorldK Go.Sort.grow Go.Sort.putRowK Go.Sort.putRow Go.Sort.mapBlock Go.Sort.ahead
    simp
  · unfold sortWorldK Go.Sort.grow Go.Sort.putRowK Go.Sort.putRow Go.Sort.mapBlock Go.Sort.ahead
    rw [Array.getElem?_append_left (by simpa using hi), Array.getElem?_modify, if_neg (fun h => hn h.symm)]
theorem perm_of {α : Type} [Inhabited α] {d d' : Array α} (h : PermIn 0 d.size d d') : d'.toList.Perm d.toList ∧ d'.size = d.size := by
  obtain ⟨h1, _, h2⟩ := h
  refine ⟨?_, h1⟩
  have e1 : d.extract 0 d.size = d := by simp
  have e2 : d'.extract 0 d.size = d' := by rw [← h1]; simp
  rw [e1, e2] at h2
  exact h2
theorem sorted_of {α : Type} [Inhabited α] {lt : α → α → Bool} {d : Array α} {n : Nat} (hn : d.size = n) (h : SortedIn lt 0 n d) : d.toList.Pairwise fun a b => lt b a = false := by
  rw [List.pairwise_iff_getElem]
  intro i j hi hj hij
  have := h i j (Nat.zero_le _) hij (by rw [← hn]; simpa using hj)
  rw [getElem!_pos d j (by simpa using hj), getElem!_pos d i (by simpa using hi)] at this
  simpa using this

end Go.Proofs.Ytlapemeoffpmgaa
