/- Layer 12: what is held, and given back. -/
import Derived.Test.YtkjakaoimbmcjaaExtW
namespace Go.Proofs.Ytkjakaoimbmcjaa
set_option linter.unusedSimpArgs false
set_option linter.unusedVariables false
open Go.RowKit

/-- A place and a length, as a run. -/
def sp (p : Pr) : Pr := ⟨p.lo, p.lo + p.hi⟩
/-- What was taken, and kept, by place and length. -/
structure OI (fr to : Int) (l h : List Pr) : Prop where
  g : G16 l
  held : Held fr to l (h.map sp)
  bd : ∀ x ∈ h, 1 ≤ x.hi ∧ fr ≤ x.lo ∧ x.lo + x.hi ≤ to
theorem OI.start {fr to : Int} (h0 : g16 fr = true) (h1 : g16 to = true) : OI fr to [Pr.mk fr to] [] := ⟨g16_ends h0 h1, Held.nil _ _ _, (fun x h => nomatch h)⟩
section
variable {fr to n xa : Int} {l l2 h : List Pr}
theorem OI.add (hi : OI fr to l h) (hG : Good fr to l) (ht : takeF n l = ((xa, true), l2)) : OI fr to l2 (h ++ [⟨xa, n⟩]) := by
  have H := takeF_yesT hG hi.g (by rw [ht])
  rw [ht] at H
  obtain ⟨h1, h2, h3, h4, h5, h6, h7, h8, _⟩ := H
  refine ⟨h8, ?_, fun x hx => ?_⟩
  · rw [List.map_append]
    refine hi.held.add (p := sp ⟨xa, n⟩) ⟨h3, g16_add h3 h2, h4, ?_, h5⟩ (fun z hz => h6 z hz.1 hz.2) (fun z => h7 z)
    show xa < xa + n; omega
  · rcases List.mem_append.1 hx with hx | hx
    · exact hi.bd x hx
    · obtain rfl : x = ⟨xa, n⟩ := by simpa using hx
      exact ⟨h1, h4, h5⟩
theorem OI.skip (hi : OI fr to l h) (hG : Good fr to l) (ht : takeF n l = ((xa, true), l2)) : OI fr to l2 h := by
  have H := takeF_yesT hG hi.g (by rw [ht])
  rw [ht] at H
  obtain ⟨h1, h2, h3, h4, h5, h6, h7, h8, _⟩ := H
  exact ⟨h8, hi.held.less fun z hz => ((h7 z).1 hz).1, hi.bd⟩
theorem OI.fits (hi : OI fr to l h) (hG : Good fr to l) (ht : takeF n l = ((xa, true), l2)) : 1 ≤ n ∧ fr ≤ xa ∧ xa + n ≤ to := by
  have H := takeF_yesT hG hi.g (by rw [ht])
  rw [ht] at H
  exact ⟨H.1, H.2.2.2.1, H.2.2.2.2.1⟩
/-- All that there is, is free or held. -/
theorem OI.all (hi : OI fr to l h) (hG : Good fr to l) (ht : takeF n l = ((xa, true), l2)) (ha : ∀ y, fr ≤ y → y < to → inL y l ∨ inL y (h.map sp)) : ∀ y, fr ≤ y → y < to → inL y l2 ∨ inL y ((h ++ [Pr.mk xa n]).map sp) := by
  have H := takeF_yesT hG hi.g (by rw [ht])
  rw [ht] at H
  obtain ⟨h1, h2, h3, h4, h5, h6, h7, h8, _⟩ := H
  intro y y0 y1
  rw [List.map_append, inL_append]
  rcases ha y y0 y1 with c | c
  · by_cases d : xa ≤ y ∧ y < xa + n
    · exact .inr (.inr ⟨sp ⟨xa, n⟩, by simp, d⟩)
    · exact .inl ((h7 y).2 ⟨c, d⟩)
  · exact .inr (.inl c)
theorem takeF_zero {x : Int} (ht : takeF n l = ((x, false), l2)) : x = 0 := by
  have := takeF_false (fr := 0) (to := 0) (n := n) (l := l) (by rw [ht])
  rw [ht] at this
  simp only [Prod.mk.injEq] at this
  exact this.1.1
theorem takeF_same {x : Int} (ht : takeF n l = ((x, false), l2)) : l2 = l := by
  have := takeF_false (fr := 0) (to := 0) (n := n) (l := l) (by rw [ht])
  rw [ht] at this
  simp only [Prod.mk.injEq] at this
  exact this.2
end
/-- What is free when some of what was held has been given back. -/
def Bk (S H lf : List Pr) (P : Nat → Prop) : Prop := ∀ y, inL y lf ↔ inL y S ∨ ∃ i, ∃ hi : i < H.length, P i ∧ inP y H[i]
theorem Bk.start (S H : List Pr) (P : Nat → Prop) (hP : ∀ i, i < H.length → ¬ P i) : Bk S H S P := fun y => ⟨.inl, fun h => h.elim id fun ⟨i, hi, h, _⟩ => absurd h (hP i hi)⟩
theorem Bk.congr {S H lf : List Pr} {P P' : Nat → Prop} (h : Bk S H lf P) (hP : ∀ i, i < H.length → (P' i ↔ P i)) : Bk S H lf P' := fun y => by
  rw [h y]
  constructor
  · rintro (c | ⟨i, hi, c, d⟩)
    · exact .inl c
    · exact .inr ⟨i, hi, (hP i hi).2 c, d⟩
  · rintro (c | ⟨i, hi, c, d⟩)
    · exact .inl c
    · exact .inr ⟨i, hi, (hP i hi).1 c, d⟩
theorem held_two {fr to : Int} {S H : List Pr} (h : Held fr to S H) {i j : Nat} (hi : i < H.length) (hj : j < H.length) (hne : ¬ i = j) : ∀ z, inP z H[i] → ¬ inP z H[j] := by
  have := List.pairwise_iff_getElem.1 h.each
  rcases Nat.lt_or_gt_of_ne hne with c | c
  · exact this i j hi hj c
  · exact fun z h1 h2 => this j i hj hi c z h2 h1
section
variable {fr to at_ n : Int} {S H lf lg : List Pr} {P P' : Nat → Prop} {j : Nat}
theorem Bk.can (hB : Bk S H lf P) (hG : Good fr to lf) (hH : Held fr to S H) (hj : j < H.length) (hP : ¬ P j) (hp : H[j] = ⟨at_, at_ + n⟩) : giveC fr to at_ n lf := by
  have ok := hH.ok _ (List.getElem_mem hj)
  have fre := hH.free _ (List.getElem_mem hj)
  have two := fun i (hi : i < H.length) (hne : ¬ j = i) => held_two hH hj hi hne
  rw [hp] at ok fre two
  obtain ⟨o1, o2, o3, o4, o5⟩ := ok
  have o1' : g16 at_ = true := o1
  have o2' : g16 (at_ + n) = true := o2
  have o4' : at_ < at_ + n := o4
  have o5' : at_ + n ≤ to := o5
  refine giveC_of hG o1' ?_ (by omega) o3 o5' fun y h1 h2 hc => ?_
  · have := g16_sub o2' o1'
    rwa [show at_ + n - at_ = n by omega] at this
  · rcases (hB y).1 hc with c | ⟨i, hi, c, d⟩
    · exact fre y ⟨h1, h2⟩ c
    · exact two i hi (fun e => hP (e ▸ c)) y ⟨h1, h2⟩ d
theorem Bk.next (hB : Bk S H lf P) (hG : Good fr to lf) (hc : giveC fr to at_ n lf) (hj : j < H.length) (hp : H[j] = ⟨at_, at_ + n⟩) (hP : ∀ i, i < H.length → (P' i ↔ P i ∨ i = j)) : Bk S H (giveL lf (kOf at_ lf) ⟨at_, at_ + n⟩) P' := fun y => by
  rw [(giveC_good hG hc).2.1 y, hB y]
  constructor
  · rintro ((c | ⟨i, hi, c, d⟩) | c)
    · exact .inl c
    · exact .inr ⟨i, hi, (hP i hi).2 (.inl c), d⟩
    · exact .inr ⟨j, hj, (hP j hj).2 (.inr rfl), by rw [hp]; exact c⟩
  · rintro (c | ⟨i, hi, c, d⟩)
    · exact .inl (.inl c)
    · rcases (hP i hi).1 c with c | rfl
      · exact .inl (.inr ⟨i, hi, c, d⟩)
      · rw [hp] at d
        exact .inr d
/-- What can't be given back has been. -/
theorem Bk.was (hB : Bk S H lf P) (hG : Good fr to lf) (hH : Held fr to S H) (hj : j < H.length) (hp : H[j] = ⟨at_, at_ + n⟩) (hc : ¬ giveC fr to at_ n lf) : P j :=
  Classical.byContradiction fun hP => hc (hB.can hG hH hj hP hp)
theorem Bk.whole (h1 : Bk S H lf P) (h2 : Bk S H lg P') (hf : Good fr to lf) (hg : Good fr to lg) (hP : ∀ i, i < H.length → P i) (hP' : ∀ i, i < H.length → P' i) : lf = lg :=
  canon lf lg fr hf hg fun y => by
    rw [h1 y, h2 y]
    constructor
    · rintro (c | ⟨i, hi, _, d⟩)
      · exact .inl c
      · exact .inr ⟨i, hi, hP' i hi, d⟩
    · rintro (c | ⟨i, hi, _, d⟩)
      · exact .inl c
      · exact .inr ⟨i, hi, hP i hi, d⟩
theorem Bk.one (h1 : Bk S H lf P) (hf : Good fr to lf) (hP : ∀ i, i < H.length → P i) (ha : ∀ y, fr ≤ y → y < to → inL y S ∨ inL y H) (h0 : fr < to) (hS : Good fr to S) (hH : Held fr to S H) : lf = [Pr.mk fr to] :=
  canon lf _ fr hf (Good.one h0) fun y => by
    rw [h1 y]
    constructor
    · rintro (⟨p, hp, c⟩ | ⟨i, hi, _, d⟩)
      · have := hS.2 p hp
        refine ⟨_, List.mem_singleton.2 rfl, ?_⟩
        unfold inP at c ⊢
        simp only
        omega
      · have := hH.ok _ (List.getElem_mem hi)
        refine ⟨_, List.mem_singleton.2 rfl, ?_⟩
        unfold inP at d ⊢
        simp only
        omega
    · rintro ⟨p, hp, c⟩
      obtain rfl : p = Pr.mk fr to := by simpa using hp
      rcases ha y c.1 c.2 with d | ⟨q, hq, d⟩
      · exact .inl d
      · obtain ⟨i, hi, rfl⟩ := List.mem_iff_getElem.1 hq
        exact .inr ⟨i, hi, hP i hi, d⟩
end
theorem sp_at {h : List Pr} {j : Nat} (hj : j < h.length) (hj' : j < (h.map sp).length) : (h.map sp)[j] = ⟨(h[j]).lo, (h[j]).lo + (h[j]).hi⟩ := by simp [sp]

end Go.Proofs.Ytkjakaoimbmcjaa
