/- Layer 17: all that a layout tells. -/
import Derived.Test.YtgldlkoohfclpaaImAE
namespace Go.Proofs.Ytgldlkoohfclpaa
set_option linter.unusedSimpArgs false
set_option linter.unusedVariables false
open Go.RowKit

theorem at_H {x : Img} (h : rightV x = true) {i : Nat} (hi : i < x.comps.length) : (layV x).C[i]? = some ⟨pgA x i * 256, pgA x i * 256 + x.comps[i].bl.length⟩ ∧ (layV x).D[i]? = some ⟨(pgA x i + lnPg x.comps[i].bl.length) * 256, (pgA x i + lnPg x.comps[i].bl.length + x.comps[i].data) * 256⟩ ∧ (layV x).H[i]? = some ⟨(pgA x i + lnPg x.comps[i].bl.length + x.comps[i].data) * 256, (pgA x i + lnPg x.comps[i].bl.length + x.comps[i].data + x.heap) * 256⟩ := by
  obtain ⟨n5, hcm, _, _⟩ := rightV_ok h
  have h1 := layK_at n5.1 n5.2.1 x.comps (fun c hc => (hcm c hc).1) i x.comps[i] (List.getElem?_eq_getElem hi)
  have h3 := layS_len (layK x.heap x.comps) x.shares.length
  unfold layV
  rw [h3.2.2.1, h3.2.2.2.1, h3.2.2.2.2]
  exact ⟨h1.1, h1.2.1, h1.2.2.1⟩
theorem at_pg {x : Img} : (layV x).pg = pgA x x.comps.length + x.shares.length := by
  have h3 := layS_len (layK x.heap x.comps) x.shares.length
  unfold layV pgA
  rw [h3.2.1, List.take_length]
def shSp (s : Int) : Sp := ⟨s, s + 256⟩
def allS (x : Img) : List Sp := (layV x).C ++ (layV x).D ++ (layV x).H ++ (layV x).S.map shSp
section
variable {x : Img}
theorem all_at (h : rightV x = true) {q : Nat} {s : Sp} (hq : (allS x)[q]? = some s) : (∃ i, ∃ hi : i < x.comps.length, (q = i ∧ s = ⟨pgA x i * 256, pgA x i * 256 + x.comps[i].bl.length⟩) ∨ (q = x.comps.length + i ∧ s = ⟨(pgA x i + lnPg x.comps[i].bl.length) * 256, (pgA x i + lnPg x.comps[i].bl.length + x.comps[i].data) * 256⟩) ∨ (q = 2 * x.comps.length + i ∧ s = ⟨(pgA x i + lnPg x.comps[i].bl.length + x.comps[i].data) * 256, (pgA x i + lnPg x.comps[i].bl.length + x.comps[i].data + x.heap) * 256⟩)) ∨ ∃ j, j < x.shares.length ∧ q = 3 * x.comps.length + j ∧ s = ⟨(pgA x x.comps.length + j) * 256, (pgA x x.comps.length + j) * 256 + 256⟩ := by
  obtain ⟨l1, l2, l3, l4, _, _⟩ := layV_ok h
  unfold allS at hq
  by_cases h1 : q < x.comps.length
  · rw [List.getElem?_append_left (by simp only [List.length_append]; omega), List.getElem?_append_left (by simp only [List.length_append]; omega), List.getElem?_append_left (by omega), (at_H h h1).1] at hq
    exact .inl ⟨q, h1, .inl ⟨rfl, (Option.some.inj hq).symm⟩⟩
  by_cases h2 : q < 2 * x.comps.length
  · have hi : q - x.comps.length < x.comps.length := by omega
    rw [List.getElem?_append_left (by simp only [List.length_append]; omega), List.getElem?_append_left (by simp only [List.length_append]; omega), List.getElem?_append_right (by omega), l1, (at_H h hi).2.1] at hq
    exact .inl ⟨q - x.comps.length, hi, .inr (.inl ⟨by omega, (Option.some.inj hq).symm⟩)⟩
  by_cases h3 : q < 3 * x.comps.length
  · have hi : q - 2 * x.comps.length < x.comps.length := by omega
    rw [List.getElem?_append_left (by simp only [List.length_append]; omega), List.getElem?_append_right (by simp only [List.length_append]; omega), List.length_append, l1, l2, show q - (x.comps.length + x.comps.length) = q - 2 * x.comps.length by omega, (at_H h hi).2.2] at hq
    exact .inl ⟨q - 2 * x.comps.length, hi, .inr (.inr ⟨by omega, (Option.some.inj hq).symm⟩)⟩
  · rw [List.getElem?_append_right (by simp only [List.length_append]; omega), List.getElem?_map, List.length_append, List.length_append, l1, l2, l3] at hq
    have hj : q - (x.comps.length + x.comps.length + x.comps.length) < x.shares.length := by
      cases hg : (layV x).S[q - (x.comps.length + x.comps.length + x.comps.length)]? with
      | none => rw [hg] at hq; cases hq
      | some z => have := (List.getElem?_eq_some_iff.1 hg).1; omega
    have hs := at_S h hj
    rw [List.getD_eq_getElem?_getD] at hs
    rw [List.getElem?_eq_getElem (by omega)] at hq hs
    simp only [Option.map_some, Option.some.injEq, Option.getD_some] at hq hs
    refine .inr ⟨_, hj, by omega, ?_⟩
    rw [← hq, hs]
    rfl
theorem all_len (h : rightV x = true) : (allS x).length = 3 * x.comps.length + x.shares.length := by
  obtain ⟨l1, l2, l3, l4, _, _⟩ := layV_ok h
  unfold allS
  simp only [List.length_append, List.length_map]
  omega
theorem all_ok (h : rightV x = true) {q : Nat} {s : Sp} (hq : (allS x)[q]? = some s) : 256 ≤ s.lo ∧ s.lo.tmod 256 = 0 ∧ s.lo < s.hi ∧ s.hi ≤ 256 * (layV x).pg ∧ s.hi ≤ 200000 := by
  have hm := (rightV_ok h).1
  rw [at_pg]
  rcases all_at h hq with ⟨i, hi, hs⟩ | ⟨j, hj, _, rfl⟩
  · obtain ⟨f1, f2, f3, f4, ⟨r1, r2, r3, r4⟩, r5⟩ := pg_facts h hi
    unfold lnPg at f2 hs
    rcases hs with ⟨_, rfl⟩ | ⟨_, rfl⟩ | ⟨_, rfl⟩ <;> (dsimp only; refine ⟨by omega, ?_, by omega, by omega, by omega⟩; rw [Int.tmod_eq_emod_of_nonneg (by omega)]; omega)
  · obtain ⟨f1, _, f3, f4, _⟩ := pg_facts h (show 0 < x.comps.length by omega)
    have f5 := pg_le h (Nat.zero_le x.comps.length) (Nat.le_refl _)
    dsimp only
    refine ⟨by omega, ?_, by omega, by omega, by omega⟩
    rw [Int.tmod_eq_emod_of_nonneg (by omega)]
    omega
theorem all_two (h : rightV x = true) {q r : Nat} {s u : Sp} (hq : (allS x)[q]? = some s) (hr : (allS x)[r]? = some u) (hne : r < q) : ¬ (s.lo < u.hi ∧ u.lo < s.hi) := by
  have hm := (rightV_ok h).1
  rcases all_at h hq with ⟨i, hi, hs⟩ | ⟨j, hj, e1, rfl⟩ <;> rcases all_at h hr with ⟨k, hk, hu⟩ | ⟨l, hl, e2, rfl⟩
  · have a := pg_facts h hi
    have b := pg_facts h hk
    unfold lnPg CmR at a b
    unfold lnPg at hs hu
    rcases Nat.lt_trichotomy i k with hlt | heq | hlt
    · have c := pg_le h (show i + 1 ≤ k by omega) (by omega)
      rcases hs with ⟨_, rfl⟩ | ⟨_, rfl⟩ | ⟨_, rfl⟩ <;> rcases hu with ⟨_, rfl⟩ | ⟨_, rfl⟩ | ⟨_, rfl⟩ <;> (dsimp only; omega)
    · subst heq
      rcases hs with ⟨_, rfl⟩ | ⟨_, rfl⟩ | ⟨_, rfl⟩ <;> rcases hu with ⟨_, rfl⟩ | ⟨_, rfl⟩ | ⟨_, rfl⟩ <;> (dsimp only; omega)
    · have c := pg_le h (show k + 1 ≤ i by omega) (by omega)
      rcases hs with ⟨_, rfl⟩ | ⟨_, rfl⟩ | ⟨_, rfl⟩ <;> rcases hu with ⟨_, rfl⟩ | ⟨_, rfl⟩ | ⟨_, rfl⟩ <;> (dsimp only; omega)
  · have a := pg_facts h hi
    unfold lnPg CmR at a
    unfold lnPg at hs
    rcases hs with ⟨_, rfl⟩ | ⟨_, rfl⟩ | ⟨_, rfl⟩ <;> (dsimp only; omega)
  · have a := pg_facts h hk
    unfold lnPg CmR at a
    unfold lnPg at hu
    rcases hu with ⟨_, rfl⟩ | ⟨_, rfl⟩ | ⟨_, rfl⟩ <;> (dsimp only; omega)
  · dsimp only
    omega
end

end Go.Proofs.Ytgldlkoohfclpaa
