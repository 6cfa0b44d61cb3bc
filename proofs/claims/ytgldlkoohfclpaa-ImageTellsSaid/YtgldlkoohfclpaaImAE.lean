/- Layer 17: what is granted. -/
import Derived.Test.YtgldlkoohfclpaaImAD
import Derived.Test.YtgldlkoohfclpaaImN
namespace Go.Proofs.Ytgldlkoohfclpaa
set_option linter.unusedSimpArgs false
set_option linter.unusedVariables false
open Go.RowKit

def pgA (x : Img) (i : Nat) : Int := (layK x.heap (x.comps.take i)).pg
section
variable {x : Img}
theorem pg_facts (h : rightV x = true) {i : Nat} (hi : i < x.comps.length) : 1 ≤ pgA x i ∧ pgA x (i + 1) = pgA x i + lnPg x.comps[i].bl.length + x.comps[i].data + x.heap ∧ pgA x (i + 1) ≤ pgA x x.comps.length ∧ pgA x x.comps.length ≤ 401 ∧ CmR x.comps[i] ∧ 1 ≤ x.heap := by
  obtain ⟨n5, hcm, _, _⟩ := rightV_ok h
  have hc : ∀ c ∈ x.comps, CmR c := fun c hc => (hcm c hc).1
  have h1 := layK_at n5.1 n5.2.1 x.comps hc i x.comps[i] (List.getElem?_eq_getElem hi)
  have h2 := layK_len n5.1 n5.2.1 (x.comps.take i) (fun c hm => hc c (List.mem_of_mem_take hm))
  have h3 := layK_mono n5.1 n5.2.1 hc (show i + 1 ≤ x.comps.length by omega) (Nat.le_refl _)
  have h4 := layK_len n5.1 n5.2.1 x.comps hc
  unfold pgA
  refine ⟨h2.2.2.2.2.1, h1.2.2.2, h3, ?_, hc _ (List.getElem_mem _), n5.1⟩
  rw [List.take_length]
  omega
theorem pg_le (h : rightV x = true) {i k : Nat} (hik : i ≤ k) (hk : k ≤ x.comps.length) : pgA x i ≤ pgA x k := by
  obtain ⟨n5, hcm, _, _⟩ := rightV_ok h
  exact layK_mono n5.1 n5.2.1 (fun c hc => (hcm c hc).1) hik hk
theorem at_C (h : rightV x = true) {i : Nat} (hi : i < x.comps.length) : (layV x).C.getD i ⟨0, 0⟩ = ⟨pgA x i * 256, pgA x i * 256 + x.comps[i].bl.length⟩ ∧ (layV x).D.getD i ⟨0, 0⟩ = ⟨(pgA x i + lnPg x.comps[i].bl.length) * 256, (pgA x i + lnPg x.comps[i].bl.length + x.comps[i].data) * 256⟩ := by
  obtain ⟨n5, hcm, _, _⟩ := rightV_ok h
  have h1 := layK_at n5.1 n5.2.1 x.comps (fun c hc => (hcm c hc).1) i x.comps[i] (List.getElem?_eq_getElem hi)
  have h3 := layS_len (layK x.heap x.comps) x.shares.length
  unfold layV
  rw [h3.2.2.1, h3.2.2.2.1, List.getD_eq_getElem?_getD, List.getD_eq_getElem?_getD, h1.1, h1.2.1]
  exact ⟨rfl, rfl⟩
theorem at_S (h : rightV x = true) {j : Nat} (hj : j < x.shares.length) : (layV x).S.getD j 0 = (pgA x x.comps.length + j) * 256 := by
  obtain ⟨n5, hcm, _, _⟩ := rightV_ok h
  have h4 := layK_len n5.1 n5.2.1 x.comps (fun c hc => (hcm c hc).1)
  have h1 := layS_at (layK x.heap x.comps) h4.2.2.2.1 x.shares.length j hj
  unfold layV pgA
  rw [List.getD_eq_getElem?_getD, h1, List.take_length]
  rfl
theorem grant_eq (h : rightV x = true) {i : Nat} (hi : i < x.comps.length) : grantV x i = ownC (layV x) i ++ x.shares.zipIdx.flatMap (shF (layV x) i) := by
  unfold grantV
  have h2 : outB (i : Int) 0 ((x.comps.length : Int) - 1) = false := by
    unfold outB
    rw [Bool.or_eq_false_iff]
    exact ⟨decide_eq_false (by omega), decide_eq_false (by omega)⟩
  rw [h, h2, if_pos (by decide), Int.toNat_natCast]
/-- A zone: the compartment's own pages, or its type. -/
def Zn (x : Img) (i : Nat) (c : Cap) : Prop := (pgA x i * 256 ≤ c.base ∧ c.top ≤ pgA x (i + 1) * 256) ∨ (c.base = 16 + (i : Int) ∧ c.top = 17 + (i : Int))
theorem own_mem (h : rightV x = true) {i : Nat} (hi : i < x.comps.length) {c : Cap} (hc : c ∈ ownC (layV x) i) : Zn x i c ∧ rightC c = true ∧ c.tag = true ∧ c.type = 0 ∧ c.at_ = c.base ∧ (32 ≤ c.perms → c.base = 16 + (i : Int)) := by
  obtain ⟨f1, f2, f3, f4, ⟨r1, r2, r3, r4⟩, r5⟩ := pg_facts h hi
  have hm := (rightV_ok h).1.2.2.2.2.2.1
  obtain ⟨eC, eD⟩ := at_C h hi
  unfold ownC at hc
  rw [eC, eD] at hc
  unfold lnPg at f2 hc
  simp only [List.mem_cons, List.not_mem_nil, or_false] at hc
  unfold Zn
  rcases hc with rfl | rfl | rfl
  · refine ⟨.inl ⟨Int.le_refl _, by dsimp only; omega⟩, ?_, rfl, rfl, rfl, fun h => by have h2 : (32 : Int) ≤ 5 := h; omega⟩
    simp only [rightC, holdsB, rightB, Bool.and_eq_true, Bool.or_eq_true, decide_eq_true_eq]
    omega
  · refine ⟨.inl ⟨by dsimp only; omega, by dsimp only; omega⟩, ?_, rfl, rfl, rfl, fun h => by have h2 : (32 : Int) ≤ 27 := h; omega⟩
    simp only [rightC, holdsB, rightB, Bool.and_eq_true, Bool.or_eq_true, decide_eq_true_eq]
    omega
  · refine ⟨.inr ⟨rfl, by dsimp only; omega⟩, ?_, rfl, rfl, rfl, fun _ => rfl⟩
    simp only [rightC, holdsB, rightB, Bool.and_eq_true, Bool.or_eq_true, decide_eq_true_eq]
    omega
theorem share_mem (h : rightV x = true) {i : Nat} {c : Cap} (hc : c ∈ x.shares.zipIdx.flatMap (shF (layV x) i)) : pgA x x.comps.length * 256 ≤ c.base ∧ rightC c = true ∧ c.tag = true ∧ c.type = 0 ∧ c.at_ = c.base ∧ c.perms < 32 := by
  obtain ⟨⟨d, j⟩, hj, hc⟩ := List.mem_flatMap.1 hc
  have hj2 := List.mem_zipIdx hj
  have hm := (rightV_ok h).1
  obtain ⟨f1, _, f3, f4, _⟩ := pg_facts h (show 0 < x.comps.length by omega)
  have f5 := pg_le h (Nat.zero_le x.comps.length) (Nat.le_refl _)
  unfold shF at hc
  split at hc
  · cases hc
  · simp only [List.mem_cons, List.not_mem_nil, or_false] at hc
    rw [at_S h (by omega)] at hc
    subst hc
    unfold shCap
    refine ⟨by dsimp only; omega, ?_, rfl, rfl, rfl, by dsimp only; split <;> decide⟩
    simp only [rightC, holdsB, rightB, Bool.and_eq_true, Bool.or_eq_true, decide_eq_true_eq]
    split <;> omega
theorem grant_cap (h : rightV x = true) {i : Nat} (hi : i < x.comps.length) {c : Cap} (hc : c ∈ grantV x i) : rightC c = true ∧ c.tag = true ∧ c.type = 0 ∧ c.at_ = c.base := by
  rw [grant_eq h hi] at hc
  rcases List.mem_append.1 hc with hc | hc
  · obtain ⟨_, a, b, c, d, _⟩ := own_mem h hi hc
    exact ⟨a, b, c, d⟩
  · obtain ⟨_, a, b, c, d, _⟩ := share_mem h hc
    exact ⟨a, b, c, d⟩
theorem grant_len (h : rightV x = true) {i : Nat} (hi : i < x.comps.length) : 3 ≤ (grantV x i).length := by
  rw [grant_eq h hi, List.length_append]
  show 3 ≤ 3 + _
  omega
theorem flat_le {α : Type} (f : α → List Cap) (hf : ∀ a, (f a).length ≤ 1) : ∀ l : List α, (l.flatMap f).length ≤ l.length
  | [] => Nat.le_refl _
  | a :: l => by
    rw [List.flatMap_cons, List.length_append, List.length_cons]
    have h1 := hf a
    have h2 := flat_le f hf l
    omega
theorem grant_max (h : rightV x = true) {i : Nat} (hi : i < x.comps.length) : (grantV x i).length ≤ 9 := by
  have hm := (rightV_ok h).1
  rw [grant_eq h hi, List.length_append]
  have h1 := flat_le (shF (layV x) i) (fun a => by unfold shF; split <;> simp) x.shares.zipIdx
  rw [List.length_zipIdx] at h1
  show 3 + _ ≤ 9
  omega
theorem pair_max (h : rightV x = true) (i : Int) : (pairV x i).length ≤ 16 := by
  have hm := (rightV_ok h).1
  unfold pairV
  split
  · rw [List.length_map]
    have := lf_len x.links i
    omega
  · exact Nat.zero_le _
theorem grant_seal (h : rightV x = true) {i : Nat} (hi : i < x.comps.length) {c : Cap} (hc : c ∈ grantV x i) {t : Int} (ht : t ≤ 5) : 32 ≤ c.perms → inR c t 1 = false := by
  intro hp
  rw [grant_eq h hi] at hc
  rcases List.mem_append.1 hc with hc | hc
  · have hb := (own_mem h hi hc).2.2.2.2.2 hp
    unfold inR
    rw [show decide (c.base ≤ t) = false from decide_eq_false (by omega)]
    simp
  · have := (share_mem h hc).2.2.2.2.2
    omega
theorem grant_at (h : rightV x = true) {i j : Nat} (hi : i < x.comps.length) {c : Cap} (hc : (grantV x i)[j]? = some c) : (j < 3 → c ∈ ownC (layV x) i) ∧ (c ∈ ownC (layV x) i ∨ c ∈ x.shares.zipIdx.flatMap (shF (layV x) i)) := by
  rw [grant_eq h hi] at hc
  refine ⟨fun hj => ?_, List.mem_append.1 (List.mem_of_getElem? hc)⟩
  rw [List.getElem?_append_left (by show j < 3; exact hj)] at hc
  exact List.mem_of_getElem? hc
theorem zn_apart (h : rightV x = true) {i k : Nat} (hi : i < x.comps.length) (hk : k < x.comps.length) (hik : ¬ i = k) {g g' : Cap} (hg : Zn x i g) (hg' : Zn x k g') : ¬ (g.base < g'.top ∧ g'.base < g.top) := by
  have hm := (rightV_ok h).1
  have a := pg_facts h hi
  have b := pg_facts h hk
  unfold lnPg CmR at a b
  rcases Nat.lt_or_gt_of_ne hik with hlt | hlt
  · have c := pg_le h (show i + 1 ≤ k by omega) (by omega)
    rcases hg with hg | hg <;> rcases hg' with hg' | hg' <;> omega
  · have c := pg_le h (show k + 1 ≤ i by omega) (by omega)
    rcases hg with hg | hg <;> rcases hg' with hg' | hg' <;> omega
theorem zs_apart (h : rightV x = true) {i : Nat} (hi : i < x.comps.length) {g g' : Cap} (hg : Zn x i g) (hg' : pgA x x.comps.length * 256 ≤ g'.base) : ¬ (g.base < g'.top ∧ g'.base < g.top) := by
  have hm := (rightV_ok h).1
  have a := pg_facts h hi
  unfold lnPg CmR at a
  rcases hg with hg | hg <;> omega
theorem grant_apart (h : rightV x = true) {i k j l : Nat} (hi : i < x.comps.length) (hk : k < x.comps.length) (hik : ¬ i = k) {g g' : Cap} (hg : (grantV x i)[j]? = some g) (hg' : (grantV x k)[l]? = some g') (hj : j < 3 ∨ l < 3) : ¬ (g.base < g'.top ∧ g'.base < g.top) := by
  obtain ⟨a1, a2⟩ := grant_at h hi hg
  obtain ⟨b1, b2⟩ := grant_at h hk hg'
  rcases hj with hj | hj
  · have hz := (own_mem h hi (a1 hj)).1
    rcases b2 with b2 | b2
    · exact zn_apart h hi hk hik hz (own_mem h hk b2).1
    · exact zs_apart h hi hz (share_mem h b2).1
  · have hz := (own_mem h hk (b1 hj)).1
    rcases a2 with a2 | a2
    · exact zn_apart h hi hk hik (own_mem h hi a2).1 hz
    · intro hh
      exact zs_apart h hk hz (share_mem h a2).1 ⟨hh.2, hh.1⟩
theorem pair_mem (h : rightV x = true) {i : Nat} {p : Cap × Cap} (hp : p ∈ pairV x i) : rightC p.1 = true ∧ rightC p.2 = true ∧ 2 ≤ p.1.type ∧ p.1.type ≤ 5 ∧ p.2.type = p.1.type ∧ p.2.perms < 32 ∧ inR p.1 p.1.at_ 4 = true := by
  unfold pairV at hp
  split at hp
  · obtain ⟨l, hl, rfl⟩ := List.mem_map.1 hp
    have hl2 : l ∈ x.links := (List.mem_filter.1 hl).1
    obtain ⟨t0, t1, t2, t3, t4⟩ := lnk_ok h hl2
    obtain ⟨k, hk⟩ : ∃ k : Nat, l.to_ = (k : Int) := ⟨l.to_.toNat, by omega⟩
    have hkl : k < x.comps.length := by omega
    have hm := (rightV_ok h).1.2.2.2.2.2.1
    obtain ⟨f1, f2, f3, f4, ⟨r1, r2, r3, r4⟩, r5⟩ := pg_facts h hkl
    obtain ⟨eC, eD⟩ := at_C h hkl
    have hat : l.at_ < (x.comps[k].bl.length : Int) / 4 := by
      have h1 := (rightV_ok h).2.2.1 l hl2
      unfold lnkOk lkB at h1
      simp only [Bool.and_eq_true, Bool.not_eq_true', List.any_cons, List.any_nil, id, Bool.or_eq_false_iff, Bool.or_false, decide_eq_false_iff_not] at h1
      have h2 := h1.2.2.1
      unfold lenC at h2
      rw [hk, Int.toNat_natCast, List.getElem?_eq_getElem hkl] at h2
      simp only [Option.map_some, Option.getD_some] at h2
      omega
    unfold pairOf
    rw [hk, Int.toNat_natCast, eC, eD]
    dsimp only
    unfold lnPg at f2 ⊢
    refine ⟨?_, ?_, by omega, by omega, rfl, by decide, ?_⟩
    · simp only [rightC, holdsB, rightB, Bool.and_eq_true, Bool.or_eq_true, decide_eq_true_eq]
      omega
    · simp only [rightC, holdsB, rightB, Bool.and_eq_true, Bool.or_eq_true, decide_eq_true_eq]
      omega
    · unfold inR
      dsimp only
      rw [show max (pgA x k * 256 + l.at_ * 4) 0 = pgA x k * 256 + l.at_ * 4 by omega, show wrap64 (pgA x k * 256 + x.comps[k].bl.length - (pgA x k * 256 + l.at_ * 4)) = pgA x k * 256 + x.comps[k].bl.length - (pgA x k * 256 + l.at_ * 4) by simp only [wrap64, IntKind.wrap_i64]; omega]
      simp only [Bool.and_eq_true, decide_eq_true_eq]
      omega
  · cases hp
end

end Go.Proofs.Ytgldlkoohfclpaa
