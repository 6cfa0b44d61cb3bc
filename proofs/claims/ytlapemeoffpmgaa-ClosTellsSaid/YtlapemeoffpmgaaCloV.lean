/- Layer 6: what is open, breadth first (values alone). -/
import Derived.Test.YtlapemeoffpmgaaM6Clo
namespace Go.Proofs.Ytlapemeoffpmgaa
set_option linter.unusedSimpArgs false
set_option linter.unusedVariables false
open Go.RowKit

/-- What a grant opens to. -/
def Cap.norm (c : Cap) : Cap := ⟨c.tag, c.base, c.top, c.base, c.perms, 0⟩
def authC (o : Cap) (p k : Int) : Bool := hasB o.perms p && inC o k 1
def grantsC (l : List Cap) : List Cap := l.filter fun c => c.tag && rightC c
/-- What can be opened. -/
inductive Opn (G : List Cap) : Cap → Prop
  | base {g : Cap} : g ∈ G → g.type ≤ 1 → Opn G g.norm
  | more {g o : Cap} : g ∈ G → Opn G o → 2 ≤ g.type → authC o 64 g.type = true → Opn G g.norm
def kindsOf (p : Int) (o : Cap) : List Nat := (List.range 256).filter fun k => decide (2 ≤ k) && authC o p k
theorem kindsOf_mem {p : Int} {o : Cap} {k : Nat} : k ∈ kindsOf p o ↔ k < 256 ∧ 2 ≤ k ∧ authC o p k = true := by
  simp [kindsOf]
def bfsC : Nat → List Cap → (Nat → List Cap) → List Cap
  | 0, _, _ => []
  | _ + 1, [], _ => []
  | n + 1, c :: w, S => c :: bfsC n (w ++ (kindsOf 64 c).flatMap S) (fun k => if k ∈ kindsOf 64 c then [] else S k)
def sealedC (G : List Cap) (k : Nat) : List Cap := (G.filter fun g => g.type == (k : Int)).map Cap.norm
def foundC (G : List Cap) : List Cap := bfsC (G.length + 1) (sealedC G 0 ++ sealedC G 1) (sealedC G)
theorem sealedC_mem {G : List Cap} {k : Nat} {x : Cap} : x ∈ sealedC G k ↔ ∃ g ∈ G, g.type = (k : Int) ∧ g.norm = x := by
  simp [sealedC, and_assoc]
def sumS (L : List Nat) (S : Nat → List Cap) : Nat := (L.map fun k => (S k).length).sum
theorem sumS_cons (k : Nat) (L : List Nat) (S : Nat → List Cap) : sumS (k :: L) S = (S k).length + sumS L S := by simp [sumS]
theorem sumS_take (q : Nat → Bool) (S : Nat → List Cap) : ∀ L : List Nat, ((L.filter q).flatMap S).length + sumS L (fun k => if q k = true then [] else S k) = sumS L S
  | [] => by simp [sumS]
  | k :: L => by
    have ih := sumS_take q S L
    rw [sumS_cons, sumS_cons]
    cases hk : q k with
    | true =>
      rw [List.filter_cons_of_pos hk, List.flatMap_cons, List.length_append]
      simp only [hk, if_true, List.length_nil]
      omega
    | false =>
      rw [List.filter_cons_of_neg (by rw [hk]; decide)]
      simp only [hk, Bool.false_eq_true, if_false]
      omega
theorem sumS_congr {L : List Nat} {S S' : Nat → List Cap} (h : ∀ k ∈ L, S k = S' k) : sumS L S = sumS L S' := by
  induction L with
  | nil => rfl
  | cons k L ih => rw [sumS_cons, sumS_cons, h k (by simp), ih fun j hj => h j (by simp [hj])]
theorem flatMap_cg {L : List Nat} {f g : Nat → List Cap} (h : ∀ k ∈ L, f k = g k) : L.flatMap f = L.flatMap g := by
  induction L with
  | nil => rfl
  | cons k L ih => rw [List.flatMap_cons, List.flatMap_cons, h k (by simp), ih fun j hj => h j (by simp [hj])]
theorem one_kind (t : Int) : ∀ n : Nat, ((List.range n).map fun k : Nat => if t = (k : Int) then 1 else 0).sum ≤ 1 ∧ (n ≤ t.toNat ∨ t < 0 → ((List.range n).map fun k : Nat => if t = (k : Int) then 1 else 0).sum = 0)
  | 0 => by simp
  | n + 1 => by
    obtain ⟨h1, h2⟩ := one_kind t n
    rw [List.range_succ, List.map_append, List.sum_append]
    simp only [List.map_cons, List.map_nil, List.sum_cons, List.sum_nil]
    by_cases ht : t = (n : Int)
    · have h3 := h2 (.inl (by omega))
      rw [if_pos ht, h3]
      exact ⟨by omega, fun h => by omega⟩
    · rw [if_neg ht]
      exact ⟨by omega, fun h => by have := h2 (by omega); omega⟩
set_option maxRecDepth 100000 in
theorem sealed_sum (G : List Cap) : sumS (List.range 256) (sealedC G) ≤ G.length := by
  induction G with
  | nil => decide +kernel
  | cons g G ih =>
    have e : ∀ L : List Nat, sumS L (sealedC (g :: G)) = (L.map fun k : Nat => if g.type = (k : Int) then 1 else 0).sum + sumS L (sealedC G) := by
      intro L
      induction L with
      | nil => rfl
      | cons k L ihL =>
        rw [sumS_cons, sumS_cons, ihL]
        simp only [List.map_cons, List.sum_cons]
        unfold sealedC
        by_cases hk : g.type = (k : Int)
        · rw [List.filter_cons_of_pos (by simpa using hk), if_pos hk]
          simp only [List.map_cons, List.length_cons]
          omega
        · rw [List.filter_cons_of_neg (by simpa using hk), if_neg hk]
          omega
    rw [e]
    have := (one_kind g.type 256).1
    rw [List.length_cons]
    omega
set_option maxRecDepth 100000 in
theorem bfs_mem {G : List Cap} (hG : ∀ g ∈ G, 0 ≤ g.type ∧ g.type ≤ 255) (R : List Nat) (hR : R = List.range 256) : ∀ (n : Nat) (w Y : List Cap) (S : Nat → List Cap),
    (∀ x ∈ Y ++ w, Opn G x) → (∀ k, S k = sealedC G k ∨ S k = []) → (∀ k, 2 ≤ k → k < 256 → S k = sealedC G k ∨ ∀ x ∈ sealedC G k, x ∈ Y ++ w) →
    (∀ y ∈ Y, ∀ k ∈ kindsOf 64 y, S k = []) → (∀ y ∈ Y, ∀ k ∈ kindsOf 64 y, ∀ x ∈ sealedC G k, x ∈ Y ++ w) → (∀ x ∈ sealedC G 0 ++ sealedC G 1, x ∈ Y ++ w) →
    w.length + sumS R (fun k => if 2 ≤ k then S k else []) < n → ∀ x, x ∈ Y ++ bfsC n w S ↔ Opn G x
  | 0, w, Y, S, _, _, _, _, _, _, h => by omega
  | n + 1, [], Y, S, h1, h2, h3, h4, h5, h6, h => by
    intro x
    rw [bfsC, List.append_nil]
    rw [List.append_nil] at h1 h6
    refine ⟨h1 x, fun hx => ?_⟩
    induction hx with
    | @base g hg ht =>
      obtain ⟨t0, t1⟩ := hG g hg
      apply h6
      rw [List.mem_append]
      rcases (show g.type = 0 ∨ g.type = 1 by omega) with e | e
      · exact .inl (sealedC_mem.2 ⟨g, hg, by simpa using e, rfl⟩)
      · exact .inr (sealedC_mem.2 ⟨g, hg, by simpa using e, rfl⟩)
    | @more g o hg ho ht ha ih =>
      obtain ⟨t0, t1⟩ := hG g hg
      have e : ((g.type.toNat : Nat) : Int) = g.type := by omega
      have hk : g.type.toNat ∈ kindsOf 64 o := kindsOf_mem.2 ⟨by omega, by omega, by rw [e]; exact ha⟩
      have := h5 o ih _ hk g.norm (sealedC_mem.2 ⟨g, hg, e.symm, rfl⟩)
      rwa [List.append_nil] at this
  | n + 1, c :: w, Y, S, h1, h2, h3, h4, h5, h6, h => by
    intro x
    rw [bfsC, show Y ++ c :: bfsC n (w ++ (kindsOf 64 c).flatMap S) (fun k => if k ∈ kindsOf 64 c then [] else S k) = (Y ++ [c]) ++ bfsC n (w ++ (kindsOf 64 c).flatMap S) (fun k => if k ∈ kindsOf 64 c then [] else S k) by simp]
    have hmore : ∀ z, z ∈ Y ++ c :: w → z ∈ (Y ++ [c]) ++ (w ++ (kindsOf 64 c).flatMap S) := fun z hz => by
      simp only [List.mem_append, List.mem_cons, List.mem_nil_iff, or_false] at hz ⊢
      rcases hz with h | rfl | h
      · exact .inl (.inl h)
      · exact .inl (.inr rfl)
      · exact .inr (.inl h)
    refine bfs_mem hG R hR n _ _ _ ?_ ?_ ?_ ?_ ?_ ?_ ?_ x
    · intro z hz
      simp only [List.mem_append, List.mem_cons, List.mem_nil_iff, or_false] at hz
      rcases hz with (h | rfl) | h | h
      · exact h1 z (by simp [h])
      · exact h1 z (by simp)
      · exact h1 z (by simp [h])
      · obtain ⟨k, hk, hz⟩ := List.mem_flatMap.1 h
        have hz2 : z ∈ sealedC G k := by
          rcases h2 k with e | e
          · rwa [e] at hz
          · rw [e] at hz; cases hz
        obtain ⟨g, hg, ht, rfl⟩ := sealedC_mem.1 hz2
        obtain ⟨_, k2, ka⟩ := kindsOf_mem.1 hk
        exact .more hg (h1 c (by simp)) (by omega) (by rw [ht]; exact ka)
    · intro k
      by_cases hk : k ∈ kindsOf 64 c
      · rw [if_pos hk]; exact .inr rfl
      · rw [if_neg hk]; exact h2 k
    · intro k k2 k3
      by_cases hk : k ∈ kindsOf 64 c
      · refine .inr fun z hz => ?_
        rcases h3 k k2 k3 with e | e
        · simp only [List.mem_append]
          exact .inr (.inr (List.mem_flatMap.2 ⟨k, hk, by rw [e]; exact hz⟩))
        · exact hmore z (e z hz)
      · rw [if_neg hk]
        rcases h3 k k2 k3 with e | e
        · exact .inl e
        · exact .inr fun z hz => hmore z (e z hz)
    · intro y hy k hk
      rcases List.mem_append.1 hy with hy | hy
      · by_cases hk2 : k ∈ kindsOf 64 c
        · rw [if_pos hk2]
        · rw [if_neg hk2]; exact h4 y hy k hk
      · obtain rfl := List.mem_singleton.1 hy
        rw [if_pos hk]
    · intro y hy k hk z hz
      rcases List.mem_append.1 hy with hy | hy
      · exact hmore z (h5 y hy k hk z hz)
      · obtain rfl := List.mem_singleton.1 hy
        obtain ⟨k3, k2, _⟩ := kindsOf_mem.1 hk
        rcases h3 k k2 k3 with e | e
        · simp only [List.mem_append]
          exact .inr (.inr (List.mem_flatMap.2 ⟨k, hk, by rw [e]; exact hz⟩))
        · exact hmore z (e z hz)
    · intro z hz
      exact hmore z (h6 z hz)
    · have e1 := sumS_take (fun k : Nat => decide (2 ≤ k) && authC c 64 k) (fun k => if 2 ≤ k then S k else []) R
      have e2 : (R.filter fun k : Nat => decide (2 ≤ k) && authC c 64 k).flatMap (fun k => if 2 ≤ k then S k else []) = (kindsOf 64 c).flatMap S := by
        unfold kindsOf
        rw [← hR]
        refine flatMap_cg fun k hk => ?_
        rw [hR] at hk
        rw [if_pos (kindsOf_mem.1 hk).2.1]
      have e3 : sumS R (fun k : Nat => if (decide (2 ≤ k) && authC c 64 k) = true then [] else (if 2 ≤ k then S k else [])) = sumS R (fun k => if 2 ≤ k then (if k ∈ kindsOf 64 c then [] else S k) else []) := sumS_congr fun k hk => by
        have hk2 : k < 256 := by rw [hR] at hk; simpa using hk
        by_cases c2 : 2 ≤ k
        · by_cases ca : authC c 64 k = true
          · rw [if_pos (by simp [c2, ca]), if_pos c2, if_pos (kindsOf_mem.2 ⟨hk2, c2, ca⟩)]
          · rw [if_neg (by simp [ca]), if_pos c2, if_pos c2, if_neg fun h => ca (kindsOf_mem.1 h).2.2]
        · rw [if_neg (by simp [c2]), if_neg c2, if_neg c2]
      rw [e2, e3] at e1
      rw [List.length_append]
      simp only [List.length_cons] at h
      omega
set_option maxRecDepth 100000 in
theorem found_iff {G : List Cap} (hG : ∀ g ∈ G, 0 ≤ g.type ∧ g.type ≤ 255) (x : Cap) : x ∈ foundC G ↔ Opn G x := by
  have h := bfs_mem hG _ rfl (G.length + 1) (sealedC G 0 ++ sealedC G 1) [] (sealedC G) ?_ (fun k => .inl rfl) (fun k _ _ => .inl rfl) (fun y hy => by cases hy) (fun y hy => by cases hy) (fun z hz => by simpa using hz) ?_ x
  · simpa [foundC] using h
  · intro z hz
    rw [List.nil_append] at hz
    rcases List.mem_append.1 hz with h | h
    · obtain ⟨g, hg, ht, rfl⟩ := sealedC_mem.1 h
      exact .base hg (by simp at ht; omega)
    · obtain ⟨g, hg, ht, rfl⟩ := sealedC_mem.1 h
      exact .base hg (by simp at ht; omega)
  · have h1 := sealed_sum G
    have e : (sealedC G 0 ++ sealedC G 1).length + sumS (List.range 256) (fun k => if 2 ≤ k then sealedC G k else []) = sumS (List.range 256) (sealedC G) := by
      have e0 : List.range 256 = 0 :: 1 :: (List.range 254).map (· + 2) := by decide +kernel
      rw [e0, sumS_cons, sumS_cons, sumS_cons, sumS_cons, List.length_append]
      have e1 : sumS ((List.range 254).map (· + 2)) (fun k => if 2 ≤ k then sealedC G k else []) = sumS ((List.range 254).map (· + 2)) (sealedC G) := sumS_congr fun k hk => by
        obtain ⟨j, _, rfl⟩ := List.mem_map.1 hk
        rw [if_pos (by omega)]
      rw [e1]
      simp
      omega
    omega

end Go.Proofs.Ytlapemeoffpmgaa
