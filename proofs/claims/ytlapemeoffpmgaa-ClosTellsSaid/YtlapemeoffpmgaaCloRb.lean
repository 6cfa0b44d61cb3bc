/- Layer 6: the document's Open (values). -/
import Derived.Test.YtlapemeoffpmgaaCloRa
namespace Go.Proofs.Ytlapemeoffpmgaa
set_option linter.unusedSimpArgs false
set_option linter.unusedVariables false
open Go.RowKit

/-- One laid in at its place. -/
def insS (c : Cap) : List Cap → List Cap
  | [] => [c]
  | x :: l => if lexC x c = true then x :: insS c l else c :: x :: l
theorem ins_mem (c x : Cap) : ∀ l : List Cap, x ∈ insS c l ↔ x = c ∨ x ∈ l
  | [] => by simp [insS]
  | y :: l => by
    rw [insS]
    split
    · rw [List.mem_cons, ins_mem c x l, List.mem_cons]
      constructor
      · rintro (h | h | h)
        · exact .inr (.inl h)
        · exact .inl h
        · exact .inr (.inr h)
      · rintro (h | h | h)
        · exact .inr (.inl h)
        · exact .inl h
        · exact .inr (.inr h)
    · exact List.mem_cons
theorem ins_len (c : Cap) : ∀ l : List Cap, (insS c l).length = l.length + 1
  | [] => rfl
  | y :: l => by
    rw [insS]
    split
    · rw [List.length_cons, ins_len c l, List.length_cons]
    · rfl
theorem ins_at {c : Cap} : ∀ (l : List Cap) (k : Nat), k ≤ l.length → (∀ (j : Nat) (h : j < l.length), j < k → lexC l[j] c = true) → (∀ h : k < l.length, lexC l[k] c = false) → l.take k ++ (c :: l.drop k) = insS c l
  | [], k, _, _, _ => by simp [insS]
  | x :: l, 0, _, _, h3 => by
    have h := h3 (by simp)
    rw [insS, if_neg (by simpa using h)]
    rfl
  | x :: l, k + 1, h1, h2, h3 => by
    have h := h2 0 (by simp) (by omega)
    rw [insS, if_pos (by simpa using h), List.take_succ_cons, List.drop_succ_cons, List.cons_append,
      ins_at l k (by simpa using h1) (fun j hj hk => by have := h2 (j + 1) (by simpa using hj) (by omega); simpa using this) (fun hk => by have := h3 (by simpa using hk); simpa using this)]
theorem lex_total {a b : Cap} (ha : NrmC a) (hb : NrmC b) (h : ¬ lexC a b = true) (hn : a ≠ b) : lexC b a = true := by
  rw [lexC_iff] at h ⊢
  by_cases h1 : a.base = b.base
  · by_cases h2 : a.top = b.top
    · by_cases h3 : a.perms = b.perms
      · exact absurd (nrm_eq ha hb h1 h2 h3) hn
      · omega
    · omega
  · omega
theorem ins_srt {c : Cap} (hc : NrmC c) : ∀ l : List Cap, l.Pairwise (fun a b => lexC a b = true) → (∀ x ∈ l, NrmC x) → (∀ x ∈ l, x ≠ c) → (insS c l).Pairwise (fun a b => lexC a b = true)
  | [], _, _, _ => by simp [insS]
  | x :: l, h1, h2, h3 => by
    obtain ⟨h4, h5⟩ := List.pairwise_cons.1 h1
    rw [insS]
    split
    · rename_i h
      refine List.pairwise_cons.2 ⟨fun y hy => ?_, ins_srt hc l h5 (fun y hy => h2 y (List.mem_cons_of_mem _ hy)) fun y hy => h3 y (List.mem_cons_of_mem _ hy)⟩
      rcases (ins_mem c y l).1 hy with e | e
      · rw [e]; exact h
      · exact h4 y e
    · rename_i h
      have h6 := lex_total (h2 x (by simp)) hc h (h3 x (by simp))
      refine List.pairwise_cons.2 ⟨fun y hy => ?_, h1⟩
      rcases List.mem_cons.1 hy with e | e
      · rw [e]; exact h6
      · exact lexC_trans h6 (h4 y e)
def mostE (O : List Cap) (c : Cap) : Bool := O.all fun y => y == c || !underR c y
def stpM (O out : List Cap) (c : Cap) : List Cap := if mostE O c = true then insS c out else out
@[irreducible] def mxL (O P : List Cap) : List Cap := P.foldl (stpM O) []
theorem mx_nil (O : List Cap) : mxL O [] = [] := by unfold mxL; rfl
theorem mx_snoc (O P : List Cap) (c : Cap) : mxL O (P ++ [c]) = stpM O (mxL O P) c := by
  unfold mxL
  rw [List.foldl_append]
  rfl
theorem mx_all (O : List Cap) : ∀ (P acc : List Cap), acc.Pairwise (fun a b => lexC a b = true) → (∀ x ∈ acc, NrmC x) → (∀ x ∈ P, NrmC x) → P.Nodup → (∀ x ∈ acc, ¬ x ∈ P) →
    (P.foldl (stpM O) acc).Pairwise (fun a b => lexC a b = true) ∧ (∀ x, x ∈ P.foldl (stpM O) acc ↔ x ∈ acc ∨ (x ∈ P ∧ mostE O x = true)) ∧ (P.foldl (stpM O) acc).length ≤ acc.length + P.length
  | [], acc, h1, _, _, _, _ => ⟨h1, fun x => by simp, Nat.le_refl _⟩
  | c :: P, acc, h1, h2, h3, h4, h5 => by
    obtain ⟨h6, h7⟩ := List.nodup_cons.1 h4
    rw [List.foldl_cons]
    have hc := h3 c (by simp)
    unfold stpM
    by_cases hm : mostE O c = true
    · rw [if_pos hm]
      obtain ⟨r1, r2, r3⟩ := mx_all O P (insS c acc) (ins_srt hc acc h1 h2 fun x hx e => h5 x hx (by rw [e]; simp)) (fun x hx => by
        rcases (ins_mem c x acc).1 hx with e | e
        · rw [e]; exact hc
        · exact h2 x e) (fun x hx => h3 x (List.mem_cons_of_mem _ hx)) h7 (fun x hx hp => by
        rcases (ins_mem c x acc).1 hx with e | e
        · exact h6 (e ▸ hp)
        · exact h5 x e (List.mem_cons_of_mem _ hp))
      refine ⟨r1, fun x => ?_, by rw [ins_len] at r3; rw [List.length_cons]; unfold stpM at r3; omega⟩
      have r4 := r2 x
      unfold stpM at r4
      rw [r4, ins_mem, List.mem_cons]
      constructor
      · rintro ((e | e) | e)
        · exact .inr ⟨.inl e, by rw [e]; exact hm⟩
        · exact .inl e
        · exact .inr ⟨.inr e.1, e.2⟩
      · rintro (e | ⟨e | e, e2⟩)
        · exact .inl (.inr e)
        · exact .inl (.inl e)
        · exact .inr ⟨e, e2⟩
    · rw [if_neg hm]
      obtain ⟨r1, r2, r3⟩ := mx_all O P acc h1 h2 (fun x hx => h3 x (List.mem_cons_of_mem _ hx)) h7 (fun x hx hp => h5 x hx (List.mem_cons_of_mem _ hp))
      refine ⟨r1, fun x => ?_, by rw [List.length_cons]; unfold stpM at r3; omega⟩
      have r4 := r2 x
      unfold stpM at r4
      rw [r4, List.mem_cons]
      constructor
      · rintro (e | e)
        · exact .inl e
        · exact .inr ⟨.inr e.1, e.2⟩
      · rintro (e | ⟨e | e, e2⟩)
        · exact .inl e
        · exact absurd (e ▸ e2) hm
        · exact .inr ⟨e, e2⟩
theorem mx_len {O P : List Cap} (hn : ∀ x ∈ P, NrmC x) (hN : P.Nodup) : (mxL O P).length ≤ P.length := by
  unfold mxL
  have := (mx_all O P [] List.Pairwise.nil (fun x hx => by cases hx) hn hN (fun x hx => by cases hx)).2.2
  simpa using this
theorem mx_grt {O : List Cap} (hn : ∀ x ∈ O, NrmC x) (hN : O.Nodup) : GrtL (fun x => x ∈ O) (mxL O O) := by
  obtain ⟨r1, r2, _⟩ := mx_all O O [] List.Pairwise.nil (fun x hx => by cases hx) hn hN (fun x hx => by cases hx)
  unfold mxL
  refine ⟨r1, fun x => (r2 x).trans ?_⟩
  constructor
  · rintro (h | ⟨h1, h2⟩)
    · cases h
    · refine ⟨h1, fun y hy hu => ?_⟩
      unfold mostE at h2
      have h3 := List.all_eq_true.1 h2 y hy
      rw [underR_under, hu] at h3
      simpa using h3
  · rintro ⟨h1, h2⟩
    refine .inr ⟨h1, ?_⟩
    unfold mostE
    refine List.all_eq_true.2 fun y hy => ?_
    rw [underR_under]
    cases hu : underC x y with
    | false => simp
    | true => simp [h2 y hy hu]

end Go.Proofs.Ytlapemeoffpmgaa
