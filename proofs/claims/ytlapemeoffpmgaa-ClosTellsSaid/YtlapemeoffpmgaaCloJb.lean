/- Layer 6: under a grant; more grants (values). -/
import Derived.Test.YtlapemeoffpmgaaCloJ
namespace Go.Proofs.Ytlapemeoffpmgaa
set_option linter.unusedSimpArgs false
set_option linter.unusedVariables false
open Go.RowKit

theorem Opn.src {G : List Cap} {x : Cap} (h : Opn G x) : ∃ g ∈ G, g.norm = x := by
  cases h with
  | base hg _ => exact ⟨_, hg, rfl⟩
  | more hg _ _ _ => exact ⟨_, hg, rfl⟩
theorem Opn.mono {G H : List Cap} (hs : ∀ g ∈ G, g ∈ H) {x : Cap} (h : Opn G x) : Opn H x := by
  induction h with
  | base hg hk => exact .base (hs _ hg) hk
  | more hg _ hk ha ih => exact .more (hs _ hg) ih hk ha
theorem SetV.less {G F : List Cap} (hs : SetV G F) {c : Cap} (h : hasS G F c = true) (ht : c.tag = true) : ∃ g ∈ G, underC c g = true := by
  have h2 := h
  unfold hasS at h2
  simp only [Bool.and_eq_true, Bool.or_eq_true, ht, Bool.not_true, Bool.false_eq_true, false_or] at h2
  obtain ⟨hr, hg | ⟨hu, _⟩⟩ := h2
  · obtain ⟨g, hgG, hgb⟩ := List.any_eq_true.1 hg
    obtain ⟨e1, e2, e3, e4, e5⟩ := grB_iff.1 hgb
    have hn := hs.gr g hgG
    exact ⟨g, hgG, under_like (underC_refl hn.2 hn.1) e2.symm e3.symm e4.symm⟩
  · obtain ⟨o, ho, h3⟩ := List.any_eq_true.1 hu
    obtain ⟨g, hgG, rfl⟩ := ((hs.op o).1 ho).src
    have hb := underC_bd h3
    exact ⟨g, hgG, underC_mk ⟨hb.1, hb.2.2.2.1, hb.2.2.2.2.1, hb.2.2.2.2.2⟩⟩
theorem any_sub {α : Type} {F K : List α} (h : ∀ x ∈ F, x ∈ K) {q : α → Bool} (hq : F.any q = true) : K.any q = true := by
  obtain ⟨x, hx, h1⟩ := List.any_eq_true.1 hq
  exact List.any_eq_true.2 ⟨x, h x hx, h1⟩
theorem has_more {G F H K : List Cap} (hs : SetV G F) (hk : SetV H K) (hsub : ∀ g ∈ G, g ∈ H) {c : Cap} (h : hasS G F c = true) : hasS H K c = true := by
  have hFK : ∀ x ∈ F, x ∈ K := fun x hx => (hk.op x).2 (((hs.op x).1 hx).mono hsub)
  unfold hasS at h ⊢
  simp only [Bool.and_eq_true, Bool.or_eq_true] at h ⊢
  refine ⟨h.1, ?_⟩
  rcases h.2 with h1 | h1 | ⟨h1, h2⟩
  · exact .inl h1
  · exact .inr (.inl (any_sub hsub h1))
  · refine .inr (.inr ⟨any_sub hFK h1, ?_⟩)
    unfold slbC at h2 ⊢
    split
    · rfl
    · split
      · rename_i e0 e1
        rw [if_neg e0, if_pos e1] at h2
        exact h2
      · rename_i e0 e1
        rw [if_neg e0, if_neg e1] at h2
        exact any_sub hFK h2
/-- The same grants, in whatever order: the same answers. -/
theorem has_same {G F H K : List Cap} (hs : SetV G F) (hk : SetV H K) (hsub : ∀ g, g ∈ G ↔ g ∈ H) (c : Cap) : hasS G F c = hasS H K c := by
  rw [Bool.eq_iff_iff]
  exact ⟨has_more hs hk fun g hg => (hsub g).1 hg, has_more hk hs fun g hg => (hsub g).2 hg⟩
theorem opn_same {G H : List Cap} (hsub : ∀ g, g ∈ G ↔ g ∈ H) (x : Cap) : Opn G x ↔ Opn H x :=
  ⟨Opn.mono fun g hg => (hsub g).1 hg, Opn.mono fun g hg => (hsub g).2 hg⟩

end Go.Proofs.Ytlapemeoffpmgaa
