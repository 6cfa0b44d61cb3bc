/- Layer 6: the set of the open ones (values). -/
import Derived.Test.YtlapemeoffpmgaaCloJb
namespace Go.Proofs.Ytlapemeoffpmgaa
set_option linter.unusedSimpArgs false
set_option linter.unusedVariables false
open Go.RowKit

theorem nrm_norm {x : Cap} (h : NrmC x) : x.norm = x := by
  obtain ⟨t, b, tp, a, p, ty⟩ := x
  obtain ⟨_, _, h3, h4⟩ := h
  simp only at h3 h4
  subst h3 h4
  rfl
theorem opn_self {o : List Cap} (h : ∀ x ∈ o, NrmC x) (x : Cap) : Opn o x ↔ x ∈ o := by
  constructor
  · intro hx
    cases hx with
    | base hg hk => rw [nrm_norm (h _ hg)]; exact hg
    | more hg _ hk _ => have := (h _ hg).2.2.2; omega
  · intro hx
    have := Opn.base (G := o) hx (by have := (h _ hx).2.2.2; omega)
    rwa [nrm_norm (h _ hx)] at this
theorem grants_self {o : List Cap} (h : ∀ x ∈ o, NrmC x) : grantsC o = o := by
  unfold grantsC
  rw [List.filter_eq_self]
  intro x hx
  rw [(h x hx).1, (h x hx).2.1]
  rfl
theorem grt_self {F o : List Cap} (hF : ∀ x ∈ F, NrmC x) (hg : GrtL (fun x => x ∈ F) o) : GrtL (fun x => Opn o x) o := by
  have hn : ∀ x ∈ o, NrmC x := fun x hx => hF x ((hg.mem x).1 hx).1
  refine ⟨hg.srt, fun x => ?_⟩
  rw [opn_self hn]
  constructor
  · intro hx
    exact ⟨hx, fun y hy hu => ((hg.mem x).1 hx).2 y ((hg.mem y).1 ((opn_self hn y).1 hy)).1 hu⟩
  · exact fun h => h.1
theorem has_type0 {G F : List Cap} (hs : SetV G F) {c : Cap} (hk : c.type = 0) : hasS G F c = (rightC c && (!c.tag || F.any (underC c))) := by
  have e : ∀ b : Bool, (b && slbC F c) = b := fun b => by unfold slbC; rw [if_pos hk, Bool.and_true]
  cases hr : rightC c with
  | false => simp [hasS, hr]
  | true =>
    cases ht : c.tag with
    | false => simp [hasS, hr, ht]
    | true =>
      cases hg : G.any (grB c) with
      | true =>
        have h1 : hasS G F c = true := hasS_gr hr hg
        rw [h1, hs.open_ h1 ht (.inl (by omega))]
        rfl
      | false =>
        unfold hasS
        rw [hr, ht, hg, e]
        rfl
/-- The set of a set's open ones has each that it has, and is not sealed. -/
theorem has_open0 {G F o K : List Cap} (hs : SetV G F) (hg : GrtL (fun x => x ∈ F) o) (hk : SetV o K) {c : Cap} (h0 : c.type = 0) : hasS G F c = hasS o K c := by
  have hF := hs.nrm
  have hn : ∀ x ∈ o, NrmC x := fun x hx => hF x ((hg.mem x).1 hx).1
  rw [has_type0 hs h0, has_type0 hk h0]
  have e1 : o.any (underC c) = F.any (underC c) := any_grt hF hg _ fun x _ y _ h hu => underC_trans h hu
  have e2 : K.any (underC c) = o.any (underC c) := any_same (fun x => (hk.op x).trans (opn_self hn x)) _
  rw [e2, e1]

end Go.Proofs.Ytlapemeoffpmgaa
