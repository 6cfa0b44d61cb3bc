/- Layer 6: what the greatest answer (values). -/
import Derived.Test.YtlapemeoffpmgaaCloTv
import Derived.Test.YtlapemeoffpmgaaCloW
import Derived.Test.YtlapemeoffpmgaaCloD
namespace Go.Proofs.Ytlapemeoffpmgaa
set_option linter.unusedSimpArgs false
set_option linter.unusedVariables false
open Go.RowKit

theorem auth_mono {x y : Cap} (hx : NrmC x) (hy : NrmC y) {p k : Int} (h : authC x p k = true) (hu : underC x y = true) : authC y p k = true := by
  have b1 := rightC_bd hx.2.1
  have b2 := rightC_bd hy.2.1
  have t1 := b1.2.2.2.2.2.2.2.2.2.2 hx.1
  have t2 := b2.2.2.2.2.2.2.2.2.2.2 hy.1
  have u := underC_bd hu
  simp only [authC, Bool.and_eq_true] at h ⊢
  refine ⟨hasB_trans u.2.2.2.2.2 h.1, ?_⟩
  have h2 := h.2
  simp only [inC, Bool.and_eq_true, decide_eq_true_eq] at h2 ⊢
  obtain ⟨⟨⟨⟨h3, h4⟩, h5⟩, h6⟩, h7⟩ := h2
  rw [wrap64_id (by omega) (by omega)] at h7
  refine ⟨⟨⟨⟨h3, h4⟩, by omega⟩, by omega⟩, ?_⟩
  rw [wrap64_id (by omega) (by omega)]
  omega
/-- Above each there is a greatest. -/
theorem above {F : List Cap} (hF : ∀ x ∈ F, NrmC x) : ∀ (n : Nat) (x : Cap), x ∈ F → (F.filter (underC x)).length ≤ n → ∃ y ∈ F, underC x y = true ∧ ∀ z ∈ F, underC y z = true → z = y
  | 0, x, hx, hn => by
    have h1 : x ∈ F.filter (underC x) := List.mem_filter.2 ⟨hx, underC_refl (hF x hx).2.1 (hF x hx).1⟩
    have := List.length_pos_of_mem h1
    omega
  | n + 1, x, hx, hn => by
    by_cases hm : ∀ z ∈ F, underC x z = true → z = x
    · exact ⟨x, hx, underC_refl (hF x hx).2.1 (hF x hx).1, hm⟩
    · obtain ⟨z, hz⟩ := Classical.not_forall.1 hm
      obtain ⟨hzF, hz⟩ := Classical.not_imp.1 hz
      obtain ⟨hzu, hzn⟩ := Classical.not_imp.1 hz
      have hsub : F.filter (underC z) = (F.filter (underC x)).filter (underC z) := by
        rw [List.filter_filter]
        refine List.filter_congr fun y _ => ?_
        cases h : underC z y with
        | false => rfl
        | true => rw [underC_trans hzu h]; rfl
      have hlt : (F.filter (underC z)).length < (F.filter (underC x)).length := by
        rw [hsub]
        refine List.length_filter_lt_length_iff_exists.2 ⟨x, List.mem_filter.2 ⟨hx, underC_refl (hF x hx).2.1 (hF x hx).1⟩, fun h => hzn ?_⟩
        obtain ⟨e1, e2, e3⟩ := underC_anti h hzu
        exact nrm_eq (hF z hzF) (hF x hx) e1 e2 e3
      obtain ⟨y, hy, h1, h2⟩ := above hF n z hzF (by omega)
      exact ⟨y, hy, underC_trans hzu h1, h2⟩
theorem any_grt {F out : List Cap} (hF : ∀ x ∈ F, NrmC x) (hg : GrtL (fun x => x ∈ F) out) (q : Cap → Bool) (hq : ∀ x ∈ F, ∀ y ∈ F, q x = true → underC x y = true → q y = true) : out.any q = F.any q := by
  rw [Bool.eq_iff_iff, List.any_eq_true, List.any_eq_true]
  constructor
  · rintro ⟨x, hx, h⟩; exact ⟨x, ((hg.mem x).1 hx).1, h⟩
  · rintro ⟨x, hx, h⟩
    obtain ⟨y, hy, h1, h2⟩ := above hF _ x hx (Nat.le_refl _)
    exact ⟨y, (hg.mem y).2 ⟨hy, h2⟩, hq x hx y hy h h1⟩
theorem any_same {F O : List Cap} (h : ∀ x, x ∈ O ↔ x ∈ F) (q : Cap → Bool) : O.any q = F.any q := by
  rw [Bool.eq_iff_iff, List.any_eq_true, List.any_eq_true]
  constructor
  · rintro ⟨x, hx, hh⟩; exact ⟨x, (h x).1 hx, hh⟩
  · rintro ⟨x, hx, hh⟩; exact ⟨x, (h x).2 hx, hh⟩
theorem has_any {G O F : List Cap} {c : Cap} (h1 : O.any (underC c) = F.any (underC c)) (h2 : (O.any fun d => authC d 32 c.type) = F.any fun d => authC d 32 c.type) : hasS G O c = hasS G F c := by
  unfold hasS slbC
  rw [h1, h2]
theorem has_grt {G F out : List Cap} (hF : ∀ x ∈ F, NrmC x) (hg : GrtL (fun x => x ∈ F) out) (c : Cap) : hasS G out c = hasS G F c :=
  has_any (any_grt hF hg _ fun x _ y _ h hu => underC_trans h hu) (any_grt hF hg _ fun x hx y hy h hu => auth_mono (hF x hx) (hF y hy) h hu)
theorem ty_any {O F : List Cap} {p : Int} (h : ∀ k : Nat, (O.any fun d => authC d p k) = F.any fun d => authC d p k) : tyN O p = tyN F p := by
  unfold tyN
  refine List.filter_congr fun k _ => ?_
  rw [h k]
theorem ty_grt {F out : List Cap} (hF : ∀ x ∈ F, NrmC x) (hg : GrtL (fun x => x ∈ F) out) (p : Int) : tyN out p = tyN F p :=
  ty_any fun k => any_grt hF hg _ fun x hx y hy h hu => auth_mono (hF x hx) (hF y hy) h hu

end Go.Proofs.Ytlapemeoffpmgaa
