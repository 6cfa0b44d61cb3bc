/- Layer 6: the set of some grants, as the laws see it. -/
import Derived.Test.YtlapemeoffpmgaaCloHd
import Derived.Test.YtlapemeoffpmgaaCloH
import Derived.Test.YtlapemeoffpmgaaCloJ
import Derived.Test.YtlapemeoffpmgaaCloJb
import Derived.Test.YtlapemeoffpmgaaCloJc
import Derived.Test.YtlapemeoffpmgaaCloMm
import Derived.Test.YtlapemeoffpmgaaCloX
import Derived.Test.YtlapemeoffpmgaaCloTr
namespace Go.Proofs.Ytlapemeoffpmgaa
set_option linter.unusedSimpArgs false
set_option linter.unusedVariables false
open Go.RowKit

/-- A set made of some: what its open ones are, it knows. -/
def StS (W : World) (s : Nat) (l out : List Cap) : Prop := ∃ A cg B co, ClS W s A cg (grantsC l) B co out ∧ GrtL (Opn (grantsC l)) out ∧ (B = none → co = 0) ∧ out.length ≤ l.length + 1 ∧ l.length ≤ 1000
theorem StS.ext {W W1 : World} {s : Nat} {l out : List Cap} (h : StS W s l out) (x : Ext W W1) : StS W1 s l out := by
  obtain ⟨A, cg, B, co, h1, h2⟩ := h
  exact ⟨A, cg, B, co, h1.ext x, h2⟩
/-- What a set of some has. -/
@[irreducible] def hv (l : List Cap) (c : Cap) : Bool := hasS (grantsC l) (foundC (grantsC l)) c
theorem grants_ty (l : List Cap) : ∀ g ∈ grantsC l, 0 ≤ g.type ∧ g.type ≤ 255 := fun g hg => by have := rightC_bd (grantsC_mem hg).2.2; omega
theorem setV (l : List Cap) : SetV (grantsC l) (foundC (grantsC l)) := ⟨fun g hg => (grantsC_mem hg).2, fun x => found_iff (grants_ty l) x⟩
theorem grt_found {l out : List Cap} (h : GrtL (Opn (grantsC l)) out) : GrtL (fun x => x ∈ foundC (grantsC l)) out := h.congr fun x => (found_iff (grants_ty l) x).symm
theorem hv_out {l out : List Cap} (h : GrtL (Opn (grantsC l)) out) (c : Cap) : hasS (grantsC l) out c = hv l c := by
  unfold hv
  exact has_grt (setV l).nrm (grt_found h) c
theorem hv_made {l : List Cap} {c d : Cap} (hc : hv l c = true) (hd : hv l d = true) (n k : Int) (h0 : -9223372036854775808 ≤ n) (h1 : n ≤ 9223372036854775807) : hv l (madeV c d n k) = true := by
  unfold hv at hc hd ⊢
  exact (setV l).made hc hd n k h0 h1
theorem grants_sub {l m : List Cap} (h : ∀ x ∈ l, x ∈ m) : ∀ g ∈ grantsC l, g ∈ grantsC m := fun g hg => by
  obtain ⟨h1, h2, h3⟩ := grantsC_mem hg
  exact List.mem_filter.2 ⟨h g h1, by rw [h2, h3]; rfl⟩
theorem hv_more {l m : List Cap} (h : ∀ x ∈ l, x ∈ m) {c : Cap} (hc : hv l c = true) : hv m c = true := by
  unfold hv at hc ⊢
  exact has_more (setV l) (setV m) (grants_sub h) hc
theorem hv_same {l m : List Cap} (h : ∀ x, x ∈ l ↔ x ∈ m) (c : Cap) : hv l c = hv m c := by
  unfold hv
  exact has_same (setV l) (setV m) (fun g => ⟨grants_sub (fun x => (h x).1) g, grants_sub (fun x => (h x).2) g⟩) c
theorem hv_less {l : List Cap} {c : Cap} (hc : hv l c = true) (ht : c.tag = true) : (l.any fun g => g.tag && (rightC g && underC c g)) = true := by
  unfold hv at hc
  obtain ⟨g, hg, hu⟩ := (setV l).less hc ht
  obtain ⟨h1, h2, h3⟩ := grantsC_mem hg
  exact List.any_eq_true.2 ⟨g, h1, by rw [h2, h3, hu]; rfl⟩
theorem hv_right {l : List Cap} {c : Cap} (hc : hv l c = true) : rightC c = true := by
  unfold hv at hc
  exact (setV l).right hc
theorem out_same {l m out out' : List Cap} (h : ∀ x, x ∈ l ↔ x ∈ m) (h1 : GrtL (Opn (grantsC l)) out) (h2 : GrtL (Opn (grantsC m)) out') : out = out' :=
  h1.unique (h2.congr fun x => (opn_same (fun g => ⟨grants_sub (fun x => (h x).1) g, grants_sub (fun x => (h x).2) g⟩) x).symm)
theorem out_nrm {l out : List Cap} (h : GrtL (Opn (grantsC l)) out) : ∀ x ∈ out, NrmC x := fun x hx => opn_nrm (fun g hg => (grantsC_mem hg).2) ((h.mem x).1 hx).1
theorem out_self {l out out' : List Cap} (h : GrtL (Opn (grantsC l)) out) (h' : GrtL (Opn (grantsC out)) out') : out' = out := by
  have h1 := grt_self (setV l).nrm (grt_found h)
  rw [grants_self (out_nrm h)] at h'
  exact h'.unique h1
theorem hv_open {l out : List Cap} (h : GrtL (Opn (grantsC l)) out) {c : Cap} (hk : c.type = 0) : hv l c = hv out c := by
  unfold hv
  have h2 := setV out
  rw [grants_self (out_nrm h)] at h2 ⊢
  exact has_open0 (setV l) (grt_found h) h2 hk
theorem hv_in {l out : List Cap} (h : GrtL (Opn (grantsC l)) out) {c : Cap} (hc : c ∈ out) : hv l c = true := by
  unfold hv
  have hn := out_nrm h c hc
  exact (setV l).has0 hn.2.1 hn.2.2.2 (List.any_eq_true.2 ⟨c, (found_iff (grants_ty l) c).2 ((h.mem c).1 hc).1, underC_refl hn.2.1 hn.1⟩)
theorem sNew (A : Option Addr) (m ca : Nat) (l : List Cap) (w : World) (hA : RdF Cap.cells w A l) (hm : l.length = m) (hm1 : m ≤ 1000) : Calls Try.prog 11 #[.slice A m ca] w fun e w' => ∃ s out, e = .returned (.pointer (some ⟨s, 0, none⟩)) ∧ Hid (StS w' s l out) ∧ Hid (GrtL (Opn (grantsC l)) out) ∧ Ext w w' := by
  refine (cnew_ m ca A l w hA hm hm1).mono ?_
  rintro e w' ⟨s, A', cg, B, co, out, rfl, HS, HG, HB, HX, HL⟩
  exact ⟨s, out, rfl, hid ⟨A', cg, B, co, HS.out, HG.out, HB.out, by have := HL.out; omega, by omega⟩, HG, HX.out⟩
theorem sHas (t : Bool) (b tp a p ty : Int) {s : Nat} {l out : List Cap} (W : World) (h : StS W s l out) : Calls Try.prog 13 #[.pointer (some ⟨s, 0, none⟩), .agg #[.bool t, .int .i64 b, .int .i64 tp, .int .i64 a, .int .i64 p, .int .i64 ty]] W fun e w' => e = .returned (.bool (hv l ⟨t, b, tp, a, p, ty⟩)) ∧ Ext W w' := by
  obtain ⟨A, cg, B, co, h1, h2, h3, h4, h5⟩ := h
  rw [← hv_out h2]
  exact chas_ t b tp a p ty s A cg _ B co out W h1 (by have := grantsC_len l; omega) (by omega)
theorem sOpen {s : Nat} {l out : List Cap} (W : World) (h : StS W s l out) : Calls Try.prog 16 #[.pointer (some ⟨s, 0, none⟩)] W fun e w' => ∃ A' c', e = .returned (.slice A' out.length c') ∧ Hid (RdF Cap.cells w' A' out) ∧ Hid (out.length ≤ l.length + 1) ∧ Ext W w' := by
  obtain ⟨A, cg, B, co, h1, h2, h3, h4, h5⟩ := h
  refine (copen_ s A cg _ B co out W h1 (by omega) h3).mono ?_
  rintro e w' ⟨A', c', rfl, HO, HX⟩
  exact ⟨A', c', rfl, hid (HO.out.rdF rfl), hid h4, HX.out⟩
theorem sTypes {s : Nat} {l out : List Cap} (p : Int) (W : World) (h : StS W s l out) : Calls Try.prog 19 #[.pointer (some ⟨s, 0, none⟩), .int .i64 p] W fun e w' => ∃ A' c' m, e = .returned (.slice A' m c') ∧ (tyN out p).length = m ∧ Hid (RdF intF w' A' (tyN out p)) ∧ Ext W w' := by
  obtain ⟨A, cg, B, co, h1, h2, h3, h4, h5⟩ := h
  refine (ctypes_ s A cg _ B co out p W h1 (by omega)).mono ?_
  rintro e w' ⟨A', c', m, rfl, hm, HR, HX⟩
  exact ⟨A', c', m, rfl, hm, HR, HX.out⟩
theorem out_apart {l out : List Cap} (h : GrtL (Opn (grantsC l)) out) {i k : Nat} (hi : i < out.length) (hk : k < out.length) (hn : i ≠ k) : underR out[i] out[k] = false := by
  rw [underR_under]
  cases hu : underC out[i] out[k] with
  | false => rfl
  | true =>
    exfalso
    have h1 := ((h.mem out[i]).1 (List.getElem_mem hi)).2 out[k] ((h.mem out[k]).1 (List.getElem_mem hk)).1 hu
    have hs := List.pairwise_iff_getElem.1 h.srt
    rcases Nat.lt_or_gt_of_ne hn with c | c
    · have h2 := hs i k hi hk c
      rw [h1] at h2
      exact lexC_irrefl _ h2
    · have h2 := hs k i hk hi c
      rw [h1] at h2
      exact lexC_irrefl _ h2

end Go.Proofs.Ytlapemeoffpmgaa
