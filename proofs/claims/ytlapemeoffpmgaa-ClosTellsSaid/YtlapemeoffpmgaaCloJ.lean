/- Layer 6: what is made of what a set has (values). -/
import Derived.Test.YtlapemeoffpmgaaCloH
import Derived.Test.YtlapemeoffpmgaaCloU
import Derived.Test.YtlapemeoffpmgaaCloMm
namespace Go.Proofs.Ytlapemeoffpmgaa
set_option linter.unusedSimpArgs false
set_option linter.unusedVariables false
open Go.RowKit

theorem grB_iff {c g : Cap} : grB c g = true ↔ g.tag = c.tag ∧ g.base = c.base ∧ g.top = c.top ∧ g.perms = c.perms ∧ g.type = c.type := by
  rw [grB_eq]
  simp only [Bool.and_eq_true, beq_iff_eq]
  constructor
  · rintro ⟨⟨⟨⟨h1, h2⟩, h3⟩, h4⟩, h5⟩; exact ⟨h1, h2, h3, h4, h5⟩
  · rintro ⟨h1, h2, h3, h4, h5⟩; exact ⟨⟨⟨⟨h1, h2⟩, h3⟩, h4⟩, h5⟩
theorem under_like {c x o : Cap} (h : underC c o = true) (h1 : x.base = c.base) (h2 : x.top = c.top) (h3 : x.perms = c.perms) : underC x o = true := by
  have b := underC_bd h
  exact underC_mk ⟨by omega, by omega, by omega, by rw [h3]; exact b.2.2.2.2.2⟩
theorem any_like {F : List Cap} {c x : Cap} (h : F.any (underC c) = true) (h1 : x.base = c.base) (h2 : x.top = c.top) (h3 : x.perms = c.perms) : F.any (underC x) = true := by
  obtain ⟨o, ho, hu⟩ := List.any_eq_true.1 h
  exact List.any_eq_true.2 ⟨o, ho, under_like hu h1 h2 h3⟩
theorem any_less {F : List Cap} {c x : Cap} (h : F.any (underC c) = true) (hu : underC x c = true) : F.any (underC x) = true := by
  obtain ⟨o, ho, h1⟩ := List.any_eq_true.1 h
  exact List.any_eq_true.2 ⟨o, ho, underC_trans hu h1⟩
/-- A set's grants, and all that opens. -/
structure SetV (G F : List Cap) : Prop where
  gr : ∀ g ∈ G, g.tag = true ∧ rightC g = true
  op : ∀ x, x ∈ F ↔ Opn G x
theorem auth_up {x y : Cap} (hx : rightC x = true) (hxt : x.tag = true) (hy : rightC y = true) (hyt : y.tag = true) {p k : Int} (h : authC x p k = true) (hu : underC x y = true) : authC y p k = true := by
  have b1 := rightC_bd hx
  have b2 := rightC_bd hy
  have t1 := b1.2.2.2.2.2.2.2.2.2.2 hxt
  have t2 := b2.2.2.2.2.2.2.2.2.2.2 hyt
  have u := underC_bd hu
  simp only [authC, Bool.and_eq_true] at h ⊢
  refine ⟨hasB_trans u.2.2.2.2.2 h.1, ?_⟩
  have h2 := h.2
  simp only [inC, Bool.and_eq_true, decide_eq_true_eq] at h2 ⊢
  obtain ⟨⟨⟨⟨h3, h4⟩, h5⟩, h6⟩, h7⟩ := h2
  rw [wrap64_id (by omega) (by omega)] at h7
  refine ⟨⟨⟨⟨h3, h4⟩, by omega⟩, by omega⟩, ?_⟩
  rw [wrap64_id (by omega) (by omega)]
  omega
section
variable {G F : List Cap} (hs : SetV G F) {c d : Cap}
include hs
theorem SetV.nrm : ∀ x ∈ F, NrmC x := fun x hx => opn_nrm hs.gr ((hs.op x).1 hx)
theorem SetV.right (h : hasS G F c = true) : rightC c = true := by
  have _ := hs
  unfold hasS at h
  simp only [Bool.and_eq_true] at h
  exact h.1
/-- What it has, and isn't sealed, is under an open one. -/
theorem SetV.open_ (h : hasS G F c = true) (ht : c.tag = true) (hk : c.type ≤ 1 ∨ ∃ o ∈ F, authC o 64 c.type = true ∧ 2 ≤ c.type) : F.any (underC c) = true := by
  have h2 := h
  unfold hasS at h2
  simp only [Bool.and_eq_true, Bool.or_eq_true, ht, Bool.not_true, Bool.false_eq_true, false_or] at h2
  obtain ⟨hr, hg | ⟨hu, _⟩⟩ := h2
  · obtain ⟨g, hgG, hgb⟩ := List.any_eq_true.1 hg
    obtain ⟨e1, e2, e3, e4, e5⟩ := grB_iff.1 hgb
    have hgn : g.norm ∈ F := by
      rw [hs.op]
      rcases hk with hk | ⟨o, ho, ha, h2⟩
      · exact .base hgG (by omega)
      · exact .more hgG ((hs.op o).1 ho) (by omega) (by rw [e5]; exact ha)
    have hn := hs.nrm _ hgn
    refine List.any_eq_true.2 ⟨_, hgn, under_like (underC_refl hn.2.1 hn.1) ?_ ?_ ?_⟩
    · exact e2.symm
    · exact e3.symm
    · exact e4.symm
  · exact hu
theorem SetV.has0 {x : Cap} (hr : rightC x = true) (hk : x.type = 0) (h : F.any (underC x) = true) : hasS G F x = true := by
  have _ := hs
  unfold hasS slbC
  rw [hr, h, if_pos hk]
  simp
theorem SetV.has1 {x : Cap} (hr : rightC x = true) (hk : x.type = 1) (hp : hasB x.perms 4 = true) (h : F.any (underC x) = true) : hasS G F x = true := by
  have _ := hs
  unfold hasS slbC
  rw [hr, h, if_neg (by omega), if_pos hk, hp]
  simp
theorem SetV.has2 {x : Cap} (hr : rightC x = true) (hk : 2 ≤ x.type) (hp : (F.any fun o => authC o 32 x.type) = true) (h : F.any (underC x) = true) : hasS G F x = true := by
  have _ := hs
  unfold hasS slbC
  rw [hr, h, if_neg (by omega), if_neg (by omega), hp]
  simp
theorem SetV.zero : hasS G F ⟨false, 0, 0, 0, 0, 0⟩ = true := by
  have _ := hs
  exact hasS_un (by decide) rfl
theorem SetV.auth (h : hasS G F d = true) (ht : d.tag = true) (hk : d.type = 0) {p k : Int} (ha : authC d p k = true) : ∃ o ∈ F, authC o p k = true := by
  obtain ⟨o, ho, hu⟩ := List.any_eq_true.1 (hs.open_ h ht (.inl (by omega)))
  have hn := hs.nrm o ho
  exact ⟨o, ho, auth_up (hs.right h) ht hn.2.1 hn.1 ha hu⟩
theorem SetV.bounds (hc : hasS G F c = true) (n : Int) : hasS G F (boundsC c n) = true := by
  by_cases e : boundsE c n = 0
  · obtain ⟨e1, e2⟩ := bounds_ok e
    have hu := useE0.1 (boundsE0.1 e).1
    exact hs.has0 e2.2.2.1 (by rw [e1]) (any_less (hs.open_ hc hu.2.1 (.inl (by omega))) e2.2.2.2)
  · rw [boundsC, madeC_bad e]; exact hs.zero
theorem SetV.perms (hc : hasS G F c = true) (n : Int) : hasS G F (permsC c n) = true := by
  by_cases e : permsE c n = 0
  · obtain ⟨e1, e2⟩ := perms_ok e
    have hu := useE0.1 (permsE0.1 e).1
    exact hs.has0 e2.2.2.1 (by rw [e1]) (any_less (hs.open_ hc hu.2.1 (.inl (by omega))) e2.2.2.2)
  · rw [permsC, madeC_bad e]; exact hs.zero
theorem SetV.move (hc : hasS G F c = true) (n : Int) (h0 : -9223372036854775808 ≤ n) (h1 : n ≤ 9223372036854775807) : hasS G F (moveC c n) = true := by
  by_cases e : moveE c = 0
  · have hm := moveE0.1 e
    have hb := rightC_bd hm.1
    have hl := low32_bd n h0 h1
    have hr : rightC (moveC c n) = true := by
      rw [move_eq e]
      exact rightC_mk ⟨hb.1, hb.2.1, hb.2.2.1, hb.2.2.2.1, hl.1, hl.2, hb.2.2.2.2.2.2.1, hb.2.2.2.2.2.2.2.1, hb.2.2.2.2.2.2.2.2.1, hb.2.2.2.2.2.2.2.2.2.1, hb.2.2.2.2.2.2.2.2.2.2⟩
    cases ht : c.tag with
    | false => exact hasS_un hr (by rw [move_eq e]; exact ht)
    | true =>
      have hk := hm.2 ht
      exact hs.has0 hr (by rw [move_eq e]; exact hk) (any_like (hs.open_ hc ht (.inl (by omega))) (by rw [move_eq e]) (by rw [move_eq e]) (by rw [move_eq e]))
  · rw [moveC, madeC_bad e]; exact hs.zero
theorem SetV.seal (hc : hasS G F c = true) (hd : hasS G F d = true) : hasS G F (sealC c d) = true := by
  by_cases e : sealE c d = 0
  · obtain ⟨e1, e2⟩ := seal_ok e
    have hu := useE0.1 (sealE0.1 e).1
    have ha := authE0.1 (sealE0.1 e).2
    have hdu := useE0.1 ha.1
    have hk : (sealC c d).type = d.at_ := by rw [e1]
    obtain ⟨o, ho, h4⟩ := hs.auth hd hdu.2.1 hdu.2.2 (p := 32) (k := d.at_) (by simp only [authC, ha.2.1, ha.2.2.1, Bool.and_self])
    exact hs.has2 e2.2.2.1 (by rw [hk]; omega) (List.any_eq_true.2 ⟨o, ho, by rw [hk]; exact h4⟩) (any_less (hs.open_ hc hu.2.1 (.inl (by omega))) e2.2.2.2)
  · rw [sealC, madeC_bad e]; exact hs.zero
theorem SetV.unseal (hc : hasS G F c = true) (hd : hasS G F d = true) : hasS G F (unsealC c d) = true := by
  by_cases e : unsealE c d = 0
  · obtain ⟨e1, e2⟩ := unseal_ok e
    obtain ⟨h1, h2, h3, h4, h5⟩ := unsealE0.1 e
    have ha := authE0.1 h4
    have hdu := useE0.1 ha.1
    obtain ⟨o, ho, h6⟩ := hs.auth hd hdu.2.1 hdu.2.2 (p := 64) (k := d.at_) (by simp only [authC, ha.2.1, ha.2.2.1, Bool.and_self])
    exact hs.has0 e2.2.2.1 (by rw [e1]) (any_less (hs.open_ hc h2 (.inr ⟨o, ho, by rw [← h5]; exact h6, by omega⟩)) e2.2.2.2)
  · rw [unsealC, madeC_bad e]; exact hs.zero
theorem SetV.enter (hc : hasS G F c = true) : hasS G F (enterC c) = true := by
  by_cases e : enterE c = 0
  · obtain ⟨e1, e2⟩ := enter_ok e
    have hu := useE0.1 (enterE0.1 e).1
    exact hs.has1 e2.2.2.1 (by rw [e1]) (by rw [e1]; exact (enterE0.1 e).2) (any_less (hs.open_ hc hu.2.1 (.inl (by omega))) e2.2.2.2)
  · rw [enterC, madeC_bad e]; exact hs.zero
theorem SetV.build (hd : hasS G F d = true) : hasS G F (buildC c d) = true := by
  by_cases e : buildE c d = 0
  · obtain ⟨e1, e2⟩ := build_ok e
    have hb := buildE0.1 e
    have hu := useE0.1 hb.2.1
    exact hs.has0 e2.2.2.1 (by rw [e1]) (any_less (hs.open_ hd hu.2.1 (.inl (by omega))) e2.2.2.2)
  · rw [buildC, madeC_bad e]; exact hs.zero
theorem SetV.asis (hc : hasS G F c = true) : hasS G F (if c.type = 1 then ⟨c.tag, c.base, c.top, c.at_, c.perms, 0⟩ else c) = true := by
  split
  · rename_i hk
    have hr := hs.right hc
    have hb := rightC_bd hr
    have hr2 : rightC ⟨c.tag, c.base, c.top, c.at_, c.perms, 0⟩ = true := rightC_mk ⟨hb.1, hb.2.1, hb.2.2.1, hb.2.2.2.1, hb.2.2.2.2.1, hb.2.2.2.2.2.1, hb.2.2.2.2.2.2.1, hb.2.2.2.2.2.2.2.1, Int.le_refl _, (by show (0 : Int) ≤ 255; decide), hb.2.2.2.2.2.2.2.2.2.2⟩
    cases ht : c.tag with
    | false => rw [ht] at hr2; exact hasS_un hr2 rfl
    | true => rw [ht] at hr2; exact hs.has0 hr2 rfl (any_like (hs.open_ hc ht (.inl (by omega))) rfl rfl rfl)
  · exact hc
/-- Whatever is made of two that it has, it has. -/
theorem SetV.made (hc : hasS G F c = true) (hd : hasS G F d = true) (n k : Int) (h0 : -9223372036854775808 ≤ n) (h1 : n ≤ 9223372036854775807) : hasS G F (madeV c d n k) = true := by
  unfold madeV
  repeat' split
  · exact hs.bounds hc n
  · exact hs.perms hc n
  · exact hs.move hc n h0 h1
  · exact hs.seal hc hd
  · exact hs.unseal hc hd
  · exact hs.enter hc
  · exact hs.build hd
  · rename_i hk; have := hs.asis hc; rw [if_pos hk] at this; exact this
  · exact hc
end

end Go.Proofs.Ytlapemeoffpmgaa
