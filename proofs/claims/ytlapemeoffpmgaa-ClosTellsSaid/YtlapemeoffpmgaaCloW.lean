/- Layer 6: the greatest, in order (values alone). -/
import Derived.Test.YtlapemeoffpmgaaCloV
namespace Go.Proofs.Ytlapemeoffpmgaa
set_option linter.unusedSimpArgs false
set_option linter.unusedVariables false
open Go.RowKit

def lexC (a b : Cap) : Bool := decide (a.base < b.base) || (decide (a.base = b.base) && (decide (a.top < b.top) || (decide (a.top = b.top) && decide (a.perms < b.perms))))
theorem lexC_iff {a b : Cap} : lexC a b = true ↔ a.base < b.base ∨ a.base = b.base ∧ (a.top < b.top ∨ a.top = b.top ∧ a.perms < b.perms) := by
  simp [lexC]
theorem lexC_irrefl (a : Cap) : ¬ lexC a a = true := by rw [lexC_iff]; omega
theorem lexC_trans {a b c : Cap} (h1 : lexC a b = true) (h2 : lexC b c = true) : lexC a c = true := by rw [lexC_iff] at *; omega
/-- What is open: it stands where it begins, and is not sealed. -/
def NrmC (c : Cap) : Prop := c.tag = true ∧ rightC c = true ∧ c.at_ = c.base ∧ c.type = 0
theorem nrm_eq {a b : Cap} (ha : NrmC a) (hb : NrmC b) (h1 : a.base = b.base) (h2 : a.top = b.top) (h3 : a.perms = b.perms) : a = b := by
  obtain ⟨at1, at2, at3, at4, at5, at6⟩ := a
  obtain ⟨bt1, bt2, bt3, bt4, bt5, bt6⟩ := b
  obtain ⟨a1, _, a2, a3⟩ := ha
  obtain ⟨b1, _, b2, b3⟩ := hb
  simp only at *
  subst a1 b1 a2 b2 a3 b3 h1 h2 h3
  rfl
structure GrtL (X : Cap → Prop) (out : List Cap) : Prop where
  srt : out.Pairwise fun a b => lexC a b = true
  mem : ∀ x, x ∈ out ↔ X x ∧ ∀ y, X y → underC x y = true → y = x
theorem srt_unique : ∀ {l m : List Cap}, l.Pairwise (fun a b => lexC a b = true) → m.Pairwise (fun a b => lexC a b = true) → (∀ x, x ∈ l ↔ x ∈ m) → l = m
  | [], [], _, _, _ => rfl
  | [], b :: m, _, _, h => by have := (h b).2 (by simp); cases this
  | a :: l, [], _, _, h => by have := (h a).1 (by simp); cases this
  | a :: l, b :: m, hl, hm, h => by
    obtain ⟨h1, h2⟩ := List.pairwise_cons.1 hl
    obtain ⟨h3, h4⟩ := List.pairwise_cons.1 hm
    have e : a = b := by
      rcases List.mem_cons.1 ((h a).1 (by simp)) with e | e
      · exact e
      · rcases List.mem_cons.1 ((h b).2 (by simp)) with e2 | e2
        · exact e2.symm
        · exact absurd (lexC_trans (h1 b e2) (h3 a e)) (lexC_irrefl _)
    subst e
    congr 1
    refine srt_unique h2 h4 fun x => ⟨fun hx => ?_, fun hx => ?_⟩
    · rcases List.mem_cons.1 ((h x).1 (by simp [hx])) with e | e
      · subst e; exact absurd (h1 _ hx) (lexC_irrefl _)
      · exact e
    · rcases List.mem_cons.1 ((h x).2 (by simp [hx])) with e | e
      · subst e; exact absurd (h3 _ hx) (lexC_irrefl _)
      · exact e
theorem GrtL.unique {X : Cap → Prop} {l m : List Cap} (hl : GrtL X l) (hm : GrtL X m) : l = m := srt_unique hl.srt hm.srt fun x => (hl.mem x).trans (hm.mem x).symm
theorem GrtL.congr {X Y : Cap → Prop} {l : List Cap} (hl : GrtL X l) (h : ∀ x, X x ↔ Y x) : GrtL Y l := ⟨hl.srt, fun x => (hl.mem x).trans ⟨fun ⟨a, b⟩ => ⟨(h x).1 a, fun y hy => b y ((h y).2 hy)⟩, fun ⟨a, b⟩ => ⟨(h x).2 a, fun y hy => b y ((h y).1 hy)⟩⟩⟩
theorem hasN_le : ∀ p : Nat, p < 128 → ∀ q : Nat, q < 128 → hasB (p : Int) (q : Int) = true → q ≤ p := by decide +kernel
theorem hasB_le {p q : Int} (h : hasB p q = true) : q ≤ p := by
  obtain ⟨⟨p0, p1⟩, q0, q1⟩ := hasB_right h
  obtain ⟨m, rfl⟩ : ∃ m : Nat, p = m := ⟨p.toNat, by omega⟩
  obtain ⟨n, rfl⟩ : ∃ n : Nat, q = n := ⟨q.toNat, by omega⟩
  have := hasN_le m (by omega) n (by omega) h
  omega
/-- The order of the first sort: wider ones first. -/
def ord1 (a b : Cap) : Bool := decide (a.base < b.base) || (decide (a.base = b.base) && (decide (b.top < a.top) || (decide (a.top = b.top) && decide (b.perms < a.perms))))
theorem ord1_iff {a b : Cap} : ord1 a b = true ↔ a.base < b.base ∨ a.base = b.base ∧ (b.top < a.top ∨ a.top = b.top ∧ b.perms < a.perms) := by
  simp [ord1]
theorem ord1_under {a b : Cap} (ha : NrmC a) (hb : NrmC b) (h : ¬ ord1 b a = true) (hu : underC a b = true) : a = b := by
  obtain ⟨h1, h2, h3, h4, _, h5⟩ := underC_bd hu
  have h6 := hasB_le h5
  rw [ord1_iff] at h
  exact nrm_eq ha hb (by omega) (by omega) (by omega)
def keepC (acc : List Cap) (l : List Cap) : List Cap := l.foldl (fun acc c => if acc.any (underC c) then acc else acc ++ [c]) acc
theorem keepC_cons (acc : List Cap) (c : Cap) (l : List Cap) : keepC acc (c :: l) = keepC (if acc.any (underC c) then acc else acc ++ [c]) l := rfl
structure KeepI (P acc : List Cap) : Prop where
  sub : ∀ x ∈ acc, x ∈ P
  cov : ∀ x ∈ P, ∃ y ∈ acc, underC x y = true
  max : ∀ x ∈ acc, ∀ y ∈ P, underC x y = true → y = x
  nd : acc.Nodup
theorem keep_step {P acc : List Cap} {c : Cap} (h : KeepI P acc) (hP : ∀ x ∈ P, NrmC x) (hc : NrmC c) (ho : ∀ x ∈ P, ¬ ord1 c x = true) : KeepI (P ++ [c]) (if acc.any (underC c) then acc else acc ++ [c]) := by
  have hprec : ∀ x ∈ P, underC x c = true → c = x := fun x hx hu => (ord1_under (hP x hx) hc (ho x hx) hu).symm
  by_cases ha : acc.any (underC c) = true
  · rw [if_pos ha]
    obtain ⟨y0, hy0, hu0⟩ := List.any_eq_true.1 ha
    refine ⟨fun x hx => by simp [h.sub x hx], fun x hx => ?_, fun x hx y hy hu => ?_, h.nd⟩
    · rcases List.mem_append.1 hx with hx | hx
      · exact h.cov x hx
      · obtain rfl := List.mem_singleton.1 hx
        exact ⟨y0, hy0, hu0⟩
    · rcases List.mem_append.1 hy with hy | hy
      · exact h.max x hx y hy hu
      · obtain rfl := List.mem_singleton.1 hy
        exact hprec x (h.sub x hx) hu
  · rw [if_neg ha]
    have hn : ∀ y ∈ acc, ¬ underC c y = true := fun y hy hu => ha (List.any_eq_true.2 ⟨y, hy, hu⟩)
    have hself := underC_refl hc.2.1 hc.1
    refine ⟨fun x hx => ?_, fun x hx => ?_, fun x hx y hy hu => ?_, ?_⟩
    · rcases List.mem_append.1 hx with hx | hx
      · simp [h.sub x hx]
      · simp [List.mem_singleton.1 hx]
    · rcases List.mem_append.1 hx with hx | hx
      · obtain ⟨y, hy, hu⟩ := h.cov x hx
        exact ⟨y, by simp [hy], hu⟩
      · obtain rfl := List.mem_singleton.1 hx
        exact ⟨x, by simp, hself⟩
    · rcases List.mem_append.1 hx with hx1 | hx
      · rcases List.mem_append.1 hy with hy | hy
        · exact h.max x hx1 y hy hu
        · obtain rfl := List.mem_singleton.1 hy
          exact hprec x (h.sub x hx1) hu
      · obtain rfl := List.mem_singleton.1 hx
        rcases List.mem_append.1 hy with hy | hy
        · obtain ⟨z, hz, hz2⟩ := h.cov y hy
          exact absurd (underC_trans hu hz2) (hn z hz)
        · exact List.mem_singleton.1 hy
    · rw [List.nodup_append]
      refine ⟨h.nd, by simp, fun a ha2 b hb e => ?_⟩
      obtain rfl := List.mem_singleton.1 hb
      subst e
      exact hn a ha2 hself
theorem keep_all : ∀ (l P acc : List Cap), KeepI P acc → (∀ x ∈ P, NrmC x) → (∀ x ∈ l, NrmC x) → (∀ x ∈ P, ∀ y ∈ l, ¬ ord1 y x = true) → l.Pairwise (fun a b => ¬ ord1 b a = true) → KeepI (P ++ l) (keepC acc l)
  | [], P, acc, h, _, _, _, _ => by rw [List.append_nil]; exact h
  | c :: l, P, acc, h, hP, hl, ho, hs => by
    obtain ⟨h1, h2⟩ := List.pairwise_cons.1 hs
    rw [keepC_cons, show P ++ c :: l = (P ++ [c]) ++ l by simp]
    refine keep_all l _ _ (keep_step h hP (hl c (by simp)) fun x hx => ho x hx c (by simp)) (fun x hx => ?_) (fun x hx => hl x (by simp [hx])) (fun x hx y hy => ?_) h2
    · rcases List.mem_append.1 hx with hx | hx
      · exact hP x hx
      · rw [List.mem_singleton.1 hx]; exact hl c (by simp)
    · rcases List.mem_append.1 hx with hx | hx
      · exact ho x hx y (by simp [hy])
      · rw [List.mem_singleton.1 hx]; exact h1 y hy
/-- What is left of a row that is in the first order, in the second order. -/
theorem keep_grt {l out : List Cap} (hn : ∀ x ∈ l, NrmC x) (hs : l.Pairwise (fun a b => ¬ ord1 b a = true)) (hp : out.Perm (keepC [] l)) (ho : out.Pairwise (fun a b => ¬ lexC b a = true)) : GrtL (fun x => x ∈ l) out := by
  have h := keep_all l [] [] ⟨(fun x hx => nomatch hx), (fun x hx => nomatch hx), (fun x hx => nomatch hx), List.nodup_nil⟩ (fun x hx => nomatch hx) hn (fun x hx => nomatch hx) hs
  rw [List.nil_append] at h
  have hnd : out.Nodup := hp.nodup_iff.2 h.nd
  refine ⟨?_, fun x => ?_⟩
  · refine (hnd.and ho).imp_of_mem ?_
    intro a b ha hb ⟨hne, hlt⟩
    have ha2 := hn a (h.sub a (hp.mem_iff.1 ha))
    have hb2 := hn b (h.sub b (hp.mem_iff.1 hb))
    rw [lexC_iff] at *
    by_cases c1 : a.base = b.base
    · by_cases c2 : a.top = b.top
      · by_cases c3 : a.perms = b.perms
        · exact absurd (nrm_eq ha2 hb2 c1 c2 c3) hne
        · omega
      · omega
    · omega
  · rw [hp.mem_iff]
    constructor
    · intro hx
      exact ⟨h.sub x hx, fun y hy hu => h.max x hx y hy hu⟩
    · rintro ⟨hx, hm⟩
      obtain ⟨y, hy, hu⟩ := h.cov x hx
      rw [← hm y (h.sub y hy) hu]
      exact hy
theorem norm_nrm {g : Cap} (h1 : g.tag = true) (h2 : rightC g = true) : NrmC g.norm := by
  obtain ⟨b0, b1, t0, t1, a0, a1, p0, p1, k0, k1, h⟩ := rightC_bd h2
  refine ⟨h1, rightC_mk ⟨b0, b1, t0, t1, b0, b1, p0, p1, (by show (0 : Int) ≤ 0; decide), (by show (0 : Int) ≤ 255; decide), h⟩, rfl, rfl⟩
theorem opn_nrm {G : List Cap} (hG : ∀ g ∈ G, g.tag = true ∧ rightC g = true) {x : Cap} (h : Opn G x) : NrmC x := by
  cases h with
  | base hg _ => exact norm_nrm (hG _ hg).1 (hG _ hg).2
  | more hg _ _ _ => exact norm_nrm (hG _ hg).1 (hG _ hg).2

end Go.Proofs.Ytlapemeoffpmgaa
