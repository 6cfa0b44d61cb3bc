/- Layer 6: what the document's New makes (values). -/
import Derived.Test.YtlapemeoffpmgaaCloNa
import Derived.Test.YtlapemeoffpmgaaCloR
import Derived.Test.YtlapemeoffpmgaaCloS
import Derived.Test.YtlapemeoffpmgaaCloJb
namespace Go.Proofs.Ytlapemeoffpmgaa
set_option linter.unusedSimpArgs false
set_option linter.unusedVariables false
open Go.RowKit

theorem Row.set1 {w : World} {b j : Nat} {vs : List Value} (h : Row w b 0 vs) (v : Value) : Row (w.setCell ⟨b, j, none⟩ v) b 0 (vs.set j v) := by
  refine ⟨by rw [World.size_setCell]; exact h.lt, fun i u hi => ?_, fun i hi => ?_⟩
  · rw [Nat.zero_add]
    by_cases c : j = i
    · subst c
      have hl : j < vs.length := by have := (List.getElem?_eq_some_iff.1 hi).1; rwa [List.length_set] at this
      rw [List.getElem?_set_self hl] at hi
      cases hi
      have h1 := h.at_ j _ (List.getElem?_eq_getElem hl)
      rw [Nat.zero_add] at h1
      simp [go_sem, h1]
    · rw [List.getElem?_set_ne c] at hi
      have h1 := h.at_ i u hi
      rw [Nat.zero_add] at h1
      simp [go_sem, h1, c]
  · rw [World.frozen?_setCell]
    exact h.free i (by rwa [List.length_set] at hi)
/-- Does it open, by some that are open? -/
def opensB (O : List Cap) (g : Cap) : Bool := decide (g.type ≤ 1) || O.any (ovC 64 g.type)
theorem opens_opn {G O : List Cap} {g : Cap} (hg : g ∈ G) (hO : ∀ x ∈ O, Opn G x) (h : opensB O g = true) : Opn G g.norm := by
  simp only [opensB, Bool.or_eq_true, decide_eq_true_eq] at h
  rcases h with h | h
  · exact .base hg h
  · obtain ⟨o, ho, ha⟩ := List.any_eq_true.1 h
    simp only [ovC, Bool.and_eq_true, decide_eq_true_eq] at ha
    exact .more hg (hO o ho) ha.1.1 ha.2
theorem closed_opn {G O : List Cap} (hO : ∀ x ∈ O, Opn G x) (hc : ∀ g ∈ G, opensB O g = true → g.norm ∈ O) (hty : ∀ g ∈ G, g.type ≤ 255) (x : Cap) : x ∈ O ↔ Opn G x := by
  refine ⟨hO x, fun h => ?_⟩
  induction h with
  | base hg ht => exact hc _ hg (by simp [opensB, ht])
  | @more g o hg ho ht ha ih =>
    refine hc _ hg ?_
    simp only [opensB, Bool.or_eq_true]
    refine .inr (List.any_eq_true.2 ⟨o, ih, ?_⟩)
    simp only [ovC, Bool.and_eq_true, decide_eq_true_eq]
    exact ⟨⟨ht, hty _ hg⟩, ha⟩
theorem opn_len {G O : List Cap} (hn : O.Nodup) (hO : ∀ x ∈ O, Opn G x) : O.length ≤ G.length := by
  have h := List.Nodup.length_le_of_subset hn (l₂ := G.map Cap.norm) fun x hx => by
    obtain ⟨g, hg, e⟩ := (hO x hx).src
    exact List.mem_map.2 ⟨g, hg, e⟩
  rwa [List.length_map] at h
theorem any_mem (O : List Cap) (c : Cap) : O.any (· == c) = decide (c ∈ O) := by
  rw [Bool.eq_iff_iff]
  simp
def lenC (W : World) (s : Nat) : Nat := ((W.cell? ⟨s, 1, none⟩).map lenV).getD 0
theorem NwS.lenC_ {W : World} {s : Nat} {v u : Value} {G O : List Cap} (h : NwS W s v G u O) : lenC W s = O.length := by
  unfold lenC
  rw [h.c1]
  obtain ⟨A, c, e, _⟩ := h.o.shape
  rw [e]
  rfl
theorem NwS.rdG {W : World} {s n c : Nat} {A : Option Addr} {u : Value} {G O : List Cap} (h : NwS W s (.slice A n c) G u O) (hn : G.length = n) : RdF Cap.cells W A G := by
  subst hn
  exact h.g.rdF rfl
theorem NwS.rdO {W : World} {s n c : Nat} {A : Option Addr} {v : Value} {G O : List Cap} (h : NwS W s v G (.slice A n c) O) (hn : O.length = n) : RdF Cap.cells W A O := by
  subst hn
  exact h.o.rdF rfl
def boolN : Value → Nat | .bool true => 1 | _ => 0
/-- What a walk over the grants has made of the open ones. -/
def StpN (mo : Bool) (O O' P : List Cap) : Prop := if mo = true then O.length < O'.length else O' = O ∧ ∀ g ∈ P, opensB O g = true → g.norm ∈ O
theorem StpN.start (O : List Cap) : StpN false O O [] := by
  unfold StpN
  rw [if_neg (by decide)]
  exact ⟨rfl, fun g hg => by cases hg⟩
theorem StpN.no {mo : Bool} {O O' P : List Cap} {g : Cap} (h : StpN mo O O' P) (hg : opensB O' g = true → g.norm ∈ O') : StpN mo O O' (P ++ [g]) := by
  unfold StpN at h ⊢
  split at h
  · rename_i e; rw [if_pos e]; exact h
  · rename_i e
    rw [if_neg e]
    obtain ⟨rfl, h2⟩ := h
    refine ⟨rfl, fun x hx => ?_⟩
    rcases List.mem_append.1 hx with h3 | h3
    · exact h2 x h3
    · obtain rfl := List.mem_singleton.1 h3
      exact hg
theorem StpN.yes {mo : Bool} {O O' P : List Cap} {g : Cap} (h : StpN mo O O' P) (P' : List Cap) : StpN true O (O' ++ [g]) P' := by
  unfold StpN at h ⊢
  rw [if_pos rfl, List.length_append, List.length_singleton]
  split at h
  · omega
  · rw [h.1]; omega

end Go.Proofs.Ytlapemeoffpmgaa
