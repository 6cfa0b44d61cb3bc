/- Layer 13: All. -/
import Derived.Test.YtlbemgkdpagoiaaQuaC
namespace Go.Proofs.Ytlbemgkdpagoiaa
set_option linter.unusedSimpArgs false
set_option linter.unusedVariables false
open Go.RowKit

theorem ownsAt.addr {w : World} {base : Nat} {e : TypeId} {size n c : Nat} {a : Addr} {v : Value} {xs : List Value} (h : ownsAt w base e size v n xs) (hv : v = .slice (some a) n c) : ∃ g o, a = ⟨g, o, none⟩ := by
  rcases h.2 with ⟨h1, _⟩ | ⟨g, o, cap, cur, hv2, _⟩
  · rw [hv] at h1; cases h1
  · rw [hv] at hv2
    simp only [Value.slice.injEq, Option.some.injEq] at hv2
    exact ⟨_, _, hv2.1⟩
theorem owns_empty (w : World) (e : TypeId) (size : Nat) : (w.alloc (.cells #[] e)).ownsRow w.heap.size e size (.slice (some ⟨w.heap.size, 0, none⟩) 0 0) 0 [] :=
  ⟨by simp, .inr ⟨w.heap.size, 0, #[], rfl, Nat.le_refl _, heap_alloc_new w _, Nat.le_refl _, by unfold maxLen; omega, by simp, by simp⟩⟩
theorem held_isNil (A : Option Addr) (n c : Nat) (w : World) : (binOp .eql 33 (.slice A n c) (.slice none 0 0)).run Try.prog w = .ok (.bool A.isNone) w := Lib.run_eql_slice_nil w _ _ _ _ _ _ _ Try.underlying33
attribute [local go_sem] held_isNil
theorem hdList_ones (l : List Hd) : ∀ u ∈ hdList l, u.oneCell' = true := by
  intro u hu
  obtain ⟨h, _, hu⟩ := List.mem_flatMap.1 hu
  exact hd_one h u hu
set_option maxRecDepth 100000 in
set_option maxHeartbeats 4000000 in
theorem clone_ (A : Option Addr) (n c : Nat) (l : List Hd) (w : World) (hn : l.length = n) (hb : n ≤ 1000000) (hsrc : ∀ a, A = some a → ∀ j u, (hdList l)[j]? = some u → w.cell? (a.add j) = some u) (hlt : ∀ a, A = some a → 0 < n → a.block < w.heap.size) (hnil : A = none → n = 0) (hA : ∀ a, A = some a → ∃ g o, a = ⟨g, o, none⟩) :
    Calls Try.prog 33 #[.slice A n c] w fun e w' => ∃ v', e = .returned v' ∧ Hid (w'.ownsRow w.heap.size 29 3 v' n (hdList l)) ∧ Ext w w' := by
  obtain ⟨i0, z0, hi0, hz0, hz1, hz2, hz3⟩ := held_info
  have HN := hid hn
  clear hn
  rcases A with _ | a
  · obtain rfl := hnil rfl
    obtain rfl : l = [] := List.eq_nil_of_length_eq_zero HN.out
    go_enter Try.func33, Try.ntmps33
    go_wp2
    go_ret
    exact ⟨_, rfl, hid (World.ownsRow_nil _ _ _ _), (by repeat (first | (with_reducible exact Ext.refl _) | (with_reducible refine Ext.undrew ?_) | (with_reducible refine Ext.grow ?_ _) | (with_reducible refine Ext.drew ?_) | (with_reducible refine Ext.drewN ?_ _) | (with_reducible refine Ext.alloc ?_ _) | (with_reducible assumption) | ((with_reducible refine Ext.setCell ?_ ?_ _); rotate_left; (first | exact Nat.le_refl _ | ((try dsimp only); (try simp only [World.size_alloc, grow_size, World.size_setCell]); omega)))))⟩
  · have HS := hid (hsrc a rfl)
    have HL := hid (hlt a rfl)
    obtain ⟨ab, ao, rfl⟩ := hA a rfl
    clear hsrc hlt hnil hA
    go_enter Try.func33, Try.ntmps33
    go_wp2_with (at_builtin; refine wpList_append_own _ rfl _ _ 33 rfl w.heap.size 29 i0 z0 3 24 Try.underlying33 hi0 hz0 hz2 hz3 hz1 (by decide) _ _ _ rfl (owns_empty w 29 3) ⟨ab, ao, none⟩ n c (hdList l) rfl (by rw [hdList_length, HN.out]) ?c1 (hdList_ones l) ?c3 ?c4 ?c5 ?_)
    case c1 =>
      intro j u hj
      have hl := (List.getElem?_eq_some_iff.1 hj).1
      rw [hdList_length, HN.out] at hl
      have h1 := HS.out j u hj
      have hb2 := HL.out (by omega)
      rw [Addr.add_lit] at h1
      (try rw [Addr.add_lit])
      rw [(Ext.alloc (Ext.refl w) _).cells ab _ hb2]
      exact h1
    case c3 => unfold maxLen; omega
    case c4 => omega
    (try case c5 => first | omega | simp)
    intro v' w1 hown1 hgrow _
    (try simp only [Nat.zero_add, List.nil_append] at hown1)
    have hx : Ext w w1 := Ext.only (Ext.alloc (Ext.refl w) _) (grownOnly (S := fun i => i = w.heap.size) hgrow (fun g hg => by simpa [Value.ownBlock, eq_comm] using hg)) (by rintro i rfl; exact Nat.le_refl _)
    have hown1 := hid hown1
    clear hgrow
    go_wp2
    go_ret
    exact ⟨_, rfl, hown1, hx⟩
set_option maxRecDepth 100000 in
set_option maxHeartbeats 4000000 in
theorem qall_ (q base : Nat) (full bytes : Int) (v : Value) (l : List Hd) (w : World) (h : Qs w q base full bytes v l) (hl : l.length ≤ 1000000) : Calls Try.prog 22 #[.pointer (some ⟨q, 0, none⟩)] w fun e w' => ∃ v', e = .returned v' ∧ Hid (w'.ownsRow w.heap.size 29 3 v' l.length (hdList l)) ∧ Ext w w' := by
  obtain ⟨A, ca, rfl, hca, hnone⟩ := h.2.2.2.1.shape
  obtain ⟨hq, ⟨a0, a1, a2⟩, _, ho, _⟩ := h
  have HO := hid ho
  clear ho
  have hc : ∀ w', w = w' → Calls Try.prog 33 #[.slice A l.length ca] w' fun e w'' => ∃ v', e = .returned v' ∧ Hid (w''.ownsRow w.heap.size 29 3 v' l.length (hdList l)) ∧ Ext w' w'' := by
    rintro w' rfl
    refine clone_ A l.length ca l w rfl hl (fun a ha j u hj => ?_) (fun a ha h0 => ?_) (fun h => by have := hnone h; omega) (fun a ha => HO.out.addr (by rw [ha]))
    · have hlt := (List.getElem?_eq_some_iff.1 hj).1
      rw [hdList_length] at hlt
      obtain ⟨g, o, e, _, _, hcell, _⟩ := HO.out.at_ rfl (by omega)
      rw [ha] at e
      obtain rfl := Option.some.inj e
      rw [Addr.add_lit]
      exact hcell j u hj
    · obtain ⟨g, o, e, _, hg, _⟩ := HO.out.at_ rfl h0
      rw [ha] at e
      obtain rfl := Option.some.inj e
      exact hg
  go_enter Try.func22, Try.ntmps22
  go_wp2_with (go_at_call 33; refine Calls.mono (hc _ rfl) ?_; rintro e w1 ⟨v1, rfl, ho1, hx1⟩)
  go_ret
  exact ⟨v1, rfl, ho1, hx1⟩

end Go.Proofs.Ytlbemgkdpagoiaa
