/- Layer 12: Runs. -/
import Derived.Test.YtkjakaoimbmcjaaExtB
namespace Go.Proofs.Ytkjakaoimbmcjaa
set_option linter.unusedSimpArgs false
set_option linter.unusedVariables false
open Go.RowKit

theorem ownsAt.addr {w : World} {base : Nat} {e : TypeId} {size n c : Nat} {a : Addr} {v : Value} {xs : List Value} (h : ownsAt w base e size v n xs) (hv : v = .slice (some a) n c) : ∃ g o, a = ⟨g, o, none⟩ := by
  rcases h.2 with ⟨h1, _⟩ | ⟨g, o, cap, cur, hv2, _⟩
  · rw [hv] at h1; cases h1
  · rw [hv] at hv2
    simp only [Value.slice.injEq, Option.some.injEq] at hv2
    exact ⟨_, _, hv2.1⟩
theorem owns_empty (w : World) (e : TypeId) (size : Nat) : (w.alloc (.cells #[] e)).ownsRow w.heap.size e size (.slice (some ⟨w.heap.size, 0, none⟩) 0 0) 0 [] :=
  ⟨by simp, .inr ⟨w.heap.size, 0, #[], rfl, Nat.le_refl _, heap_alloc_new w _, Nat.le_refl _, by unfold maxLen; omega, by simp, by simp⟩⟩
theorem pr_isNil (A : Option Addr) (n c : Nat) (w : World) : (binOp .eql 35 (.slice A n c) (.slice none 0 0)).run Try.prog w = .ok (.bool A.isNone) w := Lib.run_eql_slice_nil w _ _ _ _ _ _ _ Try.underlying35
attribute [local go_sem] pr_isNil
theorem pr_info : ∃ i z, Try.prog.info? 38 = some i ∧ i.zero = some z ∧ z.cells.size = 2 ∧ i.size = 2 ∧ i.bytes = 16 ∧ z = .agg #[.int .i64 0, .int .i64 0] := by
  have h : (Try.prog.info? 38).map (fun i => (i.zero, i.size, i.bytes)) = some (some (.agg #[.int .i64 0, .int .i64 0]), 2, 16) := by kernel_rfl
  cases hq : Try.prog.info? 38 with
  | none => simp [hq] at h
  | some i =>
    simp only [hq, Option.map_some, Option.some.injEq, Prod.mk.injEq] at h
    exact ⟨i, _, rfl, h.1, rfl, h.2.1, h.2.2, rfl⟩
theorem grownOnly {S : Nat → Prop} {w w' : World} {row : Option Nat} (h : w.grownBy w' row) (hs : ∀ g, row = some g → S g) : Only S w w' :=
  ⟨h.os, h.tape, h.output, h.size, fun k hk hn => h.block k hk fun e => hn (hs k e.symm)⟩
theorem wp_gen {P : Program} {a : Act} {Q : Exit → Act → World → Prop} {c : Code} {w : World} (I : World → Prop) (hI : I w) (h : ∀ w', I w' → c.wp P Q a w') : c.wp P Q a w := h w hI
theorem Row.new (w : World) (cs : Array Value) (T : TypeId) : Row (w.alloc (.cells cs T)) w.heap.size 0 cs.toList :=
  ⟨by simp, fun j v hj => by simp [go_sem]; simpa using hj, fun j hj => by simp [go_sem]⟩
set_option maxRecDepth 100000 in
set_option maxHeartbeats 4000000 in
theorem clone_ (A : Option Addr) (n c : Nat) (l : List Pr) (w : World) (hn : l.length = n) (hb : n ≤ 1000000) (hsrc : ∀ a, A = some a → ∀ j u, (prList l)[j]? = some u → w.cell? (a.add j) = some u) (hlt : ∀ a, A = some a → 0 < n → a.block < w.heap.size) (hnil : A = none → n = 0) (hA : ∀ a, A = some a → ∃ g o, a = ⟨g, o, none⟩) :
    Calls Try.prog 31 #[.slice A n c] w fun e w' => ∃ v', e = .returned v' ∧ Hid (w'.ownsRow w.heap.size 38 2 v' n (prList l)) ∧ Ext w w' := by
  obtain ⟨i0, z0, hi0, hz0, hz1, hz2, hz3, _⟩ := pr_info
  have HN := hid hn
  clear hn
  rcases A with _ | a
  · obtain rfl := hnil rfl
    obtain rfl : l = [] := List.eq_nil_of_length_eq_zero HN.out
    go_enter Try.func31, Try.ntmps31
    go_wp2
    go_ret
    exact ⟨_, rfl, hid (World.ownsRow_nil _ _ _ _), (by repeat (first | (with_reducible exact Ext.refl _) | (with_reducible refine Ext.undrew ?_) | (with_reducible refine Ext.grow ?_ _) | (with_reducible refine Ext.drew ?_) | (with_reducible refine Ext.drewN ?_ _) | (with_reducible refine Ext.alloc ?_ _) | (with_reducible assumption) | ((with_reducible refine Ext.setCell ?_ ?_ _); rotate_left; (first | exact Nat.le_refl _ | ((try dsimp only); (try simp only [World.size_alloc, grow_size, World.size_setCell]); omega)))))⟩
  · have HS := hid (hsrc a rfl)
    have HL := hid (hlt a rfl)
    obtain ⟨ab, ao, rfl⟩ := hA a rfl
    clear hsrc hlt hnil hA
    go_enter Try.func31, Try.ntmps31
    go_wp2_with (at_builtin; refine wpList_append_own _ rfl _ _ 35 rfl w.heap.size 38 i0 z0 2 16 Try.underlying35 hi0 hz0 hz2 hz3 hz1 (by decide) _ _ _ rfl (owns_empty w 38 2) ⟨ab, ao, none⟩ n c (prList l) rfl (by rw [prList_length, HN.out]) ?c1 (prs_one l) ?c3 ?c4 ?c5 ?_)
    case c1 =>
      intro j u hj
      have hl := (List.getElem?_eq_some_iff.1 hj).1
      rw [prList_length, HN.out] at hl
      have h1 := HS.out j u hj
      have hb2 := HL.out (by omega)
      rw [Addr.add_lit] at h1
      (try rw [Addr.add_lit])
      rw [(Ext.alloc (Ext.refl w) _).cells ab _ hb2]
      exact h1
    case c3 => unfold maxLen; omega
    case c4 => omega
    (try case c5 => first | omega | simp)
    intro v' w1 hown1 hgrow _
    (try simp only [Nat.zero_add, List.nil_append] at hown1)
    have hx : Ext w w1 := Ext.only (Ext.alloc (Ext.refl w) _) (grownOnly (S := fun i => i = w.heap.size) hgrow (fun g hg => by simpa [Value.ownBlock, eq_comm] using hg)) (by rintro i rfl; exact Nat.le_refl _)
    have hown1 := hid hown1
    clear hgrow
    go_wp2
    go_ret
    exact ⟨_, rfl, hown1, hx⟩
set_option maxRecDepth 100000 in
set_option maxHeartbeats 4000000 in
theorem eruns_ (q base : Nat) (fr to : Int) (v : Value) (l : List Pr) (w : World) (h : Fr w q base fr to v l) (hl : l.length ≤ 1000000) : Calls Try.prog 20 #[.pointer (some ⟨q, 0, none⟩)] w fun e w' => ∃ v', e = .returned v' ∧ Hid (w'.ownsRow w.heap.size 38 2 v' l.length (prList l)) ∧ Ext w w' := by
  obtain ⟨A, ca, rfl, hca, hnone⟩ := h.2.2.2.1.shape
  obtain ⟨hq, ⟨a0, a1, a2⟩, _, ho, _⟩ := h
  have HO := hid ho
  clear ho
  have hc : ∀ w', w = w' → Calls Try.prog 31 #[.slice A l.length ca] w' fun e w'' => ∃ v', e = .returned v' ∧ Hid (w''.ownsRow w.heap.size 38 2 v' l.length (prList l)) ∧ Ext w' w'' := by
    rintro w' rfl
    refine clone_ A l.length ca l w rfl hl (fun a ha j u hj => ?_) (fun a ha h0 => ?_) (fun h => by have := hnone h; omega) (fun a ha => HO.out.addr (by rw [ha]))
    · have hlt := (List.getElem?_eq_some_iff.1 hj).1
      rw [prList_length] at hlt
      obtain ⟨g, o, e, _, _, hcell, _⟩ := HO.out.at_ rfl (by omega)
      rw [ha] at e
      obtain rfl := Option.some.inj e
      rw [Addr.add_lit]
      exact hcell j u hj
    · obtain ⟨g, o, e, _, hg, _⟩ := HO.out.at_ rfl h0
      rw [ha] at e
      obtain rfl := Option.some.inj e
      exact hg
  go_enter Try.func20, Try.ntmps20
  go_wp2_with (go_at_call 31; refine Calls.mono (hc _ rfl) ?_; rintro e w1 ⟨v1, rfl, ho1, hx1⟩)
  go_ret
  exact ⟨v1, rfl, ho1, hx1⟩
theorem erunsT (q base : Nat) (fr to : Int) (v : Value) (l : List Pr) (w : World) (h : Fr w q base fr to v l) (hl : l.length ≤ 1000000) : Calls Try.prog 20 #[.pointer (some ⟨q, 0, none⟩)] w fun e w' => ∃ A ca, e = .returned (.slice A l.length ca) ∧ Hid (RdP w' A l) ∧ Ext w w' ∧ Hid (∀ b o, A = some ⟨b, o, none⟩ → w.heap.size ≤ b) := by
  refine (eruns_ q base fr to v l w h hl).mono ?_
  rintro e w' ⟨v', rfl, ho, hx⟩
  have ho := ownsAt_of ho.out
  obtain ⟨A, ca, rfl, _, _⟩ := ho.shape
  exact ⟨A, ca, rfl, hid (ho.rdP rfl), hx, hid (fun b o e => (ho.lt b (by rw [e]; rfl)).1)⟩

end Go.Proofs.Ytkjakaoimbmcjaa
