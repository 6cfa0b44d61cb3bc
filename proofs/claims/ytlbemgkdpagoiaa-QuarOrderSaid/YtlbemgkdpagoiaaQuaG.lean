/- Layer 13: the document's All. -/
import Derived.Test.YtlbemgkdpagoiaaQuaF
import Derived.Deep.Upon
namespace Go.Proofs.Ytlbemgkdpagoiaa
set_option linter.unusedSimpArgs false
set_option linter.unusedVariables false
open Go.RowKit

theorem wpList_append_nothing {P : Program} {w : World} {ops : Array Oper} {rest : List Oper} {o : Oper} {a : Act} {Q : Exit → Act → World → Prop} (hgd : o.guard = none) (s x : Operand) (t : TypeId)
    (ho : o.op = .call { callee := .builtin .append, args := #[s, x], argTypes := #[t, t] }) (e : TypeId) (i : TypeInfo) (ht : P.underlying t = some (.slice e)) (hi : P.info? e = some i)
    (base : Option Addr) (n cap c : Nat) (hle : n ≤ cap) (hs : a.eval s = .slice base n cap) (hx : a.eval x = .slice none 0 c)
    (h : wpList P ops Q rest (a.put o.dst (.slice base n cap)) w) : wpList P ops Q (o :: rest) a w :=
  wpList_plain hgd fun K hK => by
    have hr := run_append_nothing (P := P) w t t o.type e i ht hi base n cap hle (.slice none 0 c) (Src.ofNil w ht c)
    unfold Oper.wp execOp
    simp only [ho, resolve, invoke, builtin, Sem.run_bind, Sem.run_pure, Result.andThen_ok, List.map_toArray, List.map_cons, List.map_nil, hs, hx, hr]
    exact hK _ _ h
set_option maxRecDepth 100000 in
set_option maxHeartbeats 4000000 in
theorem rqall_ (q base : Nat) (full : Int) (v : Value) (l : List Hd) (w : World) (h : Rq w q base full v l) (hl : l.length ≤ 1000000) : Calls Try.prog 23 #[.pointer (some ⟨q, 0, none⟩)] w fun e w' => ∃ v', e = .returned v' ∧ Hid (w'.ownsRow w.heap.size 29 3 v' l.length (hdList l)) ∧ Ext w w' := by
  obtain ⟨A, ca, rfl, hca, hnone⟩ := h.2.2.2.1.shape
  obtain ⟨hq, ⟨a0, a1⟩, _, ho, _⟩ := h
  have HO := hid ho
  clear ho
  obtain ⟨i0, z0, hi0, hz0, hz1, hz2, hz3⟩ := held_info
  obtain ⟨n, hn⟩ : ∃ n, l.length = n := ⟨_, rfl⟩
  rw [hn] at a1 hca hl
  have HN := hid hn
  clear hn
  rcases A with _ | a
  · have hc0 := hnone rfl
    obtain rfl : n = 0 := by omega
    obtain rfl : l = [] := List.eq_nil_of_length_eq_zero HN.out
    go_enter Try.func23, Try.ntmps23
    go_wp2_with (at_builtin; refine wpList_append_nothing rfl _ _ 33 rfl 29 i0 Try.underlying33 hi0 _ 0 0 ca (Nat.le_refl _) rfl rfl ?_)
    go_ret
    exact ⟨_, rfl, hid (owns_empty w 29 3), (by repeat (first | (with_reducible exact Ext.refl _) | (with_reducible refine Ext.undrew ?_) | (with_reducible refine Ext.grow ?_ _) | (with_reducible refine Ext.drew ?_) | (with_reducible refine Ext.drewN ?_ _) | (with_reducible refine Ext.alloc ?_ _) | (with_reducible assumption) | ((with_reducible refine Ext.setCell ?_ ?_ _); rotate_left; (first | exact Nat.le_refl _ | ((try dsimp only); (try simp only [World.size_alloc, grow_size, World.size_setCell]); omega)))))⟩
  · obtain ⟨ab, ao, rfl⟩ := HO.out.addr (by rw [HN.out])
    go_enter Try.func23, Try.ntmps23
    go_wp2_with (at_builtin; refine wpList_append_own _ rfl _ _ 33 rfl w.heap.size 29 i0 z0 3 24 Try.underlying33 hi0 hz0 hz2 hz3 hz1 (by decide) _ _ _ rfl (owns_empty w 29 3) ⟨ab, ao, none⟩ n ca (hdList l) rfl (by rw [hdList_length, HN.out]) ?c1 (hdList_ones l) ?c3 ?c4 ?c5 ?_)
    case c1 =>
      intro j u hj
      have hjl := (List.getElem?_eq_some_iff.1 hj).1
      rw [hdList_length] at hjl
      obtain ⟨g, o, e, _, hg, hcell, _⟩ := HO.out.at_ (by rw [HN.out]) (by omega)
      simp only [Option.some.injEq, Addr.mk.injEq, and_true] at e
      obtain ⟨rfl, rfl⟩ := e
      rw [Addr.add_lit]
      rw [(Ext.alloc (Ext.refl w) _).cells ab _ hg]
      exact hcell j u hj
    case c3 => unfold maxLen; omega
    case c4 => omega
    (try case c5 => first | omega | simp)
    intro v' w1 hown1 hgrow _
    (try simp only [Nat.zero_add, List.nil_append] at hown1)
    have hx : Ext w w1 := Ext.only (Ext.alloc (Ext.refl w) _) (grownOnly (S := fun i => i = w.heap.size) hgrow (fun g hg => by simpa [Value.ownBlock, eq_comm] using hg)) (by rintro i rfl; exact Nat.le_refl _)
    have hown1 := hid (by rw [HN.out]; exact hown1 : w1.ownsRow w.heap.size 29 3 v' l.length (hdList l))
    clear hgrow
    go_wp2
    go_ret
    exact ⟨_, rfl, hown1, hx⟩

end Go.Proofs.Ytlbemgkdpagoiaa
