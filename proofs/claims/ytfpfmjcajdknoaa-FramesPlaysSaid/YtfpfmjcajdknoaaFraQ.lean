/- Layer 19: what the walks of laws need. -/
import Derived.Test.YtfpfmjcajdknoaaFraP
namespace Go.Proofs.Ytfpfmjcajdknoaa
set_option linter.unusedSimpArgs false
set_option linter.unusedVariables false
open Go.RowKit

open Go.Deep Go.RowKit
theorem FOp.one (z : FOp) : z.cells.toArray.all (·.oneCell') = true := all_oneCell_toArray (fun v hv => by
  simp only [FOp.cells, List.mem_cons, List.mem_append, List.not_mem_nil, or_false] at hv
  rcases hv with rfl | h | h | rfl
  · rfl
  · exact capsList_one _ _ v h
  · exact cells_one _ v h
  · rfl)
theorem capsS_ (q base : Nat) (v : Value) (n : Nat) (L : Nat → Cap) (w : World) (h : Stk w q base v n L) (hn : n ≤ 100000) :
    Calls Try.prog 12 #[.pointer (some ⟨q, 0, none⟩)] w fun e w' => ∃ A ca, e = .returned (.slice A (n * 5) ca) ∧ Hid (RdC w' A (n * 5) L) ∧ Ext w w' := by
  refine (caps_ q base v n L w h hn).mono ?_
  rintro e w' ⟨v', rfl, ho, hx⟩
  obtain ⟨A, ca, rfl, hr, _, hc⟩ := owns_caps ho.out
  exact ⟨A, ca, rfl, hid hr, hx⟩
theorem ownsRow_shrink {w : World} {base g m cap : Nat} {e : TypeId} {L : Nat → Cap} (h : w.ownsRow base e 30 (.slice (some ⟨g, 0, none⟩) (m + 1) cap) (m + 1) (capsList ((m + 1) * 5) L)) : w.ownsRow base e 30 (.slice (some ⟨g, 0, none⟩) m cap) m (capsList (m * 5) L) := by
  refine ⟨by rw [capsList_length]; omega, ?_⟩
  rcases h.2 with ⟨h0, _⟩ | ⟨g', cap', cur, hv, hbg, hg, hn, hm, hs, ht⟩
  · cases h0
  · cases hv
    refine .inr ⟨g, cap, cur, rfl, hbg, hg, by omega, hm, hs, ?_⟩
    have e : (capsList ((m + 1) * 5) L).take (m * 30) = capsList (m * 5) L := by
      apply List.ext_getElem?
      intro j
      rw [List.getElem?_take]
      by_cases hj : j < m * 30
      · rw [if_pos hj]
        have e1 := capsList_at ((m + 1) * 5) L (j / 6) (j % 6) (by omega) (by omega)
        have e2 := capsList_at (m * 5) L (j / 6) (j % 6) (by omega) (by omega)
        rw [show j / 6 * 6 + j % 6 = j by omega] at e1 e2
        rw [e1, e2]
      · rw [if_neg hj, List.getElem?_eq_none (by rw [capsList_length]; omega)]
    rw [← e, ← ht, List.take_take, Nat.min_eq_left (by omega)]
theorem ownsRow_row {w : World} {base g n cap : Nat} {e : TypeId} {L : Nat → Cap} (h : w.ownsRow base e 30 (.slice (some ⟨g, 0, none⟩) n cap) n (capsList (n * 5) L)) {m : Nat} (hm : m < n) : Rng w g (m * 30) (rowCells L m) :=
  ⟨(h.lt g rfl).2, fun j v hj => by
    have hlt := (List.getElem?_eq_some_iff.1 hj).1
    rw [rowCells_length] at hlt
    rw [h.cellAt (m * 30 + j) (by omega)]
    exact rowCells_at L n m hm j v hj⟩
theorem wpList_build1 {P : Program} {ops : Array Oper} {rest : List Oper} {o : Oper} {a : Act} {w : World} {Q : Exit → Act → World → Prop} (hgd : o.guard = none) (t e : TypeId) (x : Operand) (ho : o.op = .buildSlice t 1 #[(0, x)])
    (cs : Array Value) (s : Nat) (hx : a.eval x = .agg cs) (hs : cs.size = s) (h0 : 0 < s) (h1 : s ≤ 1000)
    (hu : P.underlying t = some (.slice e)) (hi : (P.info? e).map (·.size) = some s) (hz : ((P.info? e).bind (·.zero)).map (·.cells.size) = some s)
    (h : wpList P ops Q rest (a.put o.dst (.slice (some ⟨w.heap.size, 0, none⟩) 1 1)) (w.alloc (.cells cs e))) : wpList P ops Q (o :: rest) a w :=
  wpList_plain hgd fun _ hK => wp_build1 t e x ho cs s hx hs h0 h1 hu hi hz (hK _ _ h)
theorem owns_apart {w : World} {base base' : Nat} {e e' : TypeId} {size size' n n' : Nat} {v v' : Value} {xs xs' : List Value} (h : w.ownsRow base e size v n xs) (h' : w.ownsRow base' e' size' v' n' xs') (he : e ≠ e') : ∀ g, v.ownBlock = some g → ¬ v'.ownBlock = some g := by
  intro g hg hg'
  rcases h.2 with ⟨h0, _⟩ | ⟨g1, c1, cur1, hv1, _, h1, _⟩
  · rw [h0] at hg; cases hg
  · rcases h'.2 with ⟨h0, _⟩ | ⟨g2, c2, cur2, hv2, _, h2, _⟩
    · rw [h0] at hg'; cases hg'
    · rw [hv1] at hg
      rw [hv2] at hg'
      have e1 : g1 = g := by simpa [Value.ownBlock] using hg
      have e2 : g2 = g := by simpa [Value.ownBlock] using hg'
      subst e1
      subst e2
      rw [h1] at h2
      simp only [Option.some.injEq, Obj.cells.injEq] at h2
      exact he h2.2.1
theorem frame_info2 : ∃ i z, Try.prog.info? 32 = some i ∧ i.zero = some z ∧ z.cells.size = 30 ∧ i.size = 30 ∧ i.bytes = 240 := by
  have h : (Try.prog.info? 32).map (fun i => (i.zero.map (fun z => z.cells.size), i.size, i.bytes)) = some (some 30, 30, 240) := by kernel_rfl
  cases hq : Try.prog.info? 32 with
  | none => simp [hq] at h
  | some i =>
    cases hz : i.zero with
    | none => simp [hq, hz] at h
    | some z => exact ⟨i, z, rfl, hz, by simpa [hq, hz] using h⟩

end Go.Proofs.Ytfpfmjcajdknoaa
