/- A region that draws its order, with any number of ways. -/
import Derived.Test.YtgpeabbbeidhpaaStep
namespace Go.Proofs.Ytgpeabbbeidhpaa
set_option linter.unusedSimpArgs false
set_option linter.unusedVariables false
open Go.RowKit

/-- An order: done; what reads is taken first; or ways: one that may come up now, or others, until all are told. -/
inductive OrdM (α : Type) where
  | done
  | rd (i : α) (t : OrdM α)
  | way (i : α) (t : OrdM α) (u : OrdM α)
  | stop
def OrdM.map {α β : Type} (f : α → β) : OrdM α → OrdM β
  | .done => .done
  | .rd i t => .rd (f i) (t.map f)
  | .way i t u => .way (f i) (t.map f) (u.map f)
  | .stop => .stop
def OrdM.depth {α : Type} : OrdM α → Nat
  | .done => 0
  | .rd _ t => t.depth + 1
  | .way _ t u => max (t.depth + 1) u.depth
  | .stop => 0
def manyOk (md : Region.Mode) (ops : Array Oper) : OrdM Nat → Array Bool → List Nat → Bool
  | .done, listed, acc => acc.isEmpty && (Region.ready md ops listed).isEmpty
  | .rd i r, listed, acc => acc.isEmpty && ((match ops[i]? with | some o => isValueOp o.op | none => false) && Region.free md ops listed i && (Region.ready md ops listed).contains i && manyOk md ops r (listed.setIfInBounds i true) [])
  | .way i r u, listed, acc => decide (i < ops.size) && (Region.ready md ops listed).contains i && manyOk md ops r (listed.setIfInBounds i true) [] && manyOk md ops u listed (i :: acc)
  | .stop, listed, acc => !acc.isEmpty && (Region.ready md ops listed).all fun i => acc.contains i
def wpMany (P : Program) (ops : Array Oper) (Q : Exit → Act → World → Prop) : OrdM Oper → World → Act → World → Prop
  | .done, _, a, w => Q .normal a w
  | .rd o r, W, a, w => if Region.wanted o (yielded ops a.tmps) then o.quiet P a (Grown W) (fun a' => wpMany P ops Q r W a' w) else wpMany P ops Q r W (a.put o.dst undef) w
  | .way o r u, W, a, w =>
    (if Region.wanted o (yielded ops a.tmps) then o.wp P a w (fun a' w' => ∃ W', Ext W W' ∧ Ext W' w' ∧ wpMany P ops Q r W' a' w') Q else wpMany P ops Q r W (a.put o.dst undef) w) ∧ wpMany P ops Q u W a w
  | .stop, _, _, _ => True
section
variable {P : Program} {ops : Array Oper} {Q : Exit → Act → World → Prop} {a : Act} {W w : World} {o : Oper} {r u : OrdM Oper}
theorem many_held {md : Region.Mode} {l : List Oper} (hs : Region.noSelect l.toArray = true) (hQ : ∀ c (a : Act) d v w, Q (.panic c) (a.put d v) w → Q (.panic c) a w) :
    ∀ (order : OrdM Nat) (listed : Array Bool) (acc : List Nat) (W : World) (a : Act) (w : World), manyOk md l.toArray order listed acc = true → Ext W w →
      wpMany P l.toArray Q (order.map (nthOp l)) W a w → (∀ fuel, order.depth ≤ fuel → acc = [] → wpAnyH P md l.toArray Q (Ext W) fuel listed a w) ∧
        (∀ fuel, order.depth ≤ fuel + 1 → ∀ i r u, (order = .way i r u ∨ order = .stop) → ∀ j, j ∈ Region.ready md l.toArray listed → j ∈ acc ∨ wpOp P l.toArray Q j (fun a' w' => Ext W w' ∧ wpAnyH P md l.toArray Q (Ext W) fuel (listed.setIfInBounds j true) a' w') a w)
  | .done, listed, acc, W, a, w, hok, hS, h => by
    simp only [manyOk, Bool.and_eq_true] at hok
    refine ⟨fun fuel _ _ => wpAnyH_done (by simpa using hok.2) h fuel, fun fuel _ i r u e => ?_⟩
    rcases e with e | e <;> cases e
  | .rd i r, listed, acc, W, a, w, hok, hS, h => by
    refine ⟨fun fuel hf _ => ?_, fun fuel _ i r u e => by rcases e with e | e <;> cases e⟩
    obtain ⟨fuel, rfl⟩ : ∃ f, fuel = f + 1 := ⟨fuel - 1, by simp [OrdM.depth] at hf; omega⟩
    simp only [manyOk, Bool.and_eq_true] at hok
    obtain ⟨_, ⟨⟨hv, hfree⟩, hr⟩, hok⟩ := hok
    have hlen : i < l.length := by
      rcases Nat.lt_or_ge i l.length with h' | h'
      · exact h'
      · simp [h'] at hv
    have ho := nthOp_get l i hlen
    simp only [ho] at hv
    simp only [OrdM.map, wpMany] at h
    by_cases hw : Region.wanted (nthOp l i) (yielded l.toArray a.tmps) = true
    · simp only [hw, if_true] at h
      obtain ⟨v, h1, h2⟩ := h
      exact wpAnyH_take ho hs hfree hr (fun c a w h => hQ c a _ _ w h) (yieldsIf_quiet hv hw h1) hS ((many_held hs hQ r _ [] W _ w hok hS h2).1 fuel (by simp [OrdM.depth] at hf; omega) rfl)
    · simp only [hw] at h
      exact wpAnyH_take ho hs hfree hr (fun c a w h => hQ c a _ _ w h) (.inr ⟨by simpa using hw, rfl⟩) hS ((many_held hs hQ r _ [] W _ w hok hS h).1 fuel (by simp [OrdM.depth] at hf; omega) rfl)
  | .way i r u, listed, acc, W, a, w, hok, hS, h => by
    simp only [manyOk, Bool.and_eq_true, decide_eq_true_eq] at hok
    obtain ⟨⟨⟨hlen, hr⟩, hok1⟩, hok2⟩ := hok
    simp only [OrdM.map, wpMany] at h
    obtain ⟨h1, h2⟩ := h
    have key : ∀ fuel, (OrdM.way i r u).depth ≤ fuel + 1 → ∀ j, j ∈ Region.ready md l.toArray listed → j ∈ acc ∨ wpOp P l.toArray Q j (fun a' w' => Ext W w' ∧ wpAnyH P md l.toArray Q (Ext W) fuel (listed.setIfInBounds j true) a' w') a w := by
      intro fuel hf j hj
      simp only [OrdM.depth] at hf
      have hi : wpOp P l.toArray Q i (fun a' w' => Ext W w' ∧ wpAnyH P md l.toArray Q (Ext W) fuel (listed.setIfInBounds i true) a' w') a w := by
        refine wpOp_mono (K := fun a' w' => ∃ W', Ext W W' ∧ Ext W' w' ∧ wpMany P l.toArray Q (r.map (nthOp l)) W' a' w') (fun a' w' ⟨W', g1, g2, g3⟩ => ⟨Ext.trans g1 g2, wpAnyH_weak (fun _ hx => Ext.trans g1 hx) _ _ _ _ ((many_held hs hQ r _ [] W' _ w' hok1 g2 g3).1 fuel (by omega) rfl)⟩) (chain_op (by simpa using hlen) ?_)
        split at h1
        · rename_i hw
          simp only [hw, if_true]
          exact h1
        · rename_i hw
          simp only [hw]
          exact ⟨W, Ext.refl _, hS, h1⟩
      have hu := (many_held hs hQ u listed (i :: acc) W a w hok2 hS h2).2
      cases u with
      | done => simp [manyOk] at hok2
      | rd i' r' => simp [manyOk] at hok2
      | way i' r' u' =>
        rcases hu fuel (by omega) i' r' u' (.inl rfl) j hj with c | c
        · rcases List.mem_cons.1 c with rfl | c
          · exact .inr hi
          · exact .inl c
        · exact .inr c
      | stop =>
        rcases hu fuel (by omega) i .stop .stop (.inr rfl) j hj with c | c
        · rcases List.mem_cons.1 c with rfl | c
          · exact .inr hi
          · exact .inl c
        · exact .inr c
    refine ⟨fun fuel hf hacc => ?_, fun fuel hf _ _ _ _ => key fuel hf⟩
    subst hacc
    obtain ⟨fuel, rfl⟩ : ∃ f, fuel = f + 1 := ⟨fuel - 1, by simp only [OrdM.depth] at hf; omega⟩
    have hne : Region.ready md l.toArray listed ≠ [] := fun e => by rw [e] at hr; simp at hr
    refine wpAnyH_all rfl hne fun j hj => ?_
    rcases key fuel hf j hj with c | c
    · cases c
    · exact c
  | .stop, listed, acc, W, a, w, hok, hS, h => by
    simp only [manyOk, Bool.and_eq_true] at hok
    obtain ⟨h1, h2⟩ := hok
    refine ⟨fun fuel hf hacc => by subst hacc; simp at h1, fun fuel hf i r u _ j hj => .inl ?_⟩
    simpa using (List.all_eq_true.1 h2) j hj
/-- The beginning. -/
theorem wp_region_many {id : Nat} {l : List Oper} {l' : OrdM Oper} (order : OrdM Nat) (hm : P.follows .mixedOrders = true)
    (hok : (Region.noSelect l.toArray && decide (order.depth ≤ l.length) && manyOk .any l.toArray order (Array.replicate l.length false) []) = true)
    (hQ : ∀ c (a : Act) d v w, Q (.panic c) (a.put d v) w → Q (.panic c) a w) (hl : order.map (nthOp l) = l')
    (h : ∀ d, wpMany P l.toArray Q l' (Go.Proofs.Ytgpeabbbeidhpaa.grow w d) a (Go.Proofs.Ytgpeabbbeidhpaa.grow w d)) : (Code.region id l.toArray true).wp P Q a w := by
  simp only [Bool.and_eq_true, decide_eq_true_eq] at hok
  obtain ⟨⟨h1, h2⟩, h3⟩ := hok
  subst hl
  refine wp_region_held hm (S := Ext w.drew) ?_
  have e : Go.Proofs.Ytgpeabbbeidhpaa.grow w ⟨#[], w.drawn + 1⟩ = w.drew := by simp only [Go.Proofs.Ytgpeabbbeidhpaa.grow, Array.append_empty]; rfl
  exact (many_held h1 hQ order _ [] w.drew _ w.drew (by simpa using h3) (Ext.refl _) (e ▸ h ⟨#[], w.drawn + 1⟩)).1 _ (by simpa using h2) rfl
theorem many_nil (h : Q .normal a w) : wpMany P ops Q .done W a w := h
theorem many_stop : wpMany P ops Q .stop W a w := trivial
theorem many_read (hw : Region.wanted o (yielded ops a.tmps) = true) (h : ∀ K : Act → Prop, (∀ a', wpMany P ops Q r W a' w → K a') → o.quiet P a (Grown W) K) : wpMany P ops Q (.rd o r) W a w := by
  simp only [wpMany, hw, if_true]
  exact h _ fun _ h => h
theorem many_skip (hw : Region.wanted o (yielded ops a.tmps) = false) (h : wpMany P ops Q r W (a.put o.dst undef) w) : wpMany P ops Q (.rd o r) W a w := by
  simp only [wpMany, hw]
  exact h
theorem many_way (hw : Region.wanted o (yielded ops a.tmps) = true) (h : ∀ K : Act → World → Prop, (∀ a' w', (∃ W', Ext W W' ∧ Ext W' w' ∧ wpMany P ops Q r W' a' w') → K a' w') → o.wp P a w K Q) (hu : wpMany P ops Q u W a w) : wpMany P ops Q (.way o r u) W a w := by
  simp only [wpMany, hw, if_true]
  exact ⟨h _ fun _ _ h => h, hu⟩
end

end Go.Proofs.Ytgpeabbbeidhpaa
