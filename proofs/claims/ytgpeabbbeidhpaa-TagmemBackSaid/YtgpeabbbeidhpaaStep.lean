/- A region that draws its order: what reads is asked of the world at hand. -/
import Derived.Test.YtgpeabbbeidhpaaG
namespace Go.Proofs.Ytgpeabbbeidhpaa
set_option linter.unusedSimpArgs false
set_option linter.unusedVariables false
open Go.RowKit


/-- One walk: what reads as soon as it may, asked of the world at hand; what acts one behind the other. -/
def wpStep (P : Program) (ops : Array Oper) (Q : Exit → Act → World → Prop) : Ord Oper → World → Act → World → Prop
  | .done, _, a, w => Q .normal a w
  | .rd o r, W, a, w => if Region.wanted o (yielded ops a.tmps) then o.quiet P a (Grown W) (fun a' => wpStep P ops Q r W a' w) else wpStep P ops Q r W (a.put o.dst undef) w
  | .ac o r, W, a, w => if Region.wanted o (yielded ops a.tmps) then o.wp P a w (fun a' w' => ∃ W', Ext W W' ∧ Ext W' w' ∧ wpStep P ops Q r W' a' w') Q else wpStep P ops Q r W (a.put o.dst undef) w
  | .br o r o' r', W, a, w =>
    (if Region.wanted o (yielded ops a.tmps) then o.wp P a w (fun a' w' => ∃ W', Ext W W' ∧ Ext W' w' ∧ wpStep P ops Q r W' a' w') Q else wpStep P ops Q r W (a.put o.dst undef) w) ∧
    (if Region.wanted o' (yielded ops a.tmps) then o'.wp P a w (fun a' w' => ∃ W', Ext W W' ∧ Ext W' w' ∧ wpStep P ops Q r' W' a' w') Q else wpStep P ops Q r' W (a.put o'.dst undef) w)
section
variable {P : Program} {ops : Array Oper} {Q : Exit → Act → World → Prop} {a : Act} {W w : World} {o o' : Oper} {r r' : Ord Oper}
theorem wpAnyH_weak {md : Region.Mode} {S T : World → Prop} (hST : ∀ w, S w → T w) : ∀ (fuel : Nat) (listed : Array Bool) (a : Act) (w : World), wpAnyH P md ops Q S fuel listed a w → wpAnyH P md ops Q T fuel listed a w
  | 0, _, _, _, h => h
  | fuel + 1, _, _, _, h => ⟨h.1, fun i hi => wpOp_mono (fun a' w' ⟨h1, h2⟩ => ⟨hST w' h1, wpAnyH_weak hST fuel _ a' w' h2⟩) (h.2 i hi)⟩
theorem step_held {md : Region.Mode} {l : List Oper} (hs : Region.noSelect l.toArray = true) (hQ : ∀ c (a : Act) d v w, Q (.panic c) (a.put d v) w → Q (.panic c) a w) :
    ∀ (order : Ord Nat) (fuel : Nat) (listed : Array Bool) (W : World) (a : Act) (w : World), order.depth ≤ fuel → chainOk md l.toArray order listed = true → Ext W w →
      wpStep P l.toArray Q (order.map (nthOp l)) W a w → wpAnyH P md l.toArray Q (Ext W) fuel listed a w
  | .done, fuel, listed, W, a, w, _, hok, _, h => wpAnyH_done (by simpa [chainOk] using hok) h fuel
  | .rd i r, fuel, listed, W, a, w, hf, hok, hS, h => by
    obtain ⟨fuel, rfl⟩ : ∃ f, fuel = f + 1 := ⟨fuel - 1, by simp [Ord.depth] at hf; omega⟩
    simp only [chainOk, Bool.and_eq_true] at hok
    obtain ⟨⟨⟨hv, hfree⟩, hr⟩, hok⟩ := hok
    have hlen : i < l.length := by
      rcases Nat.lt_or_ge i l.length with h' | h'
      · exact h'
      · simp [h'] at hv
    have ho := nthOp_get l i hlen
    simp only [ho] at hv
    simp only [Ord.map, wpStep] at h
    by_cases hw : Region.wanted (nthOp l i) (yielded l.toArray a.tmps) = true
    · simp only [hw, if_true] at h
      obtain ⟨v, h1, h2⟩ := h
      exact wpAnyH_take ho hs hfree hr (fun c a w h => hQ c a _ _ w h) (yieldsIf_quiet hv hw h1) hS (step_held hs hQ r fuel _ W _ w (by simp [Ord.depth] at hf; omega) hok hS h2)
    · simp only [hw] at h
      exact wpAnyH_take ho hs hfree hr (fun c a w h => hQ c a _ _ w h) (.inr ⟨by simpa using hw, rfl⟩) hS (step_held hs hQ r fuel _ W _ w (by simp [Ord.depth] at hf; omega) hok hS h)
  | .ac i r, fuel, listed, W, a, w, hf, hok, hS, h => by
    obtain ⟨fuel, rfl⟩ : ∃ f, fuel = f + 1 := ⟨fuel - 1, by simp [Ord.depth] at hf; omega⟩
    simp only [chainOk, Bool.and_eq_true, beq_iff_eq, decide_eq_true_eq] at hok
    obtain ⟨⟨hlen, hr⟩, hok⟩ := hok
    simp only [Ord.map, wpStep] at h
    refine wpAnyH_all hr (by simp) fun j hj => ?_
    obtain rfl : j = i := by simpa using hj
    exact wpOp_mono (K := fun a' w' => ∃ W', Ext W W' ∧ Ext W' w' ∧ wpStep P l.toArray Q (r.map (nthOp l)) W' a' w') (fun a' w' ⟨W', h1, h2, h3⟩ => ⟨Ext.trans h1 h2, wpAnyH_weak (fun _ hx => Ext.trans h1 hx) _ _ _ _ (step_held hs hQ r fuel _ W' _ w' (by simp [Ord.depth] at hf; omega) hok h2 h3)⟩) (chain_op (by simpa using hlen) (by split at h <;> first | (rename_i hw; simp only [hw, if_true]; exact h) | (rename_i hw; simp only [hw]; exact ⟨W, Ext.refl W, hS, h⟩)))
  | .br i r k u, fuel, listed, W, a, w, hf, hok, hS, h => by
    obtain ⟨fuel, rfl⟩ : ∃ f, fuel = f + 1 := ⟨fuel - 1, by simp [Ord.depth] at hf; omega⟩
    simp only [chainOk, Bool.and_eq_true, beq_iff_eq, decide_eq_true_eq] at hok
    obtain ⟨⟨⟨⟨hi, hk⟩, hr⟩, hok⟩, hok'⟩ := hok
    simp only [Ord.map, wpStep] at h
    obtain ⟨h1, h2⟩ := h
    refine wpAnyH_all hr (by simp) fun j hj => ?_
    rcases (show j = i ∨ j = k by simpa using hj) with rfl | rfl
    · exact wpOp_mono (K := fun a' w' => ∃ W', Ext W W' ∧ Ext W' w' ∧ wpStep P l.toArray Q (r.map (nthOp l)) W' a' w') (fun a' w' ⟨W', h1, h2, h3⟩ => ⟨Ext.trans h1 h2, wpAnyH_weak (fun _ hx => Ext.trans h1 hx) _ _ _ _ (step_held hs hQ r fuel _ W' _ w' (by simp [Ord.depth] at hf; omega) hok h2 h3)⟩) (chain_op (by simpa using hi) (by split at h1 <;> first | (rename_i hw; simp only [hw, if_true]; exact h1) | (rename_i hw; simp only [hw]; exact ⟨W, Ext.refl W, hS, h1⟩)))
    · exact wpOp_mono (K := fun a' w' => ∃ W', Ext W W' ∧ Ext W' w' ∧ wpStep P l.toArray Q (u.map (nthOp l)) W' a' w') (fun a' w' ⟨W', h1, h2, h3⟩ => ⟨Ext.trans h1 h2, wpAnyH_weak (fun _ hx => Ext.trans h1 hx) _ _ _ _ (step_held hs hQ u fuel _ W' _ w' (by simp [Ord.depth] at hf; omega) hok' h2 h3)⟩) (chain_op (by simpa using hk) (by split at h2 <;> first | (rename_i hw; simp only [hw, if_true]; exact h2) | (rename_i hw; simp only [hw]; exact ⟨W, Ext.refl W, hS, h2⟩)))
/-- The beginning. -/
theorem wp_region_step {id : Nat} {l : List Oper} {l' : Ord Oper} (order : Ord Nat) (hm : P.follows .mixedOrders = true)
    (hok : (Region.noSelect l.toArray && decide (order.depth ≤ l.length) && chainOk .any l.toArray order (Array.replicate l.length false)) = true)
    (hQ : ∀ c (a : Act) d v w, Q (.panic c) (a.put d v) w → Q (.panic c) a w) (hl : order.map (nthOp l) = l')
    (h : ∀ d, wpStep P l.toArray Q l' (Go.Proofs.Ytgpeabbbeidhpaa.grow w d) a (Go.Proofs.Ytgpeabbbeidhpaa.grow w d)) : (Code.region id l.toArray true).wp P Q a w := by
  simp only [Bool.and_eq_true, decide_eq_true_eq] at hok
  obtain ⟨⟨h1, h2⟩, h3⟩ := hok
  subst hl
  refine wp_region_held hm (S := Ext w.drew) ?_
  have e : Go.Proofs.Ytgpeabbbeidhpaa.grow w ⟨#[], w.drawn + 1⟩ = w.drew := by simp only [Go.Proofs.Ytgpeabbbeidhpaa.grow, Array.append_empty]; rfl
  exact step_held h1 hQ order _ _ w.drew _ w.drew (by simpa using h2) (by simpa using h3) (Ext.refl _) (e ▸ h ⟨#[], w.drawn + 1⟩)
theorem step_nil (h : Q .normal a w) : wpStep P ops Q .done W a w := h
theorem step_read (hw : Region.wanted o (yielded ops a.tmps) = true) (h : ∀ K : Act → Prop, (∀ a', wpStep P ops Q r W a' w → K a') → o.quiet P a (Grown W) K) : wpStep P ops Q (.rd o r) W a w := by
  simp only [wpStep, hw, if_true]
  exact h _ fun _ h => h
theorem step_skip (hw : Region.wanted o (yielded ops a.tmps) = false) (h : wpStep P ops Q r W (a.put o.dst undef) w) : wpStep P ops Q (.rd o r) W a w := by
  simp only [wpStep, hw]
  exact h
theorem step_idle (hw : Region.wanted o (yielded ops a.tmps) = false) (h : wpStep P ops Q r W (a.put o.dst undef) w) : wpStep P ops Q (.ac o r) W a w := by
  simp only [wpStep, hw]
  exact h
theorem step_act (hw : Region.wanted o (yielded ops a.tmps) = true) (h : ∀ K : Act → World → Prop, (∀ a' w', (∃ W', Ext W W' ∧ Ext W' w' ∧ wpStep P ops Q r W' a' w') → K a' w') → o.wp P a w K Q) : wpStep P ops Q (.ac o r) W a w := by
  simp only [wpStep, hw, if_true]
  exact h _ fun _ _ h => h
theorem step_br (h : wpStep P ops Q (.ac o r) W a w) (h' : wpStep P ops Q (.ac o' r') W a w) : wpStep P ops Q (.br o r o' r') W a w := ⟨h, h'⟩
theorem step_guard {j : Nat} {want X : Bool} {v : Value} (hg : o.guard = some (j, want)) (hj : yielded ops a.tmps j = some X)
    (h : X = want → ∀ w', Grown W w' → o.quietAt P a (Grown W) w' v) (k : wpStep P ops Q r W (a.put o.dst (guarded X want v)) w) : wpStep P ops Q (.rd o r) W a w := by
  simp only [wpStep]
  rw [wanted_of hg hj]
  by_cases e : X = want
  · subst e
    rw [if_pos (by simp)]
    exact ⟨v, h rfl, by simpa [guarded_self] using k⟩
  · rw [if_neg (by simpa using e)]
    simpa [guarded_not e] using k
end

end Go.Proofs.Ytgpeabbbeidhpaa
