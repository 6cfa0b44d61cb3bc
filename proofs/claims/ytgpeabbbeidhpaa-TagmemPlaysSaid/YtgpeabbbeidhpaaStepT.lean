/- A region that draws its order, in which one block turns. -/
import Derived.Test.YtgpeabbbeidhpaaH
import Derived.Deep.AppendLies
namespace Go.Proofs.Ytgpeabbbeidhpaa
set_option linter.unusedSimpArgs false
set_option linter.unusedVariables false
open Go.RowKit


/-- What one block became, and what else there is. -/
structure TDelta where
  obj : Obj
  d : Delta
instance : Nonempty TDelta := ⟨⟨default, ⟨#[], 0⟩⟩⟩
/-- The worlds that are one, grown, but for one block. -/
def Turned (q : Nat) (w : World) : World → Prop := fun w' => ∃ x : TDelta, w' = Go.Proofs.Ytgpeabbbeidhpaa.grow (turn w q x.obj) x.d
attribute [go_sem] Turned
theorem Turned.of {q : Nat} {w w' : World} (h : Only (· = q) w w') : Turned q w w' := by
  obtain ⟨o, d, e⟩ := h.turned
  exact ⟨⟨o, d⟩, e⟩
theorem yieldsIf_quietT {q : Nat} {P : Program} {ops : Array Oper} {W : World} {a : Act} {o : Oper} {v : Value} (hv : isValueOp o.op = true) (hw : Region.wanted o (yielded ops a.tmps) = true) (h : ∀ w, Turned q W w → o.quietAt P a (Turned q W) w v) : YieldsIf P ops (Only (· = q) W) o v a := by
  refine .inl ⟨hw, fun w hS => ?_⟩
  have h1 := h w (Turned.of hS)
  unfold Oper.quietAt at h1
  cases hr : (execOp a.eval o).run P w with
  | halt x w' => rw [hr] at h1; exact h1.elim
  | ok n w' =>
    obtain ⟨u, rfl⟩ := execOp_value hv hr
    rw [hr] at h1
    obtain ⟨e1, e2⟩ := h1
    rw [e1, e2]
theorem Only.grownBy {a w w' : World} {v : Value} {g : Nat} (h : Only (· = g) a w) (hg : w.grownBy w' v.ownBlock) (hv : v.ownBlock = some g) : Only (· = g) a w' :=
  h.trans' ⟨hg.os, hg.tape, hg.output, hg.size, fun k hk hs => hg.block k hk (fun e => hs (by rw [hv] at e; exact Option.some.inj e))⟩

/-- One walk: what reads as soon as it may, asked of the world at hand; what acts one behind the other. -/
def wpTurn (q : Nat) (P : Program) (ops : Array Oper) (Q : Exit → Act → World → Prop) : Ord Oper → World → Act → World → Prop
  | .done, _, a, w => Q .normal a w
  | .rd o r, W, a, w => if Region.wanted o (yielded ops a.tmps) then o.quiet P a (Turned q W) (fun a' => wpTurn q P ops Q r W a' w) else wpTurn q P ops Q r W (a.put o.dst undef) w
  | .ac o r, W, a, w => if Region.wanted o (yielded ops a.tmps) then o.wp P a w (fun a' w' => ∃ W', Only (· = q) W W' ∧ Only (· = q) W' w' ∧ wpTurn q P ops Q r W' a' w') Q else wpTurn q P ops Q r W (a.put o.dst undef) w
  | .br o r o' r', W, a, w =>
    (if Region.wanted o (yielded ops a.tmps) then o.wp P a w (fun a' w' => ∃ W', Only (· = q) W W' ∧ Only (· = q) W' w' ∧ wpTurn q P ops Q r W' a' w') Q else wpTurn q P ops Q r W (a.put o.dst undef) w) ∧
    (if Region.wanted o' (yielded ops a.tmps) then o'.wp P a w (fun a' w' => ∃ W', Only (· = q) W W' ∧ Only (· = q) W' w' ∧ wpTurn q P ops Q r' W' a' w') Q else wpTurn q P ops Q r' W (a.put o'.dst undef) w)
section
variable {q : Nat} {P : Program} {ops : Array Oper} {Q : Exit → Act → World → Prop} {a : Act} {W w : World} {o o' : Oper} {r r' : Ord Oper}
theorem wpAnyH_weakT {md : Region.Mode} {S T : World → Prop} (hST : ∀ w, S w → T w) : ∀ (fuel : Nat) (listed : Array Bool) (a : Act) (w : World), wpAnyH P md ops Q S fuel listed a w → wpAnyH P md ops Q T fuel listed a w
  | 0, _, _, _, h => h
  | fuel + 1, _, _, _, h => ⟨h.1, fun i hi => wpOp_mono (fun a' w' ⟨h1, h2⟩ => ⟨hST w' h1, wpAnyH_weakT hST fuel _ a' w' h2⟩) (h.2 i hi)⟩
theorem turn_held {md : Region.Mode} {l : List Oper} (hs : Region.noSelect l.toArray = true) (hQ : ∀ c (a : Act) d v w, Q (.panic c) (a.put d v) w → Q (.panic c) a w) :
    ∀ (order : Ord Nat) (fuel : Nat) (listed : Array Bool) (W : World) (a : Act) (w : World), order.depth ≤ fuel → chainOk md l.toArray order listed = true → Only (· = q) W w →
      wpTurn q P l.toArray Q (order.map (nthOp l)) W a w → wpAnyH P md l.toArray Q (Only (· = q) W) fuel listed a w
  | .done, fuel, listed, W, a, w, _, hok, _, h => wpAnyH_done (by simpa [chainOk] using hok) h fuel
  | .rd i r, fuel, listed, W, a, w, hf, hok, hS, h => by
    obtain ⟨fuel, rfl⟩ : ∃ f, fuel = f + 1 := ⟨fuel - 1, by simp [Ord.depth] at hf; omega⟩
    simp only [chainOk, Bool.and_eq_true] at hok
    obtain ⟨⟨⟨hv, hfree⟩, hr⟩, hok⟩ := hok
    have hlen : i < l.length := by
      rcases Nat.lt_or_ge i l.length with h' | h'
      · exact h'
      · simp [h'] at hv
    have ho := nthOp_get l i hlen
    simp only [ho] at hv
    simp only [Ord.map, wpTurn] at h
    by_cases hw : Region.wanted (nthOp l i) (yielded l.toArray a.tmps) = true
    · simp only [hw, if_true] at h
      obtain ⟨v, h1, h2⟩ := h
      exact wpAnyH_take ho hs hfree hr (fun c a w h => hQ c a _ _ w h) (yieldsIf_quietT hv hw h1) hS (turn_held hs hQ r fuel _ W _ w (by simp [Ord.depth] at hf; omega) hok hS h2)
    · simp only [hw] at h
      exact wpAnyH_take ho hs hfree hr (fun c a w h => hQ c a _ _ w h) (.inr ⟨by simpa using hw, rfl⟩) hS (turn_held hs hQ r fuel _ W _ w (by simp [Ord.depth] at hf; omega) hok hS h)
  | .ac i r, fuel, listed, W, a, w, hf, hok, hS, h => by
    obtain ⟨fuel, rfl⟩ : ∃ f, fuel = f + 1 := ⟨fuel - 1, by simp [Ord.depth] at hf; omega⟩
    simp only [chainOk, Bool.and_eq_true, beq_iff_eq, decide_eq_true_eq] at hok
    obtain ⟨⟨hlen, hr⟩, hok⟩ := hok
    simp only [Ord.map, wpTurn] at h
    refine wpAnyH_all hr (by simp) fun j hj => ?_
    obtain rfl : j = i := by simpa using hj
    exact wpOp_mono (K := fun a' w' => ∃ W', Only (· = q) W W' ∧ Only (· = q) W' w' ∧ wpTurn q P l.toArray Q (r.map (nthOp l)) W' a' w') (fun a' w' ⟨W', h1, h2, h3⟩ => ⟨Only.trans' h1 h2, wpAnyH_weakT (fun _ hx => Only.trans' h1 hx) _ _ _ _ (turn_held hs hQ r fuel _ W' _ w' (by simp [Ord.depth] at hf; omega) hok h2 h3)⟩) (chain_op (by simpa using hlen) (by split at h <;> first | (rename_i hw; simp only [hw, if_true]; exact h) | (rename_i hw; simp only [hw]; exact ⟨W, Only.refl _ W, hS, h⟩)))
  | .br i r k u, fuel, listed, W, a, w, hf, hok, hS, h => by
    obtain ⟨fuel, rfl⟩ : ∃ f, fuel = f + 1 := ⟨fuel - 1, by simp [Ord.depth] at hf; omega⟩
    simp only [chainOk, Bool.and_eq_true, beq_iff_eq, decide_eq_true_eq] at hok
    obtain ⟨⟨⟨⟨hi, hk⟩, hr⟩, hok⟩, hok'⟩ := hok
    simp only [Ord.map, wpTurn] at h
    obtain ⟨h1, h2⟩ := h
    refine wpAnyH_all hr (by simp) fun j hj => ?_
    rcases (show j = i ∨ j = k by simpa using hj) with rfl | rfl
    · exact wpOp_mono (K := fun a' w' => ∃ W', Only (· = q) W W' ∧ Only (· = q) W' w' ∧ wpTurn q P l.toArray Q (r.map (nthOp l)) W' a' w') (fun a' w' ⟨W', h1, h2, h3⟩ => ⟨Only.trans' h1 h2, wpAnyH_weakT (fun _ hx => Only.trans' h1 hx) _ _ _ _ (turn_held hs hQ r fuel _ W' _ w' (by simp [Ord.depth] at hf; omega) hok h2 h3)⟩) (chain_op (by simpa using hi) (by split at h1 <;> first | (rename_i hw; simp only [hw, if_true]; exact h1) | (rename_i hw; simp only [hw]; exact ⟨W, Only.refl _ W, hS, h1⟩)))
    · exact wpOp_mono (K := fun a' w' => ∃ W', Only (· = q) W W' ∧ Only (· = q) W' w' ∧ wpTurn q P l.toArray Q (u.map (nthOp l)) W' a' w') (fun a' w' ⟨W', h1, h2, h3⟩ => ⟨Only.trans' h1 h2, wpAnyH_weakT (fun _ hx => Only.trans' h1 hx) _ _ _ _ (turn_held hs hQ u fuel _ W' _ w' (by simp [Ord.depth] at hf; omega) hok' h2 h3)⟩) (chain_op (by simpa using hk) (by split at h2 <;> first | (rename_i hw; simp only [hw, if_true]; exact h2) | (rename_i hw; simp only [hw]; exact ⟨W, Only.refl _ W, hS, h2⟩)))
/-- The beginning. -/
theorem wp_region_turn {id : Nat} {l : List Oper} {l' : Ord Oper} (order : Ord Nat) (hm : P.follows .mixedOrders = true)
    (hok : (Region.noSelect l.toArray && decide (order.depth ≤ l.length) && chainOk .any l.toArray order (Array.replicate l.length false)) = true)
    (hQ : ∀ c (a : Act) d v w, Q (.panic c) (a.put d v) w → Q (.panic c) a w) (hl : order.map (nthOp l) = l')
    (h : ∀ d, wpTurn q P l.toArray Q l' (Go.Proofs.Ytgpeabbbeidhpaa.grow w d) a (Go.Proofs.Ytgpeabbbeidhpaa.grow w d)) : (Code.region id l.toArray true).wp P Q a w := by
  simp only [Bool.and_eq_true, decide_eq_true_eq] at hok
  obtain ⟨⟨h1, h2⟩, h3⟩ := hok
  subst hl
  refine wp_region_held hm (S := Only (· = q) w.drew) ?_
  have e : Go.Proofs.Ytgpeabbbeidhpaa.grow w ⟨#[], w.drawn + 1⟩ = w.drew := by simp only [Go.Proofs.Ytgpeabbbeidhpaa.grow, Array.append_empty]; rfl
  exact turn_held h1 hQ order _ _ w.drew _ w.drew (by simpa using h2) (by simpa using h3) (Only.refl _ _) (e ▸ h ⟨#[], w.drawn + 1⟩)
theorem turn_nil (h : Q .normal a w) : wpTurn q P ops Q .done W a w := h
theorem turn_read (hw : Region.wanted o (yielded ops a.tmps) = true) (h : ∀ K : Act → Prop, (∀ a', wpTurn q P ops Q r W a' w → K a') → o.quiet P a (Turned q W) K) : wpTurn q P ops Q (.rd o r) W a w := by
  simp only [wpTurn, hw, if_true]
  exact h _ fun _ h => h
theorem turn_skip (hw : Region.wanted o (yielded ops a.tmps) = false) (h : wpTurn q P ops Q r W (a.put o.dst undef) w) : wpTurn q P ops Q (.rd o r) W a w := by
  simp only [wpTurn, hw]
  exact h
theorem turn_idle (hw : Region.wanted o (yielded ops a.tmps) = false) (h : wpTurn q P ops Q r W (a.put o.dst undef) w) : wpTurn q P ops Q (.ac o r) W a w := by
  simp only [wpTurn, hw]
  exact h
theorem turn_act (hw : Region.wanted o (yielded ops a.tmps) = true) (h : ∀ K : Act → World → Prop, (∀ a' w', (∃ W', Only (· = q) W W' ∧ Only (· = q) W' w' ∧ wpTurn q P ops Q r W' a' w') → K a' w') → o.wp P a w K Q) : wpTurn q P ops Q (.ac o r) W a w := by
  simp only [wpTurn, hw, if_true]
  exact h _ fun _ _ h => h
theorem turn_br (h : wpTurn q P ops Q (.ac o r) W a w) (h' : wpTurn q P ops Q (.ac o' r') W a w) : wpTurn q P ops Q (.br o r o' r') W a w := ⟨h, h'⟩
theorem turn_guard {j : Nat} {want X : Bool} {v : Value} (hg : o.guard = some (j, want)) (hj : yielded ops a.tmps j = some X)
    (h : X = want → ∀ w', Turned q W w' → o.quietAt P a (Turned q W) w' v) (k : wpTurn q P ops Q r W (a.put o.dst (guarded X want v)) w) : wpTurn q P ops Q (.rd o r) W a w := by
  simp only [wpTurn]
  rw [wanted_of hg hj]
  by_cases e : X = want
  · subst e
    rw [if_pos (by simp)]
    exact ⟨v, h rfl, by simpa [guarded_self] using k⟩
  · rw [if_neg (by simpa using e)]
    simpa [guarded_not e] using k
end

end Go.Proofs.Ytgpeabbbeidhpaa
