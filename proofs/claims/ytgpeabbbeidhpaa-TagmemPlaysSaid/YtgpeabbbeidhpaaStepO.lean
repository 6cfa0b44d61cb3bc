/- A region that draws its order, in which a set of blocks turns. -/
import Derived.Test.YtgpeabbbeidhpaaStepT
import Derived.Great.BuildSlice
namespace Go.Proofs.Ytgpeabbbeidhpaa
set_option linter.unusedSimpArgs false
set_option linter.unusedVariables false
open Go.RowKit

/-- The worlds that are one, but for some blocks, and grown. -/
def Among (S : Nat → Prop) (w : World) : World → Prop := Only S w
theorem yieldsIf_quietO {S : Nat → Prop} {P : Program} {ops : Array Oper} {W : World} {a : Act} {o : Oper} {v : Value} (hv : isValueOp o.op = true) (hw : Region.wanted o (yielded ops a.tmps) = true) (h : ∀ w, Among S W w → o.quietAt P a (Among S W) w v) : YieldsIf P ops (Only S W) o v a := by
  refine .inl ⟨hw, fun w hS => ?_⟩
  have h1 := h w (hS)
  unfold Oper.quietAt at h1
  cases hr : (execOp a.eval o).run P w with
  | halt x w' => rw [hr] at h1; exact h1.elim
  | ok n w' =>
    obtain ⟨u, rfl⟩ := execOp_value hv hr
    rw [hr] at h1
    obtain ⟨e1, e2⟩ := h1
    rw [e1, e2]
/-- One walk: what reads as soon as it may, asked of the world at hand; what acts one behind the other. -/
def wpOnly (S : Nat → Prop) (P : Program) (ops : Array Oper) (Q : Exit → Act → World → Prop) : Ord Oper → World → Act → World → Prop
  | .done, _, a, w => Q .normal a w
  | .rd o r, W, a, w => if Region.wanted o (yielded ops a.tmps) then o.quiet P a (Among S W) (fun a' => wpOnly S P ops Q r W a' w) else wpOnly S P ops Q r W (a.put o.dst undef) w
  | .ac o r, W, a, w => if Region.wanted o (yielded ops a.tmps) then o.wp P a w (fun a' w' => ∃ W', Only S W W' ∧ Only S W' w' ∧ wpOnly S P ops Q r W' a' w') Q else wpOnly S P ops Q r W (a.put o.dst undef) w
  | .br o r o' r', W, a, w =>
    (if Region.wanted o (yielded ops a.tmps) then o.wp P a w (fun a' w' => ∃ W', Only S W W' ∧ Only S W' w' ∧ wpOnly S P ops Q r W' a' w') Q else wpOnly S P ops Q r W (a.put o.dst undef) w) ∧
    (if Region.wanted o' (yielded ops a.tmps) then o'.wp P a w (fun a' w' => ∃ W', Only S W W' ∧ Only S W' w' ∧ wpOnly S P ops Q r' W' a' w') Q else wpOnly S P ops Q r' W (a.put o'.dst undef) w)
section
variable {S : Nat → Prop} {P : Program} {ops : Array Oper} {Q : Exit → Act → World → Prop} {a : Act} {W w : World} {o o' : Oper} {r r' : Ord Oper}
theorem wpAnyH_weakO {md : Region.Mode} {A T : World → Prop} (hST : ∀ w, A w → T w) : ∀ (fuel : Nat) (listed : Array Bool) (a : Act) (w : World), wpAnyH P md ops Q A fuel listed a w → wpAnyH P md ops Q T fuel listed a w
  | 0, _, _, _, h => h
  | fuel + 1, _, _, _, h => ⟨h.1, fun i hi => wpOp_mono (fun a' w' ⟨h1, h2⟩ => ⟨hST w' h1, wpAnyH_weakO hST fuel _ a' w' h2⟩) (h.2 i hi)⟩
theorem only_held {md : Region.Mode} {l : List Oper} (hs : Region.noSelect l.toArray = true) (hQ : ∀ c (a : Act) d v w, Q (.panic c) (a.put d v) w → Q (.panic c) a w) :
    ∀ (order : Ord Nat) (fuel : Nat) (listed : Array Bool) (W : World) (a : Act) (w : World), order.depth ≤ fuel → chainOk md l.toArray order listed = true → Only S W w →
      wpOnly S P l.toArray Q (order.map (nthOp l)) W a w → wpAnyH P md l.toArray Q (Only S W) fuel listed a w
  | .done, fuel, listed, W, a, w, _, hok, _, h => wpAnyH_done (by simpa [chainOk] using hok) h fuel
  | .rd i r, fuel, listed, W, a, w, hf, hok, hS, h => by
    obtain ⟨fuel, rfl⟩ : ∃ f, fuel = f + 1 := ⟨fuel - 1, by simp [Ord.depth] at hf; omega⟩
    simp only [chainOk, Bool.and_eq_true] at hok
    obtain ⟨⟨⟨hv, hfree⟩, hr⟩, hok⟩ := hok
    have hlen : i < l.length := by
      rcases Nat.lt_or_ge i l.length with h' | h'
      · exact h'
      · simp [h'] at hv
    have ho := nthOp_get l i hlen
    simp only [ho] at hv
    simp only [Ord.map, wpOnly] at h
    by_cases hw : Region.wanted (nthOp l i) (yielded l.toArray a.tmps) = true
    · simp only [hw, if_true] at h
      obtain ⟨v, h1, h2⟩ := h
      exact wpAnyH_take ho hs hfree hr (fun c a w h => hQ c a _ _ w h) (yieldsIf_quietO hv hw h1) hS (only_held hs hQ r fuel _ W _ w (by simp [Ord.depth] at hf; omega) hok hS h2)
    · simp only [hw] at h
      exact wpAnyH_take ho hs hfree hr (fun c a w h => hQ c a _ _ w h) (.inr ⟨by simpa using hw, rfl⟩) hS (only_held hs hQ r fuel _ W _ w (by simp [Ord.depth] at hf; omega) hok hS h)
  | .ac i r, fuel, listed, W, a, w, hf, hok, hS, h => by
    obtain ⟨fuel, rfl⟩ : ∃ f, fuel = f + 1 := ⟨fuel - 1, by simp [Ord.depth] at hf; omega⟩
    simp only [chainOk, Bool.and_eq_true, beq_iff_eq, decide_eq_true_eq] at hok
    obtain ⟨⟨hlen, hr⟩, hok⟩ := hok
    simp only [Ord.map, wpOnly] at h
    refine wpAnyH_all hr (by simp) fun j hj => ?_
    obtain rfl : j = i := by simpa using hj
    exact wpOp_mono (K := fun a' w' => ∃ W', Only S W W' ∧ Only S W' w' ∧ wpOnly S P l.toArray Q (r.map (nthOp l)) W' a' w') (fun a' w' ⟨W', h1, h2, h3⟩ => ⟨Only.trans' h1 h2, wpAnyH_weakO (fun _ hx => Only.trans' h1 hx) _ _ _ _ (only_held hs hQ r fuel _ W' _ w' (by simp [Ord.depth] at hf; omega) hok h2 h3)⟩) (chain_op (by simpa using hlen) (by split at h <;> first | (rename_i hw; simp only [hw, if_true]; exact h) | (rename_i hw; simp only [hw]; exact ⟨W, Only.refl _ W, hS, h⟩)))
  | .br i r k u, fuel, listed, W, a, w, hf, hok, hS, h => by
    obtain ⟨fuel, rfl⟩ : ∃ f, fuel = f + 1 := ⟨fuel - 1, by simp [Ord.depth] at hf; omega⟩
    simp only [chainOk, Bool.and_eq_true, beq_iff_eq, decide_eq_true_eq] at hok
    obtain ⟨⟨⟨⟨hi, hk⟩, hr⟩, hok⟩, hok'⟩ := hok
    simp only [Ord.map, wpOnly] at h
    obtain ⟨h1, h2⟩ := h
    refine wpAnyH_all hr (by simp) fun j hj => ?_
    rcases (show j = i ∨ j = k by simpa using hj) with rfl | rfl
    · exact wpOp_mono (K := fun a' w' => ∃ W', Only S W W' ∧ Only S W' w' ∧ wpOnly S P l.toArray Q (r.map (nthOp l)) W' a' w') (fun a' w' ⟨W', h1, h2, h3⟩ => ⟨Only.trans' h1 h2, wpAnyH_weakO (fun _ hx => Only.trans' h1 hx) _ _ _ _ (only_held hs hQ r fuel _ W' _ w' (by simp [Ord.depth] at hf; omega) hok h2 h3)⟩) (chain_op (by simpa using hi) (by split at h1 <;> first | (rename_i hw; simp only [hw, if_true]; exact h1) | (rename_i hw; simp only [hw]; exact ⟨W, Only.refl _ W, hS, h1⟩)))
    · exact wpOp_mono (K := fun a' w' => ∃ W', Only S W W' ∧ Only S W' w' ∧ wpOnly S P l.toArray Q (u.map (nthOp l)) W' a' w') (fun a' w' ⟨W', h1, h2, h3⟩ => ⟨Only.trans' h1 h2, wpAnyH_weakO (fun _ hx => Only.trans' h1 hx) _ _ _ _ (only_held hs hQ u fuel _ W' _ w' (by simp [Ord.depth] at hf; omega) hok' h2 h3)⟩) (chain_op (by simpa using hk) (by split at h2 <;> first | (rename_i hw; simp only [hw, if_true]; exact h2) | (rename_i hw; simp only [hw]; exact ⟨W, Only.refl _ W, hS, h2⟩)))
/-- The beginning. -/
theorem wp_region_only {id : Nat} {l : List Oper} {l' : Ord Oper} (order : Ord Nat) (hm : P.follows .mixedOrders = true)
    (hok : (Region.noSelect l.toArray && decide (order.depth ≤ l.length) && chainOk .any l.toArray order (Array.replicate l.length false)) = true)
    (hQ : ∀ c (a : Act) d v w, Q (.panic c) (a.put d v) w → Q (.panic c) a w) (hl : order.map (nthOp l) = l')
    (h : ∀ d, wpOnly S P l.toArray Q l' (Go.Proofs.Ytgpeabbbeidhpaa.grow w d) a (Go.Proofs.Ytgpeabbbeidhpaa.grow w d)) : (Code.region id l.toArray true).wp P Q a w := by
  simp only [Bool.and_eq_true, decide_eq_true_eq] at hok
  obtain ⟨⟨h1, h2⟩, h3⟩ := hok
  subst hl
  refine wp_region_held hm (S := Only S w.drew) ?_
  have e : Go.Proofs.Ytgpeabbbeidhpaa.grow w ⟨#[], w.drawn + 1⟩ = w.drew := by simp only [Go.Proofs.Ytgpeabbbeidhpaa.grow, Array.append_empty]; rfl
  exact only_held h1 hQ order _ _ w.drew _ w.drew (by simpa using h2) (by simpa using h3) (Only.refl _ _) (e ▸ h ⟨#[], w.drawn + 1⟩)
theorem only_nil (h : Q .normal a w) : wpOnly S P ops Q .done W a w := h
theorem only_read (hw : Region.wanted o (yielded ops a.tmps) = true) (h : ∀ K : Act → Prop, (∀ a', wpOnly S P ops Q r W a' w → K a') → o.quiet P a (Among S W) K) : wpOnly S P ops Q (.rd o r) W a w := by
  simp only [wpOnly, hw, if_true]
  exact h _ fun _ h => h
theorem only_skip (hw : Region.wanted o (yielded ops a.tmps) = false) (h : wpOnly S P ops Q r W (a.put o.dst undef) w) : wpOnly S P ops Q (.rd o r) W a w := by
  simp only [wpOnly, hw]
  exact h
theorem only_idle (hw : Region.wanted o (yielded ops a.tmps) = false) (h : wpOnly S P ops Q r W (a.put o.dst undef) w) : wpOnly S P ops Q (.ac o r) W a w := by
  simp only [wpOnly, hw]
  exact h
theorem only_act (hw : Region.wanted o (yielded ops a.tmps) = true) (h : ∀ K : Act → World → Prop, (∀ a' w', (∃ W', Only S W W' ∧ Only S W' w' ∧ wpOnly S P ops Q r W' a' w') → K a' w') → o.wp P a w K Q) : wpOnly S P ops Q (.ac o r) W a w := by
  simp only [wpOnly, hw, if_true]
  exact h _ fun _ _ h => h
theorem only_br (h : wpOnly S P ops Q (.ac o r) W a w) (h' : wpOnly S P ops Q (.ac o' r') W a w) : wpOnly S P ops Q (.br o r o' r') W a w := ⟨h, h'⟩
theorem only_guard {j : Nat} {want X : Bool} {v : Value} (hg : o.guard = some (j, want)) (hj : yielded ops a.tmps j = some X)
    (h : X = want → ∀ w', Among S W w' → o.quietAt P a (Among S W) w' v) (k : wpOnly S P ops Q r W (a.put o.dst (guarded X want v)) w) : wpOnly S P ops Q (.rd o r) W a w := by
  simp only [wpOnly]
  rw [wanted_of hg hj]
  by_cases e : X = want
  · subst e
    rw [if_pos (by simp)]
    exact ⟨v, h rfl, by simpa [guarded_self] using k⟩
  · rw [if_neg (by simpa using e)]
    simpa [guarded_not e] using k
end


theorem quiet_load1 {P : Program} {o : Oper} {a : Act} {C : World → Prop} {K : Act → Prop} (ty : TypeId) (x : Operand) (ho : o.op = .load ty x) (b off : Nat) (hx : a.eval x = .pointer (some ⟨b, off, none⟩)) (v : Value) (d : TypeDesc)
    (hc : ∀ w', C w' → w'.cell? ⟨b, off, none⟩ = some v) (hu : P.underlying ty = some d) (hd : d.isRow = false) (k : K (a.put o.dst v)) : o.quiet P a C K := by
  refine ⟨_, fun w' hw' => ?_, k⟩
  unfold Oper.quietAt execOp
  rw [ho]
  cases d <;> first | (simp [TypeDesc.isRow] at hd; done) | simp [hx, Instr.loadAt, Instr.sureAddr, loadVar, isAgg, run_underlying hu, hd, hc w' hw', Result.andThen, Oper.quietUpon, Sem.run_bind, Sem.run_map, Sem.run_pure]
theorem quiet_run {P : Program} {o : Oper} {a : Act} {C : World → Prop} {K : Act → Prop} (v : Value) (h : ∀ w, (execOp a.eval o).run P w = .ok (.value v) w) (k : K (a.put o.dst v)) : o.quiet P a C K :=
  ⟨v, fun w _ => by unfold Oper.quietAt; rw [h w]; exact ⟨rfl, rfl⟩, k⟩
theorem wp_build1 {P : Program} {o : Oper} {a : Act} {w : World} {K : Act → World → Prop} {Q : Exit → Act → World → Prop} (t e : TypeId) (x : Operand) (ho : o.op = .buildSlice t 1 #[(0, x)])
    (cs : Array Value) (s : Nat) (hx : a.eval x = .agg cs) (hs : cs.size = s) (h0 : 0 < s) (h1 : s ≤ 1000)
    (hu : P.underlying t = some (.slice e)) (hi : (P.info? e).map (·.size) = some s) (hz : ((P.info? e).bind (·.zero)).map (·.cells.size) = some s)
    (h : K (a.put o.dst (.slice (some ⟨w.heap.size, 0, none⟩) 1 1)) (w.alloc (.cells cs e))) : o.wp P a w K Q := by
  cases hie : P.info? e with
  | none => simp [hie] at hi
  | some ie =>
    cases hzz : ie.zero with
    | none => simp [hie, hzz] at hz
    | some z =>
      have hsz : ie.size = s := by simpa [hie] using hi
      have hzs : z.cells.size = s := by simpa [hie, hzz] using hz
      refine wp_buildSlice t e 1 #[(0, x)] ho cs ie z hu hie hzz (by omega) (by omega) ?_ h
      have hf := Great.fill_whole h0 [.agg cs] ((Array.range (1 * s)).map (z.cells[· % z.cells.size]!)) (by simpa [Value.cells] using hs) (by simp)
      rw [hsz]
      simpa [hx, Value.cells] using hf
end Go.Proofs.Ytgpeabbbeidhpaa
