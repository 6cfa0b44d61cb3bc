/- Layer 12: slices.Insert. -/
import Derived.Test.YtkjakaoimbmcjaaExtD
namespace Go.Proofs.Ytkjakaoimbmcjaa
set_option linter.unusedSimpArgs false
set_option linter.unusedVariables false
open Go.RowKit

theorem ins_at (l : List Pr) (p : Pr) (i n : Nat) (hl : l.length = n) (hi : i ≤ n) (j : Nat) :
    (prList (l.take i ++ p :: l.drop i))[j]? = if j < i * 2 then (prList l)[j]? else if j < (i + 1) * 2 then p.cells[j - i * 2]? else (prList (l.drop i))[j - (i + 1) * 2]? := by
  have h1 : (prList (l.take i)).length = i * 2 := by rw [prList_length, List.length_take]; omega
  have h2 : p.cells.length = 2 := rfl
  rw [prList_append, prList_cons]
  by_cases hj : j < i * 2
  · rw [if_pos hj, List.getElem?_append_left (by omega), ← prList_take, List.getElem?_take, if_pos hj]
  · rw [if_neg hj, List.getElem?_append_right (by omega), h1]
    by_cases hj2 : j < (i + 1) * 2
    · rw [if_pos hj2, List.getElem?_append_left (by omega)]
    · rw [if_neg hj2, List.getElem?_append_right (by omega), h2, show j - i * 2 - 2 = j - (i + 1) * 2 by omega]
theorem ins_len (l : List Pr) (p : Pr) (i n : Nat) (hl : l.length = n) (hi : i ≤ n) : (l.take i ++ p :: l.drop i).length = n + 1 := by
  rw [List.length_append, List.length_cons, List.length_take, List.length_drop]; omega
/-- 'copy' of elements of two cells. -/
theorem run_copy2 (w : World) (ty : TypeId) (b o dLen dCap : Nat) (a : Addr) (sLen sCap : Nat) (cs : List Value) (cur : Array Value) (m : Nat) (hm : Nat.min sLen dLen = m) (hn : cs.length = m * 2) (hg : w.heap[b]? = some (.cells cur 38 (0, 0))) (hfit : o + cs.length ≤ cur.size)
    (hsrc : ∀ j v, cs[j]? = some v → w.cell? (a.add j) = some v) (h1 : ∀ v ∈ cs, v.oneCell' = true) :
    (Builtin.copy_ #[35, 35] ty #[.slice (some ⟨b, o, none⟩) dLen dCap, .slice (some a) sLen sCap]).run Try.prog w = .ok (goInt m) (w.setCells b o cs) := by
  obtain ⟨i0, z0, hi0, hz0, hz1, hz2, hz3, rfl⟩ := pr_info
  have hl := run_loadCells_list (P := Try.prog) w a cs hsrc
  have hst := run_storeCells_cells (P := Try.prog) b o cs 0 w (by intro j hj; rw [cell_of_row w b _ cur 38 (0, 0) hg, Array.getElem?_eq_getElem (by omega)]; rfl) (by intro j hj; simp [World.frozen?, hg]) h1
  rw [hn] at hl
  have hm' : min sLen dLen = m := hm
  simp [Builtin.copy_, run_underlying Try.underlying35, Builtin.lenOf, Builtin.firstCells, sizeOf, typeInfo, hi0, hz2, hm, hm', hl, hst]
theorem wp_copy_run {P : Program} (w : World) {o : Oper} {a : Act} {K : Act → World → Prop} {Q : Exit → Act → World → Prop} (d s : Operand) (t t' : TypeId)
    (ho : o.op = .call { callee := .builtin .copy, args := #[d, s], argTypes := #[t, t'] }) (v u : Value) (hd : a.eval d = v) (hs : a.eval s = u) {v' : Value} {w' : World}
    (hr : (Builtin.copy_ #[t, t'] o.type #[v, u]).run P w = .ok v' w') (h : K (a.put o.dst v') w') : o.wp P a w K Q := by
  unfold Oper.wp execOp
  simp only [ho, resolve, invoke, builtin, Sem.run_bind, Sem.run_pure, Result.andThen_ok, List.map_toArray, List.map_cons, List.map_nil, hd, hs, hr]
  exact h
set_option maxRecDepth 100000 in
set_option maxHeartbeats 4000000 in
theorem einsEnd_ (w : World) (base : Nat) (p : Pr) (vb : Nat) (hV : w.heap[vb]? = some (.cells #[.int .i64 p.lo, .int .i64 p.hi] 38 (0, 0))) (v : Value) (n : Nat) (l : List Pr) (h : ownsAt w base 38 2 v n (prList l)) (hbig : n ≤ 100000000) (hbase : base ≤ w.heap.size) (i : Nat) (hi : i = n) :
    Calls Try.prog 29 #[v, .int .i64 n, .slice (some ⟨vb, 0, none⟩) 1 1] w fun e w' => ∃ v', e = .returned v' ∧ Hid (ownsAt w' base 38 2 v' (n + 1) (prList (l.take i ++ p :: l.drop i))) ∧ Hid (Only (fun k => v.ownBlock = some k) w w') ∧ ∀ g, v'.ownBlock = some g → v.ownBlock = some g ∨ w.heap.size ≤ g := by
  have hll : l.length = n := by have := h.1; rw [prList_length] at this; omega
  obtain ⟨A, cap, rfl, hca, hnil⟩ := h.shape
  obtain ⟨i0, z0, hi0, hz0, hz1, hz2, hz3, _⟩ := pr_info
  have HI := hid hi0
  have HZ := hid hz0
  have HH := hid h
  have hvc : ∀ j u, ([.int .i64 p.lo, .int .i64 p.hi] : List Value)[j]? = some u → w.cell? ⟨vb, j, none⟩ = some u := fun j u hj => by
    rw [cell_of_row w vb _ _ 38 (0, 0) hV, ← Array.getElem?_toList]; exact hj
  have HVC := hid hvc
  have k0 : (0 : Int) ≤ (n : Int) := by omega
  have k1 : (n : Int) ≤ (cap : Int) := by omega
  clear hi0 hz0 h hV hvc
  have hfin : ∀ v3 w3, ownsAt w3 base 38 2 v3 (n + 1) (prList l ++ [.int .i64 p.lo, .int .i64 p.hi]) → w.grownBy w3 (Value.slice A n cap).ownBlock → (v3.ownBlock = (Value.slice A n cap).ownBlock ∨ ∃ g, v3.ownBlock = some g ∧ w.heap.size ≤ g) → Hid (ownsAt w3 base 38 2 v3 (n + 1) (prList (l.take i ++ p :: l.drop i))) ∧ Hid (Only (fun k => (Value.slice A n cap).ownBlock = some k) w w3) ∧ ∀ g, v3.ownBlock = some g → (Value.slice A n cap).ownBlock = some g ∨ w.heap.size ≤ g := fun v3 w3 h1 h2 h3 => by
    refine ⟨hid ?_, hid (grownOnly (S := fun k => (Value.slice A n cap).ownBlock = some k) h2 fun g e => e), fun g hg => ?_⟩
    · rw [hi, List.take_of_length_le (by omega), List.drop_of_length_le (by omega), prList_append, prList_one]
      exact h1
    · rcases h3 with e | ⟨g', e, hl⟩
      · exact .inl (e ▸ hg)
      · rw [hg] at e
        obtain rfl : g = g' := by simpa using e
        exact .inr hl
  have HF := hid hfin
  clear hfin hi
  by_cases hcn : cap = n
  · have k2 : (cap : Int) = (n : Int) := by omega
    subst hcn
    go_enter Try.func29, Try.ntmps29
    go_wp2_with (at_builtin; refine wpList_plain rfl fun K hK => ?_; refine wp_append_at _ _ _ 35 rfl base 38 i0 z0 2 16 Try.underlying35 HI.out HZ.out hz2 hz3 hz1 (by decide) _ _ _ rfl HH.out ⟨vb, 0, none⟩ 1 1 [.int .i64 p.lo, .int .i64 p.hi] rfl rfl (fun j u hj => by rw [Addr.add_lit, Nat.zero_add]; exact HVC.out j u hj) (pr_one p) (by unfold maxLen; omega) (by omega) hbase (by omega) ?_; intro v3 w3 hown3 hgrow3 hat3; refine hK _ _ ?_; clear hK K)
    go_ret
    exact ⟨_, rfl, HF.out _ _ hown3 hgrow3 hat3⟩
  · have k2 : ¬ (cap : Int) = (n : Int) := by omega
    have k3 : A ≠ none := fun h => hcn (by have := hnil h; omega)
    obtain _ | ⟨g, a, sp⟩ := A
    · exact absurd rfl k3
    obtain rfl : sp = none := by
      rcases HH.out.2 with ⟨h, _⟩ | ⟨g', o', c', cur, h, _⟩
      · cases h
      · cases h; rfl
    go_enter Try.func29, Try.ntmps29
    go_wp2_with (at_builtin; refine wpList_plain rfl fun K hK => ?_; refine wp_append_at _ _ _ 35 rfl base 38 i0 z0 2 16 Try.underlying35 HI.out HZ.out hz2 hz3 hz1 (by decide) _ _ _ rfl HH.out ⟨vb, 0, none⟩ 1 1 [.int .i64 p.lo, .int .i64 p.hi] rfl rfl (fun j u hj => by rw [Addr.add_lit, Nat.zero_add]; exact HVC.out j u hj) (pr_one p) (by unfold maxLen; omega) (by omega) hbase (by omega) ?_; intro v3 w3 hown3 hgrow3 hat3; refine hK _ _ ?_; clear hK K)
    go_ret
    exact ⟨_, rfl, HF.out _ _ hown3 hgrow3 hat3⟩

end Go.Proofs.Ytkjakaoimbmcjaa
