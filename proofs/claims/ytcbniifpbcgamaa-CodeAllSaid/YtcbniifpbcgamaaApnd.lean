/- Append onto an own row of bytes. -/
import Derived.Test.YtcbniifpbcgamaaCodO
namespace Go.Proofs.Ytcbniifpbcgamaa
set_option linter.unusedSimpArgs false
set_option linter.unusedVariables false
open Go.RowKit


section
variable {w : World} {ops : Array Oper} {rest : List Oper} {o : Oper} {a : Act} {Q : Exit → Act → World → Prop}
/-- append(own, bytes...). -/
theorem app_own_wp {K : Act → World → Prop} (s x : Operand) (ho : o.op = .call { callee := .builtin .append, args := #[s, x], argTypes := #[24, 24] })
    (base : Nat) (v : Value) (l : List Int) (hs : a.eval s = v) (hown : OwnB w base v l) (A : Option Addr) (m c : Nat) (news : List Int) (hx : a.eval x = .slice A m c) (hm : news.length = m) (hr : RdB w A news)
    (h0 : A = none → c = 0) (h63 : l.length + m ≤ 1000000) (hbase : base ≤ w.heap.size)
    (h : ∀ v' w', OwnB w' base v' (l ++ news) → w.grownBy w' v.ownBlock → K (a.put o.dst v') w') : o.wp Try.prog a w K Q := by
  obtain ⟨i, hi, hz0, hz1, hz2⟩ := info_parts info_u8
  subst hm
  cases A with
  | none =>
    have hn : news = [] := by
      rcases Nat.eq_zero_or_pos news.length with h1 | h1
      · exact List.eq_nil_of_length_eq_zero h1
      · obtain ⟨b, o', hA, _⟩ := hr h1
        cases hA
    subst hn
    obtain rfl := h0 rfl
    have hrun := run_append_owned_none (P := Try.prog) w base 24 o.type 5 i 1 Try.underlying24 hi v l.length (bvals l) hown
    unfold Oper.wp
    simp [execOp, ho, resolve, invoke, builtin, hs, hx, hrun, Result.andThen]
    exact h v w (by simpa using hown) (World.grownBy.refl _ _)
  | some ad =>
    refine wp_append_own w s x 24 ho base 5 i _ 1 1 Try.underlying24 hi hz0 hz1 hz2 rfl (by decide) v l.length (bvals l) hs hown ad news.length c (bvals news) hx (by simp [bvals_length]) (fun j u hj => ?_) (bvals_one news) (by unfold maxLen; omega) (by omega) hbase fun v' w' h2 h3 _ => h v' w' (OwnB.more h2) h3
    have hlt : j < news.length := by simpa [bvals] using (List.getElem?_eq_some_iff.1 hj).1
    obtain ⟨b, o', hA, _, hc⟩ := hr (by omega)
    cases hA
    rw [Addr.add_lit, hc j hlt]
    simpa [bvals, hlt] using hj
theorem app_own (hgd : o.guard = none) (s x : Operand) (ho : o.op = .call { callee := .builtin .append, args := #[s, x], argTypes := #[24, 24] })
    (base : Nat) (v : Value) (l : List Int) (hs : a.eval s = v) (hown : OwnB w base v l) (A : Option Addr) (m c : Nat) (news : List Int) (hx : a.eval x = .slice A m c) (hm : news.length = m) (hr : RdB w A news)
    (h0 : A = none → c = 0) (h63 : l.length + m ≤ 1000000) (hbase : base ≤ w.heap.size)
    (h : ∀ v' w', OwnB w' base v' (l ++ news) → w.grownBy w' v.ownBlock → wpList Try.prog ops Q rest (a.put o.dst v') w') : wpList Try.prog ops Q (o :: rest) a w :=
  wpList_plain hgd fun K hK => app_own_wp s x ho base v l hs hown A m c news hx hm hr h0 h63 hbase fun v' w' h1 h2 => hK _ _ (h v' w' h1 h2)
/-- A row that another one's append leaves as it was. -/
theorem ownsGrown {w' : World} {base : Nat} {e : TypeId} {size n : Nat} {v : Value} {xs : List Value} {row : Option Nat} (h : w.ownsRow base e size v n xs) (hg : w.grownBy w' row) (hne : ∀ g, v.ownBlock = some g → ¬ row = some g) : w'.ownsRow base e size v n xs := by
  refine ⟨h.1, ?_⟩
  rcases h.2 with h0 | ⟨g, cap, cur, hv, hb, hgg, r⟩
  · exact .inl h0
  · refine .inr ⟨g, cap, cur, hv, hb, ?_, r⟩
    rw [hg.block g (Array.getElem?_eq_some_iff.1 hgg).1 (fun e => hne g (by rw [hv]; rfl) e.symm)]
    exact hgg
/-- Rows of unlike types are apart. -/
theorem owns_apart {base base' : Nat} {e e' : TypeId} {size size' n n' : Nat} {v v' : Value} {xs xs' : List Value} (h : w.ownsRow base e size v n xs) (h' : w.ownsRow base' e' size' v' n' xs') (he : e ≠ e') : ∀ g, v.ownBlock = some g → ¬ v'.ownBlock = some g := by
  intro g hg hg'
  rcases h.2 with ⟨h0, _⟩ | ⟨g1, c1, cur1, hv1, _, h1, _⟩
  · rw [h0] at hg; cases hg
  · rcases h'.2 with ⟨h0, _⟩ | ⟨g2, c2, cur2, hv2, _, h2, _⟩
    · rw [h0] at hg'; cases hg'
    · rw [hv1] at hg
      rw [hv2] at hg'
      have e1 : g1 = g := by simpa [Value.ownBlock] using hg
      have e2 : g2 = g := by simpa [Value.ownBlock] using hg'
      subst e1
      subst e2
      rw [h1] at h2
      simp only [Option.some.injEq, Obj.cells.injEq] at h2
      exact he h2.2.1
theorem zeroCells_u8 (k : Nat) : (Builtin.zeroCells #[Value.int .u8 0] k).toList = List.replicate k (Value.int .u8 0) := by
  apply List.ext_getElem
  · simp [Builtin.zeroCells]
  · intro n h1 h2
    simp [Builtin.zeroCells, Nat.mod_one]
theorem run_append_zeros (w : World) (base : Nat) (ty : TypeId) (v : Value) (l : List Int) (hown : OwnB w base v l) (k : Nat) (hk0 : 0 < k) (hk : k ≤ 1000000) (h63 : l.length + k ≤ 2000000) (hbase : base ≤ w.heap.size) :
    ∃ v' w', (Builtin.append_ #[24, 3] ty #[v, .int .i64 k]).run Try.prog w = .ok v' w' ∧ OwnB w' base v' (l ++ List.replicate k 0) ∧ w.grownBy w' v.ownBlock := by
  obtain ⟨i, hi, hz0, hz1, hz2⟩ := info_parts info_u8
  have hb : bvals (List.replicate k 0) = List.replicate k (Value.int .u8 0) := by simp [bvals]
  have hwr : IntKind.i64.wrap (k : Int) = k := by simp [IntKind.wrap, IntKind.bits, IntKind.signed]; omega
  have hneg : ¬ (k : Int) < 0 := by omega
  have h48 : ¬ (281474976710656 < (k : Int)) := by omega
  have hk1 : ¬ k = 0 := by omega
  have hlen : ∀ n, (bvals (l ++ List.replicate k 0)).length = n ↔ l.length + k = n := by intro n; simp [bvals]
  have grown : ∀ (old : Nat), old < l.length + k → ∀ (row : Option Nat),
      OwnB (w.drew.alloc (.cells ((bvals l).toArray ++ Builtin.zeroCells #[Value.int .u8 0] k ++ Builtin.zeroCells #[Value.int .u8 0] (grownCap w (l.length + k) old 5 - (l.length + k))) 5)) base
        (.slice (some ⟨w.heap.size, 0, none⟩) (l.length + k) (grownCap w (l.length + k) old 5)) (l ++ List.replicate k 0) ∧
      w.grownBy (w.drew.alloc (.cells ((bvals l).toArray ++ Builtin.zeroCells #[Value.int .u8 0] k ++ Builtin.zeroCells #[Value.int .u8 0] (grownCap w (l.length + k) old 5 - (l.length + k))) 5)) row := by
    intro old ho row
    have hge := grownCap_ge w (l.length + k) old 5
    have hcm : grownCap w (l.length + k) old 5 ≤ maxLen := grownCap_le_maxLen w (l.length + k) old 5 (by unfold maxLen; omega)
    have hl' : (l ++ List.replicate k (0 : Int)).length = l.length + k := by simp
    refine ⟨⟨by simp [bvals], .inr ⟨w.heap.size, _, _, by rw [hl'], hbase, heap_alloc_new w.drew _, by rw [hl']; exact hge, hcm, ?_, ?_⟩⟩, ⟨rfl, rfl, rfl, by simp, fun j hj _ => by first | exact heap_alloc_old w.drew _ j hj | exact heap_alloc_old w.drew _ hj⟩⟩
    · simp [size_zeroCells, bvals_length]
      omega
    · rw [hl']
      simp only [Array.toList_append, zeroCells_u8, bvals_append, hb]
      rw [List.take_left' (by simp [bvals_length])]
  rcases hown.2 with ⟨rfl, hl0⟩ | ⟨g, cap, cur, rfl, hbg, hg, hnc, hcm, hcs, htake⟩
  · have hx : l = [] := List.eq_nil_of_length_eq_zero hl0
    subst hx
    have hgr := grown 0 (by simp; omega) (Value.ownBlock (.slice none 0 0))
    simp only [List.length_nil, Nat.zero_add, List.nil_append, bvals, List.map_nil, Array.empty_append] at hgr
    have h63' : ¬ (9223372036854775807 < (k : Int)) := by omega
    have h48' : ¬ (281474976710656 < Builtin.nextslicecap k 0) := by rw [nextslicecap_zero hk0]; omega
    have hr : (Builtin.append_ #[24, 3] ty #[.slice none 0 0, .int .i64 k]).run Try.prog w = .ok (.slice (some ⟨w.heap.size, 0, none⟩) k (grownCap w k 0 5)) (w.drew.alloc (.cells (Builtin.zeroCells #[Value.int .u8 0] k ++ Builtin.zeroCells #[Value.int .u8 0] (grownCap w k 0 5 - k)) 5)) := by
      simp [Builtin.append_, run_underlying Try.underlying24, run_underlying Try.underlying3, sizeOf, typeInfo, zeroValue, hi, hz0, hz1, hz2, hwr, hneg, h48, hk1, h63', h48', Question.forced, run_firstCells_none, newRow, grownCap, Value.cells, asInt, asIntOf]
    exact ⟨_, _, hr, by simpa using hgr.1, hgr.2⟩
  · by_cases hroom : l.length + k ≤ cap
    · have hfit : l.length + k ≤ cur.size := by omega
      have hst := run_storeCells_at Try.prog g l.length 5 (List.replicate k (Value.int .u8 0)) 0 cur w hg (by simpa using hfit) (fun u hu => by rw [(List.mem_replicate.1 hu).2]; rfl)
      simp only [Nat.add_zero, List.length_replicate] at hst
      have hz : (Builtin.zeroCells #[Value.int .u8 0] k).toList = List.replicate k (Value.int .u8 0) := zeroCells_u8 k
      have hr : (Builtin.append_ #[24, 3] ty #[.slice (some ⟨g, 0, none⟩) l.length cap, .int .i64 k]).run Try.prog w = .ok (.slice (some ⟨g, 0, none⟩) (l.length + k) cap) (w.setRow g (cur.toList.take l.length ++ List.replicate k (Value.int .u8 0) ++ cur.toList.drop (l.length + k)).toArray) := by
        simp [Builtin.append_, run_underlying Try.underlying24, run_underlying Try.underlying3, sizeOf, typeInfo, zeroValue, hi, hz0, hz1, hz2, hwr, hneg, h48, hk1, hroom, hz, Value.cells, asInt, asIntOf, Addr.add_lit, hst]
      refine ⟨_, _, hr, ⟨by simp [bvals], .inr ⟨g, cap, _, by simp, hbg, setRow_heap w g cur _ 5 _ hg, by simpa using hroom, hcm, ?_, ?_⟩⟩, ⟨rfl, rfl, rfl, by simp, fun j _ hj => setRow_other w g j _ (fun e => hj (by simp [Value.ownBlock, e]))⟩⟩
      · simp only [List.size_toArray, List.length_append, List.length_take, List.length_drop, Array.length_toList, List.length_replicate]
        omega
      · have ht : cur.toList.take l.length = bvals l := by rw [← htake, Nat.mul_one]
        simp only [ht, bvals_append, hb, List.length_append, List.length_replicate, Nat.mul_one]
        rw [List.take_left' (by simp [bvals_length])]
    · have hlt : cap < l.length + k := by omega
      have holds : ∀ j u, (bvals l)[j]? = some u → w.cell? ((⟨g, 0, none⟩ : Addr).add j) = some u := hown.cells (g := g) rfl
      have hfo := run_firstCells_some (P := Try.prog) w.drew 1 l.length ⟨g, 0, none⟩ l.length cap (bvals l) (by simp [bvals_length]) (by simpa using holds)
      have h63' : ¬ (9223372036854775807 < ((l.length : Int) + (k : Int))) := by omega
      have h48' : ¬ (281474976710656 < Builtin.nextslicecap (l.length + k) cap) := by have := nextslicecap_le hlt; omega
      have hgr := grown cap hlt (Value.ownBlock (.slice (some ⟨g, 0, none⟩) l.length cap))
      have hr : (Builtin.append_ #[24, 3] ty #[.slice (some ⟨g, 0, none⟩) l.length cap, .int .i64 k]).run Try.prog w = .ok (.slice (some ⟨w.heap.size, 0, none⟩) (l.length + k) (grownCap w (l.length + k) cap 5)) (w.drew.alloc (.cells ((bvals l).toArray ++ Builtin.zeroCells #[Value.int .u8 0] k ++ Builtin.zeroCells #[Value.int .u8 0] (grownCap w (l.length + k) cap 5 - (l.length + k))) 5)) := by
        simp [Builtin.append_, run_underlying Try.underlying24, run_underlying Try.underlying3, sizeOf, typeInfo, zeroValue, hi, hz0, hz1, hz2, hwr, hneg, h48, hk1, hroom, h63', h48', Question.forced, hfo, newRow, grownCap, Value.cells, asInt, asIntOf]
      exact ⟨_, _, hr, hgr.1, hgr.2⟩
/-- append(own, make([]byte, k)...). -/
theorem app_zeros (hgd : o.guard = none) (s x : Operand) (ho : o.op = .call { callee := .builtin .append, args := #[s, x], argTypes := #[24, 3] })
    (base : Nat) (v : Value) (l : List Int) (hs : a.eval s = v) (hown : OwnB w base v l) (k : Nat) (hx : a.eval x = .int .i64 (k : Int)) (hk0 : 0 < k) (hk : k ≤ 1000000) (h63 : l.length + k ≤ 2000000) (hbase : base ≤ w.heap.size)
    (h : ∀ v' w', OwnB w' base v' (l ++ List.replicate k 0) → w.grownBy w' v.ownBlock → wpList Try.prog ops Q rest (a.put o.dst v') w') : wpList Try.prog ops Q (o :: rest) a w := by
  refine wpList_plain hgd fun K hK' => ?_
  obtain ⟨v', w', hrun, h1, h2⟩ := run_append_zeros w base o.type v l hown k hk0 hk h63 hbase
  unfold Oper.wp
  simp [execOp, ho, resolve, invoke, builtin, hs, hx, hrun, Result.andThen]
  exact hK' _ _ (h v' w' h1 h2)
end

end Go.Proofs.Ytcbniifpbcgamaa
