/- Layer 12: join. -/
import Derived.Test.YtkjakaoimbmcjaaExtJ
namespace Go.Proofs.Ytkjakaoimbmcjaa
set_option linter.unusedSimpArgs false
set_option linter.unusedVariables false
open Go.RowKit

/-- The run at i, and the one ahead of it, are one if they are beside one another. -/
def joinL (l : List Pr) (i : Nat) : List Pr := if h : 1 ≤ i ∧ i < l.length then (if (l[i - 1]).hi = (l[i]).lo then (l.set (i - 1) ⟨(l[i - 1]).lo, (l[i]).hi⟩).eraseIdx i else l) else l
set_option maxRecDepth 100000 in
set_option maxHeartbeats 4000000 in
theorem join_1 (q base : Nat) (fr to : Int) (v : Value) (l : List Pr) (w : World) (h : Fr w q base fr to v l) (i : Nat) (hi : i < 1) : Calls Try.prog 30 #[.pointer (some ⟨q, 0, none⟩), .int .i64 i] w fun e w' => e = .returned (.tuple #[]) ∧ ∃ v', Hid (Fr w' q base fr to v' (joinL l i)) ∧ Hid (Only (tch q v) w w') ∧ (∀ g, v'.ownBlock = some g → v.ownBlock = some g) := by
  have hJ : joinL l i = l := by unfold joinL; rw [dif_neg (by omega)]
  have k0 : (i : Int) < 1 := by omega
  have HJ := hid hJ
  clear hJ
  obtain ⟨A, ca, rfl, hca, hnil⟩ := h.2.2.2.1.shape
  have HQ := hid h
  have hq1 := h.1
  have hq2 := h.2.1.2.2
  clear h
  go_enter Try.func30, Try.ntmps30
  go_upto_region 0 with (fail)
  refine wp_region_grow (by kernel_rfl) (by kernel_rfl) (by first | (simp only [List.append]; rfl) | rfl) ?_
  (repeat (go_big_quiet_step (fail)))
  refine wpQuiet_nil ?_
  intro wq hq
  obtain ⟨d, rfl⟩ := hq
  go_wp2
  refine bodyPost_ret (v := .tuple #[]) (by simp [results, Try.results30, go_sem]) rfl ?_
  refine ⟨rfl, _, hid (by rw [HJ.out]; exact HQ.out.ext (Ext.grow (Ext.refl _) d)), hid (Only.ofExt (Ext.grow (Ext.refl _) d)), fun g h => h⟩
theorem join_2 (q base : Nat) (fr to : Int) (v : Value) (l : List Pr) (w : World) (h : Fr w q base fr to v l) (i : Nat) (hi : 1 ≤ i) (hl : l.length ≤ i) : Calls Try.prog 30 #[.pointer (some ⟨q, 0, none⟩), .int .i64 i] w fun e w' => e = .returned (.tuple #[]) ∧ ∃ v', Hid (Fr w' q base fr to v' (joinL l i)) ∧ Hid (Only (tch q v) w w') ∧ (∀ g, v'.ownBlock = some g → v.ownBlock = some g) := by
  have hJ : joinL l i = l := by unfold joinL; rw [dif_neg (by omega)]
  have k0 : ¬ (i : Int) < 1 := by omega
  have k1 : (l.length : Int) ≤ (i : Int) := by omega
  have HJ := hid hJ
  clear hJ
  obtain ⟨A, ca, rfl, hca, hnil⟩ := h.2.2.2.1.shape
  have HQ := hid h
  have hq1 := h.1
  have hq2 := h.2.1.2.2
  clear h
  go_enter Try.func30, Try.ntmps30
  go_upto_region 0 with (fail)
  refine wp_region_grow (by kernel_rfl) (by kernel_rfl) (by first | (simp only [List.append]; rfl) | rfl) ?_
  (repeat (go_big_quiet_step (fail)))
  refine wpQuiet_nil ?_
  intro wq hq
  obtain ⟨d, rfl⟩ := hq
  go_wp2
  refine bodyPost_ret (v := .tuple #[]) (by simp [results, Try.results30, go_sem]) rfl ?_
  refine ⟨rfl, _, hid (by rw [HJ.out]; exact HQ.out.ext (Ext.grow (Ext.refl _) d)), hid (Only.ofExt (Ext.grow (Ext.refl _) d)), fun g h => h⟩
set_option maxRecDepth 100000 in
set_option maxHeartbeats 4000000 in
theorem join_3 (q base : Nat) (fr to : Int) (v : Value) (l : List Pr) (w : World) (h : Fr w q base fr to v l) (i m : Nat) (hmi : m < l.length) (him : i = m + 1) (hm : i < l.length) (hl9 : l.length ≤ 100000000) (hne : ¬ (l[m]).hi = (l[i]).lo) : Calls Try.prog 30 #[.pointer (some ⟨q, 0, none⟩), .int .i64 i] w fun e w' => e = .returned (.tuple #[]) ∧ ∃ v', Hid (Fr w' q base fr to v' (joinL l i)) ∧ Hid (Only (tch q v) w w') ∧ (∀ g, v'.ownBlock = some g → v.ownBlock = some g) := by
  have hJ : joinL l i = l := by
    subst him
    unfold joinL
    rw [dif_pos ⟨by omega, hm⟩, if_neg (by simpa using hne)]
  have HJ := hid hJ
  clear hJ
  obtain ⟨A, ca, rfl, hca, hnil⟩ := h.2.2.2.1.shape
  have HQ := hid h
  have hq1 := h.1
  have hq2 := h.2.1.2.2
  clear h
  obtain ⟨g, a, rfl⟩ : ∃ g a, A = some ⟨g, a, none⟩ := by
    rcases HQ.out.2.2.2.1.2 with ⟨_, h0⟩ | ⟨g, o, c, cur, e, _⟩
    · omega
    · simp only [Value.slice.injEq] at e
      exact ⟨g, _, e.1⟩
  have hgq : ¬ g = q := HQ.out.2.2.2.2.2 g rfl
  have hqg : ¬ q = g := fun h => hgq h.symm
  have hgl : g < w.heap.size := (HQ.out.2.2.2.1.lt g rfl).2
  have k0 : ¬ (i : Int) < 1 := by omega
  have k1 : (i : Int) < (l.length : Int) := by omega
  have k1b : ¬ (l.length : Int) ≤ (i : Int) := by omega
  have k2 : (0 : Int) ≤ (m : Int) := by omega
  have k3 : (0 : Int) ≤ (i : Int) := by omega
  have k4 : (m : Int) < (l.length : Int) := by omega
  have k6 : (i : Int) - 1 = (m : Int) := by omega
  have k7 : wrap64 (i : Int) = (i : Int) := wrapP (by omega) (by omega)
  have k8 : wrap64 (m : Int) = (m : Int) := wrapP (by omega) (by omega)
  obtain ⟨b', o', e', _, c0, c1⟩ := (HQ.out.2.2.2.1.rdP rfl).two (k := m) hmi
  simp only [Option.some.injEq, Addr.mk.injEq, and_true] at e'
  obtain ⟨e1, e2⟩ := e'
  rw [← e1, ← e2] at c0 c1
  clear e1 e2
  obtain ⟨b', o', e', _, c2, c3⟩ := (HQ.out.2.2.2.1.rdP rfl).two (k := i) hm
  simp only [Option.some.injEq, Addr.mk.injEq, and_true] at e'
  obtain ⟨e1, e2⟩ := e'
  rw [← e1, ← e2] at c2 c3
  clear e1 e2
  obtain ⟨x0, hx0⟩ : ∃ x, (l[m]).lo = x := ⟨_, rfl⟩
  obtain ⟨x1, hx1⟩ : ∃ x, (l[m]).hi = x := ⟨_, rfl⟩
  obtain ⟨y0, hy0⟩ : ∃ x, (l[i]).lo = x := ⟨_, rfl⟩
  obtain ⟨y1, hy1⟩ : ∃ x, (l[i]).hi = x := ⟨_, rfl⟩
  rw [hx0] at c0
  rw [hx1] at c1
  rw [hy0] at c2
  rw [hy1] at c3
  have HIM := hid him
  clear him
  rw [hx1, hy0] at hne
  clear hx0 hx1 hy0 hy1
  go_enter Try.func30, Try.ntmps30
  go_upto_region 0 with (fail)
  refine wp_region_grow (by kernel_rfl) (by kernel_rfl) (by first | (simp only [List.append]; rfl) | rfl) ?_
  (repeat (go_big_quiet_step (fail)))
  refine wpQuiet_nil ?_
  intro wq hq
  obtain ⟨d, rfl⟩ := hq
  go_wp2
  refine bodyPost_ret (v := .tuple #[]) (by simp [results, Try.results30, go_sem]) rfl ?_
  refine ⟨rfl, _, hid (by rw [HJ.out]; exact HQ.out.ext (Ext.grow (Ext.refl _) d)), hid (Only.ofExt (Ext.grow (Ext.refl _) d)), fun g h => h⟩
set_option maxRecDepth 100000 in
set_option maxHeartbeats 4000000 in
theorem join_4 (q base : Nat) (fr to : Int) (v : Value) (l : List Pr) (w : World) (h : Fr w q base fr to v l) (i m : Nat) (hmi : m < l.length) (him : i = m + 1) (hm : i < l.length) (hl9 : l.length ≤ 100000000) (heq : (l[m]).hi = (l[i]).lo) : Calls Try.prog 30 #[.pointer (some ⟨q, 0, none⟩), .int .i64 i] w fun e w' => e = .returned (.tuple #[]) ∧ ∃ v', Hid (Fr w' q base fr to v' (joinL l i)) ∧ Hid (Only (tch q v) w w') ∧ (∀ g, v'.ownBlock = some g → v.ownBlock = some g) := by
  have hJ : joinL l i = (l.set m ⟨(l[m]).lo, (l[i]).hi⟩).eraseIdx i := by
    subst him
    unfold joinL
    rw [dif_pos ⟨by omega, hm⟩, if_pos (by simpa using heq)]
    rfl
  have HJ := hid hJ
  clear hJ
  obtain ⟨A, ca, rfl, hca, hnil⟩ := h.2.2.2.1.shape
  have HQ := hid h
  have hq1 := h.1
  have hq2 := h.2.1.2.2
  clear h
  obtain ⟨g, a, rfl⟩ : ∃ g a, A = some ⟨g, a, none⟩ := by
    rcases HQ.out.2.2.2.1.2 with ⟨_, h0⟩ | ⟨g, o, c, cur, e, _⟩
    · omega
    · simp only [Value.slice.injEq] at e
      exact ⟨g, _, e.1⟩
  have hgq : ¬ g = q := HQ.out.2.2.2.2.2 g rfl
  have hqg : ¬ q = g := fun h => hgq h.symm
  have hgl : g < w.heap.size := (HQ.out.2.2.2.1.lt g rfl).2
  have k0 : ¬ (i : Int) < 1 := by omega
  have k1 : (i : Int) < (l.length : Int) := by omega
  have k1b : ¬ (l.length : Int) ≤ (i : Int) := by omega
  have k2 : (0 : Int) ≤ (m : Int) := by omega
  have k3 : (0 : Int) ≤ (i : Int) := by omega
  have k4 : (m : Int) < (l.length : Int) := by omega
  have k6 : (i : Int) - 1 = (m : Int) := by omega
  have k7 : wrap64 (i : Int) = (i : Int) := wrapP (by omega) (by omega)
  have k8 : wrap64 (m : Int) = (m : Int) := wrapP (by omega) (by omega)
  obtain ⟨b', o', e', _, c0, c1⟩ := (HQ.out.2.2.2.1.rdP rfl).two (k := m) hmi
  simp only [Option.some.injEq, Addr.mk.injEq, and_true] at e'
  obtain ⟨e1, e2⟩ := e'
  rw [← e1, ← e2] at c0 c1
  clear e1 e2
  obtain ⟨b', o', e', _, c2, c3⟩ := (HQ.out.2.2.2.1.rdP rfl).two (k := i) hm
  simp only [Option.some.injEq, Addr.mk.injEq, and_true] at e'
  obtain ⟨e1, e2⟩ := e'
  rw [← e1, ← e2] at c2 c3
  clear e1 e2
  obtain ⟨x0, hx0⟩ : ∃ x, (l[m]).lo = x := ⟨_, rfl⟩
  obtain ⟨x1, hx1⟩ : ∃ x, (l[m]).hi = x := ⟨_, rfl⟩
  obtain ⟨y0, hy0⟩ : ∃ x, (l[i]).lo = x := ⟨_, rfl⟩
  obtain ⟨y1, hy1⟩ : ∃ x, (l[i]).hi = x := ⟨_, rfl⟩
  rw [hx0] at c0
  rw [hx1] at c1
  rw [hy0] at c2
  rw [hy1] at c3
  have HIM := hid him
  clear him
  rw [hx1, hy0] at heq
  rw [hx0, hy1] at HJ
  have HX0 := hid hx0
  clear hx0 hx1 hy0 hy1
  subst heq
  have hm1 : m + 1 ≤ l.length := hmi
  obtain ⟨L, hL⟩ : ∃ L, l.length = L + 1 := ⟨l.length - 1, by omega⟩
  have HL := hid hL
  clear hL
  go_enter Try.func30, Try.ntmps30
  go_upto_region 0 with (fail)
  refine wp_region_grow (by kernel_rfl) (by kernel_rfl) (by first | (simp only [List.append]; rfl) | rfl) ?_
  (repeat (go_big_quiet_step (fail)))
  refine wpQuiet_nil ?_
  intro wq hq
  obtain ⟨d, rfl⟩ := hq
  go_upto_region 1 with (fail)
  refine wp_gen (fun W => Hid (Ext w W)) (hid (Ext.grow (Ext.refl _) d)) ?_
  rintro W0 hx0
  have HQ1 := hid (HQ.out.ext hx0.out)
  have hq1' : q < W0.heap.size := Nat.lt_of_lt_of_le hq1 hx0.out.size
  have hgl1 : g < W0.heap.size := Nat.lt_of_lt_of_le hgl hx0.out.size
  refine wp_region_turn (q := g) (.rd 0 (.rd 1 (.rd 2 (.rd 3 (.rd 4 (.rd 5 (.rd 6 (.rd 7 (.rd 8 (.rd 9 (.rd 10 (.rd 11 (.rd 12 (.rd 14 (.ac 13 (.rd 15 (.ac 16 .done))))))))))))))))) (by kernel_rfl) (by kernel_rfl) (fun _ _ d _ _ h => by cases d <;> exact h) (by simp only [Ord.map, nthOp, List.append]; rfl) ?_
  intro d0
  have hx1 : Ext W0 (Go.Proofs.Ytkjakaoimbmcjaa.grow W0 d0) := Ext.grow (Ext.refl _) d0
  have HQ3 := hid (HQ1.out.ext hx1)
  have hxw3 := hid (hx0.out.trans hx1)
  have c33 := (hxw3.out.cells g _ hgl).trans c3
  have c13 := (hxw3.out.cells g _ hgl).trans c1
  have hgl3 := Nat.lt_of_lt_of_le hgl1 hx1.size
  generalize Go.Proofs.Ytkjakaoimbmcjaa.grow W0 d0 = W at HQ3 hxw3 c33 c13 hgl3 ⊢
  clear HQ HQ1 hx0 hx1 c0 c1 c2 c3 hq1 hq2 hq1' hgl1
  have hq1 := HQ3.out.1
  have hq2 := HQ3.out.2.1.2.2
  have hfz : ∀ j, W.frozen? ⟨g, j, none⟩ = false := by
    obtain ⟨_, _, e, _, _, _, hf⟩ := HQ3.out.2.2.2.1.at_ rfl (by omega)
    simp only [Option.some.injEq, Addr.mk.injEq, and_true] at e
    rw [e.1]
    exact hf
  have hfz1 := hfz (a + m * 2 + 1)
  clear hfz
  repeat' (first | (refine turn_read (by rfl) (fun K hK => ?_); go_big_quiet_op; refine hK _ ?_; clear hK K) | (refine turn_act (by rfl) (fun K hK => ?_); go_wp2_with fail; refine ⟨_, Only.refl _ _, (by first | exact Only.refl _ _ | exact Only.setCell (S := fun k => k = g) (Only.refl _ _) (.inl rfl) _), ?_⟩))
  refine turn_nil ?_
  have hO4 : Only (fun k => k = g) W (W.setCell ⟨g, a + m * 2 + 1, none⟩ (.int .i64 y1)) := Only.setCell (S := fun k => k = g) (Only.refl _ _) (.inl rfl) _
  have hR4 : ownsAt (W.setCell ⟨g, a + m * 2 + 1, none⟩ (.int .i64 y1)) base 38 2 (.slice (some ⟨g, a, none⟩) l.length ca) l.length (prList (l.set m ⟨x0, y1⟩)) := by
    have := HQ3.out.2.2.2.1.putCell (m := l.set m ⟨x0, y1⟩) (off := m * 2 + 1) (u := .int .i64 y1) rfl (by rw [List.length_set]) (by omega) (fun j hj => ?_)
    · exact this
    have := prList_setHi l m y1 hmi j hj
    rwa [HX0.out] at this
  obtain ⟨a0, a1, a2⟩ := HQ3.out.2.1
  obtain ⟨f0, f1, f2⟩ := HQ3.out.2.2.1
  have hqs := HQ3.out.1
  have hFr : ∀ W', Only (fun k => k = g) W W' → Hid ((W'.cell? ⟨q, 0, none⟩ = some (.int .i64 fr) ∧ W'.cell? ⟨q, 1, none⟩ = some (.int .i64 to) ∧ W'.cell? ⟨q, 2, none⟩ = some (.slice (some ⟨g, a, none⟩) l.length ca)) ∧ (W'.frozen? ⟨q, 0, none⟩ = false ∧ W'.frozen? ⟨q, 1, none⟩ = false ∧ W'.frozen? ⟨q, 2, none⟩ = false)) := fun W' x =>
    hid ⟨⟨(x.cells q 0 hqs hqg).trans a0, (x.cells q 1 hqs hqg).trans a1, (x.cells q 2 hqs hqg).trans a2⟩, ⟨(x.frozens q 0 hqs hqg).trans f0, (x.frozens q 1 hqs hqg).trans f1, (x.frozens q 2 hqs hqg).trans f2⟩⟩
  have hF4 := hFr _ hO4
  have HR4 := hid hR4
  have HO4 := hid hO4
  have hbq := HQ3.out.2.2.2.2.1
  generalize W.setCell ⟨g, a + m * 2 + 1, none⟩ (.int .i64 y1) = W4 at HR4 HO4 hF4 ⊢
  clear hR4 hO4 a0 a1 a2 f0 f1 f2 hFr hq1 hq2 hfz1 c33 c13
  have hxg : Hid (Only (tch q (.slice (some ⟨g, a, none⟩) l.length ca)) w W4) := hid (Only.trans' (Only.ofExt hxw3.out) (HO4.out.mono (fun i e => .inr (by subst e; rfl))))
  clear hxw3 HQ3
  have hq1 : q < W4.heap.size := Nat.lt_of_lt_of_le hqs HO4.out.size
  have hown : ∀ n' c' g', (Value.slice (some ⟨g, a, none⟩) n' c').ownBlock = some g' → g' = g := fun n' c' g' e => by simp only [Value.ownBlock, Option.some.injEq] at e; exact e.symm
  rw [HL.out] at HR4 hF4 ⊢
  have hq2 := hF4.out.1.2.2
  have hf2 := hF4.out.2.2.2
  have hiL : i ≤ L := by have := HL.out; omega
  have hL9 : L ≤ 100000000 := by have := HL.out; omega
  clear k1 k1b k4
  go_wp2_with (go_at_call 26; refine (edel_ base g a L ca i (l.set m ⟨x0, y1⟩) _ HR4.out hiL (by omega)).mono ?_; rintro e w6 ⟨rfl, HR6, HO6⟩; have c26 := (HO6.out.cells q 2 hq1 hqg).trans hq2; have f26 := (HO6.out.frozens q 2 hq1 hqg).trans hf2; have hq6 : q < w6.heap.size := Nat.lt_of_lt_of_le hq1 HO6.out.size)
  refine bodyPost_end (v := .tuple #[]) (by simp [results, Try.results30, go_sem]) rfl ?_
  have hx6 := Only.trans' hxg.out (HO6.out.mono (T := tch q (.slice (some ⟨g, a, none⟩) l.length ca)) (fun i e => .inr (by subst e; rfl)))
  have hS : ∀ u, Only (fun k => k = q) w6 (w6.setCell ⟨q, 2, none⟩ u) := fun u => Only.setCell (S := fun k => k = q) (Only.refl _ _) (.inl rfl) _
  have b0 := (HO6.out.cells q 0 hq1 hqg).trans hF4.out.1.1
  have b1 := (HO6.out.cells q 1 hq1 hqg).trans hF4.out.1.2.1
  have b2 := (HO6.out.frozens q 0 hq1 hqg).trans hF4.out.2.1
  have b3 := (HO6.out.frozens q 1 hq1 hqg).trans hF4.out.2.2.1
  have hle : ((l.set m ⟨x0, y1⟩).eraseIdx i).length = L := by rw [List.length_eraseIdx, List.length_set, if_pos hm, HL.out]; omega
  refine ⟨rfl, .slice (some ⟨g, a, none⟩) L ca, hid ?_, hid (Only.setCell (S := tch q (.slice (some ⟨g, a, none⟩) l.length ca)) hx6 (Or.inl (Or.inl rfl)) _), fun g' h' => h'⟩
  rw [HJ.out]
  refine ⟨by simpa using hq6, ⟨by simp [go_sem, b0], by simp [go_sem, b1], by simp [go_sem, c26]⟩, ⟨by simp [go_sem, b2], by simp [go_sem, b3], by simp [go_sem, f26]⟩, ?_, hbq, fun g' h' => (hown _ _ g' h') ▸ hgq⟩
  rw [hle]
  exact HR6.out.only (hS (.slice (some ⟨g, a, none⟩) L ca)) (fun g' h' => (hown _ _ g' h') ▸ hgq)

end Go.Proofs.Ytkjakaoimbmcjaa
