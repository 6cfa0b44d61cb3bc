/- Layer 12: rows that turn in place. -/
import Derived.Test.YtkjakaoimbmcjaaExtC
import Derived.Test.YtkjakaoimbmcjaaStepT
import Derived.Laws.IdiomCopy
import Derived.Deep.AppendSrc
import Derived.Lib.AppendZeros
namespace Go.Proofs.Ytkjakaoimbmcjaa
set_option linter.unusedSimpArgs false
set_option linter.unusedVariables false
open Go.RowKit

theorem ownsAt.raw {w : World} {base g a n cap : Nat} {e : TypeId} {size : Nat} {xs : List Value} (h : ownsAt w base e size (.slice (some ⟨g, a, none⟩) n cap) n xs) :
    ∃ o cur, a = o * size ∧ base ≤ g ∧ w.heap[g]? = some (.cells cur e (0, 0)) ∧ n ≤ cap ∧ o + cap ≤ maxLen ∧ (cap = 0 ∨ cur.size = (o + cap) * size) ∧ (cur.toList.drop (o * size)).take (n * size) = xs := by
  rcases h.2 with ⟨h1, _⟩ | ⟨g', o, cap', cur, hv, hb, hg, hn, hm, hs, ht⟩
  · cases h1
  · simp only [Value.slice.injEq, Option.some.injEq, Addr.mk.injEq, and_true, true_and] at hv
    obtain ⟨⟨rfl, rfl⟩, rfl⟩ := hv
    exact ⟨o, cur, rfl, hb, hg, hn, hm, hs, ht⟩
theorem ownsAt.of {w : World} {base g o n cap : Nat} {e : TypeId} {size : Nat} {ys : Array Value} {xs : List Value} (hb : base ≤ g) (hg : w.heap[g]? = some (.cells ys e (0, 0))) (hn : n ≤ cap) (hm : o + cap ≤ maxLen) (hs : ys.size = (o + cap) * size) (hl : xs.length = n * size)
    (hc : ∀ j, j < n * size → ys.toList[o * size + j]? = xs[j]?) : ownsAt w base e size (.slice (some ⟨g, o * size, none⟩) n cap) n xs := by
  refine ⟨hl, .inr ⟨g, o, cap, ys, rfl, hb, hg, hn, hm, .inr hs, ?_⟩⟩
  apply List.ext_getElem?
  intro j
  by_cases hj : j < n * size
  · rw [List.getElem?_take, if_pos hj, List.getElem?_drop, hc j hj]
  · rw [List.getElem?_eq_none (by simp; omega), List.getElem?_eq_none (by rw [hl]; omega)]
theorem raw_at {cur : Array Value} {o n size : Nat} {xs : List Value} (h : (cur.toList.drop (o * size)).take (n * size) = xs) {j : Nat} (hj : j < n * size) : cur.toList[o * size + j]? = xs[j]? := by
  rw [← h, List.getElem?_take, if_pos hj, List.getElem?_drop]
/-- 'clear' at one element of two cells. -/
theorem run_clear2 (w : World) (ty : TypeId) (b off c : Nat) (h0 : (w.cell? ⟨b, off, none⟩).isSome = true) (h1 : (w.cell? ⟨b, off + 1, none⟩).isSome = true) (f0 : w.frozen? ⟨b, off, none⟩ = false) (f1 : w.frozen? ⟨b, off + 1, none⟩ = false) :
    (Builtin.clear_ #[35] ty #[.slice (some ⟨b, off, none⟩) 1 c]).run Try.prog w = .ok (.tuple #[]) (w.setCells b off [.int .i64 0, .int .i64 0]) := by
  obtain ⟨i0, z0, hi0, hz0, hz1, hz2, hz3, rfl⟩ := pr_info
  have hst := run_storeCells_cells (P := Try.prog) b off [.int .i64 0, .int .i64 0] 0 w (by
    intro j hj
    match j, hj with
    | 0, _ => exact h0
    | 1, _ => exact h1) (by
    intro j hj
    match j, hj with
    | 0, _ => exact f0
    | 1, _ => exact f1) (by intro v hv; simp at hv; rw [hv]; rfl)
  simp only [Nat.add_zero] at hst
  have hzc : (Builtin.zeroCells (Value.agg #[.int .i64 0, .int .i64 0]).cells 1).toList = [.int .i64 0, .int .i64 0] := by simp [Builtin.zeroCells, Value.cells]; rfl
  have hv : ∀ w, (zeroValue 38).run Try.prog w = .ok (.agg #[.int .i64 0, .int .i64 0]) w := fun w => by
    simp [zeroValue, typeInfo, hi0, hz0]
  simp [Builtin.clear_, run_underlying Try.underlying35, hv, hzc, hst]
/-- 'append' in place: there is room. -/
theorem run_app_in (w : World) (ty : TypeId) (base g a cap n : Nat) (xs : List Value) (h : ownsAt w base 38 2 (.slice (some ⟨g, a, none⟩) n cap) n xs) (i m c : Nat) (ad : Addr) (news : List Value) (hi : i + m ≤ cap) (hl : news.length = m * 2) (nn : Nat) (hnn : i + m = nn)
    (hnews : ∀ j u, news[j]? = some u → w.cell? (ad.add j) = some u) (h1 : ∀ u ∈ news, u.oneCell' = true) :
    (Builtin.append_ #[35, 35] ty #[.slice (some ⟨g, a, none⟩) i cap, .slice (some ad) m c]).run Try.prog w = .ok (.slice (some ⟨g, a, none⟩) nn cap) (w.setCells g (a + i * 2) news) := by
  subst hnn
  obtain ⟨i0, z0, hi0, hz0, hz1, hz2, hz3, _⟩ := pr_info
  obtain ⟨o, cur, rfl, hb, hg, hn, hm, hs, ht⟩ := h.raw
  by_cases hc0 : cap = 0
  · obtain rfl : m = 0 := by omega
    obtain rfl : i = 0 := by omega
    obtain rfl : news = [] := List.eq_nil_of_length_eq_zero (by omega)
    have hsrc : Src Try.prog i0.size 35 (.slice (some ad) 0 c) 0 [] w := Src.ofSlice w Try.underlying35 ad 0 c [] (by simp) hnews h1
    have := run_append_room_src (P := Try.prog) w 35 35 ty 38 i0 Try.underlying35 hi0 g (o * 2) 0 cap _ 0 [] hsrc hi (by intro j hj; simp at hj) (by intro j hj; simp at hj)
    rw [hz2] at this
    exact this
  · have hs := hs.resolve_left hc0
    have hsrc : Src Try.prog i0.size 35 (.slice (some ad) m c) m news w := Src.ofSlice w Try.underlying35 ad m c news (by rw [hz2]; exact hl) hnews h1
    have := run_append_room_src (P := Try.prog) w 35 35 ty 38 i0 Try.underlying35 hi0 g (o * 2) i cap _ m news hsrc hi
      (fun j hj => by rw [hz2, cell_of_row w g _ cur 38 (0, 0) hg, Array.getElem?_eq_getElem (by omega)]; rfl) (fun j hj => by simp [World.frozen?, hg])
    rw [hz2] at this
    exact this
set_option maxRecDepth 100000 in
set_option maxHeartbeats 4000000 in
theorem edel_ (base g a m cap i : Nat) (l : List Pr) (w : World) (h : ownsAt w base 38 2 (.slice (some ⟨g, a, none⟩) (m + 1) cap) (m + 1) (prList l)) (hi : i ≤ m) (hbig : m ≤ 1000000000) :
    Calls Try.prog 26 #[.slice (some ⟨g, a, none⟩) (m + 1) cap, .int .i64 i, .int .i64 ((i : Int) + 1)] w fun e w' => e = .returned (.slice (some ⟨g, a, none⟩) m cap) ∧ Hid (ownsAt w' base 38 2 (.slice (some ⟨g, a, none⟩) m cap) m (prList (l.eraseIdx i))) ∧ Hid (Only (fun k => k = g) w w') := by
  have hll : l.length = m + 1 := by have := h.1; rw [prList_length] at this; omega
  have HL := hid hll
  have HH := hid h
  have hnc : m + 1 ≤ cap := by obtain ⟨_, _, _, _, _, hnc, _⟩ := h.raw; exact hnc
  have hgl : g < w.heap.size := by obtain ⟨_, cur, _, _, hg, _⟩ := h.raw; exact (Array.getElem?_eq_some_iff.1 hg).1
  have hcm : cap ≤ 9223372036854775807 := by obtain ⟨_, _, _, _, _, _, hm, _⟩ := h.raw; unfold maxLen at hm; omega
  clear h hll
  have k0 : (0 : Int) ≤ (i : Int) := by omega
  have k1 : (i : Int) < (m : Int) + 1 := by omega
  have k2 : (i : Int) + 1 ≤ (m : Int) + 1 := by omega
  have k3 : (m : Int) + 1 ≤ (cap : Int) := by omega
  have k4 : (i : Int) ≤ (m : Int) + 1 := by omega
  have k5 : ¬ (i : Int) = (i : Int) + 1 := by omega
  have k6 : ¬ (m : Int) + 1 = (i : Int) := by omega
  have k7 : ¬ m + 1 = i := by omega
  have k8 : (i : Int) ≤ (i : Int) + 1 := by omega
  have k9 : ((i : Int) + 1).toNat = i + 1 := by omega
  have k10 : (0 : Int) ≤ (i : Int) + 1 := by omega
  have k11 : (i : Int) + 1 ≤ (cap : Int) := by omega
  have k12 : (i : Int) ≤ (cap : Int) := by omega
  have k14 : (0 : Int) ≤ (m : Int) := by omega
  have k15 : (m : Int) ≤ (m : Int) + 1 := by omega
  have k16 : (m : Int) ≤ (cap : Int) := by omega
  have k17 : ¬ cap = m := by omega
  have k18 : ¬ (cap : Int) = (m : Int) := by omega
  have k19 : i ≤ m := hi
  go_enter Try.func26, Try.ntmps26
  go_upto_region 5 with (fail)
  by_cases hci : cap = i + 1
  · have k13 : (cap : Int) = (i : Int) + 1 := by omega
    obtain rfl : m = i := by omega
    subst hci
    refine wp_region_turn (q := g) (.rd 0 (.rd 1 (.rd 2 (.rd 3 (.rd 4 (.rd 5 (.ac 6 (.rd 7 .done)))))))) (by kernel_rfl) (by kernel_rfl) (fun _ _ d _ _ h => by cases d <;> exact h) (by simp only [Ord.map, nthOp, List.append]; rfl) ?_
    intro d0
    have hx0 : Ext w (Go.Proofs.Ytkjakaoimbmcjaa.grow w d0) := Ext.grow (Ext.refl _) d0
    have HW := hid (HH.out.ext hx0)
    have hxo := hid (Only.ofExt (S := fun k => k = g) hx0)
    generalize Go.Proofs.Ytkjakaoimbmcjaa.grow w d0 = W at HW hxo ⊢
    clear hx0
    have HNEWS : Hid (∀ j u, ([] : List Value)[j]? = some u → W.cell? (Addr.add ⟨g, a, none⟩ j) = some u) := hid (fun j u hj => by simp at hj)
    repeat' (first | (refine turn_read (by rfl) (fun K hK => ?_); go_big_quiet_op; refine hK _ ?_; clear hK K) | (refine turn_act (by rfl) (fun K hK => ?_); refine Go.Lib.wp_append_run _ (.tmp 22) (.tmp 25) 35 35 rfl _ _ rfl rfl _ _ (run_app_in W _ base g a (m + 1) _ _ HW.out m 0 _ ⟨g, a, none⟩ ([] : List Value) (by omega) (by simp) m (by omega) (HNEWS.out) (by intro u hu; simp at hu)) ?_; refine hK _ _ ⟨_, Only.refl _ _, Only.setCells (S := fun k => k = g) (.inl rfl) _ _ (Only.refl _ _), ?_⟩; clear hK K; simp only [Act.put, List.setIfInBounds_toArray, List.set_cons_zero, List.set_cons_succ]))
    refine turn_nil ?_
    obtain ⟨o, cur, rfl, hb, hg, hn, hm, hs, ht⟩ := HW.out.raw
    obtain ⟨ys, y1, y2, y3⟩ := setCells_row ([] : List Value) (o * 2 + m * 2) W cur hg
    have hO2 : Hid (Only (fun k => k = g) w (W.setCells g (o * 2 + m * 2) ([] : List Value))) := hid (Only.trans' hxo.out (Only.setCells (S := fun k => k = g) (.inl rfl) _ _ (Only.refl _ _)))
    have hs := hs.resolve_left (by omega)
    have Y1 := hid y1
    have Y2 := hid y2
    have Y3 := hid y3
    have HT := hid ht
    have HS := hid hs
    generalize W.setCells g (o * 2 + m * 2) ([] : List Value) = W2 at Y1 hO2 ⊢
    clear y1 y2 y3 hg ht hs HNEWS hxo HW
    have hcl : ∀ ty, (Builtin.clear_ #[35] ty #[.slice (some ⟨g, o * 2 + m * 2, none⟩) 1 (1)]).run Try.prog W2 = .ok (.tuple #[]) (W2.setCells g (o * 2 + m * 2) [.int .i64 0, .int .i64 0]) := fun ty => by
      have hsz : o * 2 + m * 2 + 1 < ys.size := by rw [Y2.out, HS.out]; omega
      exact run_clear2 W2 ty g _ _ (by rw [cell_of_row W2 g _ ys 38 (0, 0) Y1.out, Array.getElem?_eq_getElem (by omega)]; rfl) (by rw [cell_of_row W2 g _ ys 38 (0, 0) Y1.out, Array.getElem?_eq_getElem (by omega)]; rfl) (by simp [World.frozen?, Y1.out]) (by simp [World.frozen?, Y1.out])
    go_wp2
    go_ret
    obtain ⟨zs, z1, z2, z3⟩ := setCells_row [.int .i64 0, .int .i64 0] (o * 2 + m * 2) W2 ys Y1.out
    refine ⟨rfl, hid (ownsAt.of hb z1 (by omega) hm (by rw [z2, Y2.out, HS.out]) (by rw [prList_length, List.length_eraseIdx, HL.out, if_pos (by omega)]; omega) (fun j hj => ?_)), hid (Only.trans' hO2.out (Only.setCells (S := fun k => k = g) (.inl rfl) _ _ (Only.refl _ _)))⟩
    have h2 := HS.out
    have h4 := Y2.out
    have h5 : ([] : List Value).length = 0 * 2 := (by simp)
    rw [z3, if_neg (by simp only [List.length_cons, List.length_nil]; omega), Y3.out, List.eraseIdx_eq_take_drop_succ, prList_append]
    by_cases hji : j < m * 2
    · rw [if_neg (by omega), raw_at HT.out (by omega), List.getElem?_append_left (by rw [prList_length, List.length_take]; have := HL.out; omega), ← prList_take, List.getElem?_take, if_pos hji]
    · omega
  · have k13 : ¬ (cap : Int) = (i : Int) + 1 := by omega
    refine wp_region_turn (q := g) (.rd 0 (.rd 1 (.rd 2 (.rd 3 (.rd 4 (.rd 5 (.ac 6 (.rd 7 .done)))))))) (by kernel_rfl) (by kernel_rfl) (fun _ _ d _ _ h => by cases d <;> exact h) (by simp only [Ord.map, nthOp, List.append]; rfl) ?_
    intro d0
    have hx0 : Ext w (Go.Proofs.Ytkjakaoimbmcjaa.grow w d0) := Ext.grow (Ext.refl _) d0
    have HW := hid (HH.out.ext hx0)
    have hxo := hid (Only.ofExt (S := fun k => k = g) hx0)
    generalize Go.Proofs.Ytkjakaoimbmcjaa.grow w d0 = W at HW hxo ⊢
    clear hx0
    have HNEWS : Hid (∀ j u, (prList (l.drop (i + 1)))[j]? = some u → W.cell? (Addr.add ⟨g, a + (i + 1) * 2, none⟩ j) = some u) := hid (fun j u hj => by
          have hlt := (List.getElem?_eq_some_iff.1 hj).1
          rw [prList_length, List.length_drop, HL.out] at hlt
          obtain ⟨o, cur, rfl, _, hg, _, _, _, ht⟩ := HW.out.raw
          rw [Addr.add_lit, cell_of_row W g _ cur 38 (0, 0) hg, ← Array.getElem?_toList, show o * 2 + (i + 1) * 2 + j = o * 2 + ((i + 1) * 2 + j) by omega, raw_at ht (by omega), ← List.getElem?_drop, prList_drop]
          exact hj)
    repeat' (first | (refine turn_read (by rfl) (fun K hK => ?_); go_big_quiet_op; refine hK _ ?_; clear hK K) | (refine turn_act (by rfl) (fun K hK => ?_); refine Go.Lib.wp_append_run _ (.tmp 22) (.tmp 25) 35 35 rfl _ _ rfl rfl _ _ (run_app_in W _ base g a cap _ _ HW.out i (m - i) _ ⟨g, a + (i + 1) * 2, none⟩ (prList (l.drop (i + 1))) (by omega) (by rw [prList_length, List.length_drop, HL.out]; omega) m (by omega) (HNEWS.out) (prs_one _)) ?_; refine hK _ _ ⟨_, Only.refl _ _, Only.setCells (S := fun k => k = g) (.inl rfl) _ _ (Only.refl _ _), ?_⟩; clear hK K; simp only [Act.put, List.setIfInBounds_toArray, List.set_cons_zero, List.set_cons_succ]))
    refine turn_nil ?_
    obtain ⟨o, cur, rfl, hb, hg, hn, hm, hs, ht⟩ := HW.out.raw
    obtain ⟨ys, y1, y2, y3⟩ := setCells_row (prList (l.drop (i + 1))) (o * 2 + i * 2) W cur hg
    have hO2 : Hid (Only (fun k => k = g) w (W.setCells g (o * 2 + i * 2) (prList (l.drop (i + 1))))) := hid (Only.trans' hxo.out (Only.setCells (S := fun k => k = g) (.inl rfl) _ _ (Only.refl _ _)))
    have hs := hs.resolve_left (by omega)
    have Y1 := hid y1
    have Y2 := hid y2
    have Y3 := hid y3
    have HT := hid ht
    have HS := hid hs
    generalize W.setCells g (o * 2 + i * 2) (prList (l.drop (i + 1))) = W2 at Y1 hO2 ⊢
    clear y1 y2 y3 hg ht hs HNEWS hxo HW
    have hcl : ∀ ty, (Builtin.clear_ #[35] ty #[.slice (some ⟨g, o * 2 + m * 2, none⟩) 1 (cap - m)]).run Try.prog W2 = .ok (.tuple #[]) (W2.setCells g (o * 2 + m * 2) [.int .i64 0, .int .i64 0]) := fun ty => by
      have hsz : o * 2 + m * 2 + 1 < ys.size := by rw [Y2.out, HS.out]; omega
      exact run_clear2 W2 ty g _ _ (by rw [cell_of_row W2 g _ ys 38 (0, 0) Y1.out, Array.getElem?_eq_getElem (by omega)]; rfl) (by rw [cell_of_row W2 g _ ys 38 (0, 0) Y1.out, Array.getElem?_eq_getElem (by omega)]; rfl) (by simp [World.frozen?, Y1.out]) (by simp [World.frozen?, Y1.out])
    go_wp2
    go_ret
    obtain ⟨zs, z1, z2, z3⟩ := setCells_row [.int .i64 0, .int .i64 0] (o * 2 + m * 2) W2 ys Y1.out
    refine ⟨rfl, hid (ownsAt.of hb z1 (by omega) hm (by rw [z2, Y2.out, HS.out]) (by rw [prList_length, List.length_eraseIdx, HL.out, if_pos (by omega)]; omega) (fun j hj => ?_)), hid (Only.trans' hO2.out (Only.setCells (S := fun k => k = g) (.inl rfl) _ _ (Only.refl _ _)))⟩
    have h2 := HS.out
    have h4 := Y2.out
    have h5 : (prList (l.drop (i + 1))).length = (m - i) * 2 := (by rw [prList_length, List.length_drop, HL.out]; omega)
    rw [z3, if_neg (by simp only [List.length_cons, List.length_nil]; omega), Y3.out, List.eraseIdx_eq_take_drop_succ, prList_append]
    by_cases hji : j < i * 2
    · rw [if_neg (by omega), raw_at HT.out (by omega), List.getElem?_append_left (by rw [prList_length, List.length_take]; have := HL.out; omega), ← prList_take, List.getElem?_take, if_pos hji]
    · rw [if_pos (by omega), List.getElem?_append_right (by rw [prList_length, List.length_take]; have := HL.out; omega), prList_length, List.length_take, show o * 2 + j - (o * 2 + i * 2) = j - min i l.length * 2 by have := HL.out; omega]

end Go.Proofs.Ytkjakaoimbmcjaa
