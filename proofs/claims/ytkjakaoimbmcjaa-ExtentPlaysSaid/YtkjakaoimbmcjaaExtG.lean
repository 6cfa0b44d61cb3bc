/- Layer 12: slices.Insert into a new row. -/
import Derived.Test.YtkjakaoimbmcjaaExtF
import Derived.Lib.AppendZerosOnto
namespace Go.Proofs.Ytkjakaoimbmcjaa
set_option linter.unusedSimpArgs false
set_option linter.unusedVariables false
open Go.RowKit

set_option maxRecDepth 100000 in
set_option maxHeartbeats 4000000 in
theorem einsGrow_ (w : World) (base : Nat) (p : Pr) (vb : Nat) (hV : w.heap[vb]? = some (.cells #[.int .i64 p.lo, .int .i64 p.hi] 38 (0, 0))) (g a n cap i : Nat) (l : List Pr) (h : ownsAt w base 38 2 (.slice (some ⟨g, a, none⟩) n cap) n (prList l)) (hi : i < n) (hroom : ¬ n + 1 ≤ cap) (hbig : n ≤ 100000000) (hbase : base ≤ w.heap.size) :
    Calls Try.prog 29 #[.slice (some ⟨g, a, none⟩) n cap, .int .i64 i, .slice (some ⟨vb, 0, none⟩) 1 1] w fun e w' => ∃ v', e = .returned v' ∧ Hid (ownsAt w' base 38 2 v' (n + 1) (prList (l.take i ++ p :: l.drop i))) ∧ Hid (Only (fun k => (Value.slice (some ⟨g, a, none⟩) n cap).ownBlock = some k) w w') ∧ ∀ g', v'.ownBlock = some g' → (Value.slice (some ⟨g, a, none⟩) n cap).ownBlock = some g' ∨ w.heap.size ≤ g' := by
  have hll : l.length = n := by have := h.1; rw [prList_length] at this; omega
  have HL := hid hll
  have HH := hid h
  have HV := hid hV
  have hnc : n ≤ cap := by obtain ⟨_, _, _, _, _, hnc, _⟩ := h.raw; exact hnc
  have hgl : g < w.heap.size := by obtain ⟨_, cur, _, _, hg, _⟩ := h.raw; exact (Array.getElem?_eq_some_iff.1 hg).1
  have hvl : vb < w.heap.size := (Array.getElem?_eq_some_iff.1 hV).1
  have k0 : (0 : Int) ≤ (i : Int) := by omega
  have k1 : (i : Int) < (n : Int) := by omega
  have k2 : (i : Int) ≤ (n : Int) := by omega
  have k3 : (n : Int) ≤ (cap : Int) := by omega
  have k4 : ¬ (i : Int) = (n : Int) := by omega
  have k4n : ¬ i = n := by omega
  have k6 : ¬ (cap : Int) = (i : Int) := by omega
  have k7 : ¬ cap = i := by omega
  have k8 : (i : Int) ≤ (cap : Int) := by omega
  have k9 : ((i : Int) + 1).toNat = i + 1 := by omega
  have k10 : (0 : Int) ≤ (i : Int) + 1 := by omega
  have k11 : (i : Int) + 1 ≤ (n : Int) + 1 := by omega
  have k11b : (i : Int) + 1 ≤ (n : Int) := by omega
  have k12 : (i : Int) ≤ (n : Int) + 1 := by omega
  have k13 : (0 : Int) ≤ (n : Int) + 1 := by omega
  have k14 : ((n : Int) + 1).toNat = n + 1 := by omega
  obtain rfl : cap = n := by omega
  have k20 : (cap : Int) < (cap : Int) + 1 := by omega
  obtain ⟨i0, z0, hi0, hz0, hz1, hz2, hz3, rfl⟩ := pr_info
  have hold : (Builtin.firstCells i0.size i (.slice (some ⟨g, a, none⟩) i cap)).run Try.prog w.drew = .ok (prList (l.take i)).toArray w.drew := by
    rw [hz2]
    refine run_firstCells_some w.drew 2 i ⟨g, a, none⟩ i cap (prList (l.take i)) (by rw [prList_length, List.length_take, hll]; omega) (fun j v hj => ?_)
    have hlt := (List.getElem?_eq_some_iff.1 hj).1
    rw [prList_length, List.length_take, hll] at hlt
    obtain ⟨o, cur, rfl, _, hg, _, _, _, ht⟩ := h.raw
    rw [Addr.add_lit]
    show w.cell? _ = _
    rw [cell_of_row w g _ cur 38 (0, 0) hg, ← Array.getElem?_toList, raw_at ht (by omega)]
    rw [← prList_take, List.getElem?_take, if_pos (by omega)] at hj
    exact hj
  obtain ⟨G, hG⟩ : ∃ G, G = grownCap w (cap + 1) cap 38 := ⟨_, rfl⟩
  obtain ⟨ROW, hROW⟩ : ∃ ROW : Array Value, ROW = (prList (l.take i)).toArray ++ Builtin.zeroCells (Value.agg #[.int .i64 0, .int .i64 0]).cells (cap + 1 - i) ++ Builtin.zeroCells (Value.agg #[.int .i64 0, .int .i64 0]).cells (G - (cap + 1)) := ⟨_, rfl⟩
  have hrz : ∀ ty, (Builtin.append_ #[35, 3] ty #[.slice (some ⟨g, a, none⟩) i cap, .int .i64 ((cap : Int) + 1 - (i : Int))]).run Try.prog w = .ok (.slice (some ⟨w.heap.size, 0, none⟩) (cap + 1) G) (w.drew.alloc (.cells ROW 38)) := fun ty => by
    have h := Lib.run_append_grow_zeros w 35 3 ty 38 i0 _ .i64 .i64 Try.underlying35 Try.underlying3 hi0 hz0 (some ⟨g, a, none⟩) i cap (prList (l.take i)) hold (cap + 1 - i) (by omega) (by omega) (by omega) (by omega) (by rw [hz3]; omega) (by rw [hz3, show i + (cap + 1 - i) = cap + 1 by omega]; exact growslice_fits (by omega) (by omega))
    rw [show i + (cap + 1 - i) = cap + 1 by omega, ← hG, ← hROW] at h
    rw [show (cap : Int) + 1 - (i : Int) = ((cap + 1 - i : Nat) : Int) by omega]
    exact h
  have HRZ := hid hrz
  have hGn : cap + 1 ≤ G := by rw [hG]; exact grownCap_ge w _ _ _
  have hG63 : G ≤ maxLen := by rw [hG]; exact grownCap_le_maxLen w (cap + 1) cap 38 (by unfold maxLen; omega)
  have hRS : Hid (ROW.size = G * 2) := hid (by rw [hROW]; simp [Builtin.zeroCells, Value.cells, prList_length, hll]; omega)
  have hRA : Hid (∀ j, j < i * 2 → ROW.toList[j]? = (prList l)[j]?) := hid (fun j hj => by
    rw [hROW, Array.toList_append, Array.toList_append, List.append_assoc, List.getElem?_append_left (by simp [prList_length, hll]; omega)]
    show (prList (l.take i))[j]? = _
    rw [← prList_take, List.getElem?_take, if_pos hj])
  have h63i : (G : Int) ≤ 9223372036854775807 := by unfold maxLen at hG63; omega
  have k22 : ¬ G = i := by omega
  have k22i : ¬ (G : Int) = (i : Int) := by omega
  have k23 : ¬ G = i + 1 := by omega
  have k23i : ¬ (G : Int) = (i : Int) + 1 := by omega
  have k25 : (cap : Int) + 1 ≤ (G : Int) := by omega
  have k26 : (i : Int) ≤ (G : Int) := by omega
  have k27 : (i : Int) + 1 ≤ (G : Int) := by omega
  obtain ⟨N, hN⟩ : ∃ x, w.heap.size = x := ⟨_, rfl⟩
  have hgN : g < N := by omega
  have hvN : vb < N := by omega
  clear h hV hll hold hrz hROW hG hi0 hz0 hz1 hz2 hz3
  go_enter Try.func29, Try.ntmps29
  go_upto_region 10 with (at_builtin; refine Go.Lib.wpList_append_run _ rfl _ _ 35 3 rfl _ _ rfl rfl _ _ (HRZ.out _) ?_)
  refine wp_gen (fun W => Hid (Ext w W) ∧ Hid (W.heap[N]? = some (.cells ROW 38 (0, 0)))) ⟨hid ?e1, hid ?e2⟩ ?_
  case e1 => exact (by repeat (first | (with_reducible exact Ext.refl _) | (with_reducible refine Ext.undrew ?_) | (with_reducible refine Ext.grow ?_ _) | (with_reducible refine Ext.drew ?_) | (with_reducible refine Ext.drewN ?_ _) | (with_reducible refine Ext.alloc ?_ _) | (with_reducible assumption) | ((with_reducible refine Ext.setCell ?_ ?_ _); rotate_left; (first | exact Nat.le_refl _ | ((try dsimp only); (try simp only [World.size_alloc, grow_size, World.size_setCell]); omega)))))
  case e2 => subst hN; exact heap_alloc_new w.drew _
  rintro W1 ⟨hx1, hR1⟩
  try rw [hN]
  clear HRZ
  have HV1 : Hid (W1.heap[vb]? = some (.cells #[.int .i64 p.lo, .int .i64 p.hi] 38 (0, 0))) := hid (by rw [(Only.ofExt (S := fun _ => False) hx1.out).block vb hvl id]; exact HV.out)
  have hcpA : ∀ ty dc, (Builtin.copy_ #[35, 35] ty #[.slice (some ⟨N, i * 2, none⟩) (cap + 1 - i) dc, .slice (some ⟨vb, 0, none⟩) 1 1]).run Try.prog W1 = .ok (goInt 1) (W1.setCells N (i * 2) [.int .i64 p.lo, .int .i64 p.hi]) := fun ty dc =>
    run_copy2 W1 ty N (i * 2) (cap + 1 - i) dc ⟨vb, 0, none⟩ 1 1 [.int .i64 p.lo, .int .i64 p.hi] ROW 1 (by simp only [Nat.min_def]; split <;> omega) rfl hR1.out (by rw [hRS.out]; simp; omega) (fun j u hj => by rw [Addr.add_lit, Nat.zero_add, cell_of_row W1 vb _ _ 38 (0, 0) HV1.out, ← Array.getElem?_toList]; exact hj) (pr_one p)
  go_upto_region 11 with (fail)
  clear hcpA
  obtain ⟨ys, y1, y2, y3⟩ := setCells_row [.int .i64 p.lo, .int .i64 p.hi] (i * 2) W1 ROW hR1.out
  have hO2 : Hid (Only (fun k => k = N) W1 (W1.setCells N (i * 2) [.int .i64 p.lo, .int .i64 p.hi])) := hid (Only.setCells (S := fun k => k = N) (.inl rfl) _ _ (Only.refl _ _))
  refine wp_gen (fun W => Hid (Only (fun k => k = N) W1 W) ∧ Hid (W.heap[N]? = some (.cells ys 38 (0, 0)))) ⟨hO2, hid y1⟩ ?_
  clear hO2 y1
  rintro W2 ⟨hO2, Y1⟩
  have Y2 := hid y2
  have Y3 := hid y3
  clear y2 y3
  refine wp_region_turn (q := N) (.rd 0 (.rd 1 (.rd 2 (.rd 3 (.rd 4 (.rd 5 (.rd 6 (.rd 7 (.ac 8 .done))))))))) (by kernel_rfl) (by kernel_rfl) (fun _ _ d _ _ h => by cases d <;> exact h) (by simp only [Ord.map, nthOp, List.append]; rfl) ?_
  intro d0
  have hx0 : Ext W2 (Go.Proofs.Ytkjakaoimbmcjaa.grow W2 d0) := Ext.grow (Ext.refl _) d0
  have hNl : N < W2.heap.size := (Array.getElem?_eq_some_iff.1 Y1.out).1
  have HW := hid (((HH.out.ext hx1.out).only hO2.out (fun g' e => by simp [Value.ownBlock] at e; omega)).ext hx0)
  have hO3 := hid (Only.transExt hO2.out hx0)
  have Y4 : Hid ((Go.Proofs.Ytkjakaoimbmcjaa.grow W2 d0).heap[N]? = some (.cells ys 38 (0, 0))) := hid (by rw [(Only.ofExt (S := fun _ => False) hx0).block N hNl id]; exact Y1.out)
  generalize Go.Proofs.Ytkjakaoimbmcjaa.grow W2 d0 = W at HW hO3 Y4 ⊢
  clear hx0 hO2 Y1
  have HNEWS : Hid (∀ j u, (prList (l.drop i))[j]? = some u → W.cell? (Addr.add ⟨g, a + i * 2, none⟩ j) = some u) := hid (fun j u hj => by
    have hlt := (List.getElem?_eq_some_iff.1 hj).1
    rw [prList_length, List.length_drop, HL.out] at hlt
    obtain ⟨o, cur, rfl, _, hg, _, _, _, ht⟩ := HW.out.raw
    rw [Addr.add_lit, cell_of_row W g _ cur 38 (0, 0) hg, ← Array.getElem?_toList, show o * 2 + i * 2 + j = o * 2 + (i * 2 + j) by omega, raw_at ht (by omega), ← List.getElem?_drop, prList_drop]
    exact hj)
  have hcp : ∀ ty dc sc, (Builtin.copy_ #[35, 35] ty #[.slice (some ⟨N, (i + 1) * 2, none⟩) (cap - i) dc, .slice (some ⟨g, a + i * 2, none⟩) (cap - i) sc]).run Try.prog W = .ok (goInt ((cap - i : Nat) : Int)) (W.setCells N ((i + 1) * 2) (prList (l.drop i))) := fun ty dc sc =>
    run_copy2 W ty N ((i + 1) * 2) (cap - i) dc ⟨g, a + i * 2, none⟩ (cap - i) sc (prList (l.drop i)) ys (cap - i) (by simp only [Nat.min_def]; split <;> omega) (by rw [prList_length, List.length_drop, HL.out]) Y4.out (by rw [prList_length, List.length_drop, HL.out, Y2.out, hRS.out]; omega) HNEWS.out (prs_one _)
  have HCP := hid hcp
  clear hcp
  repeat' (first | (refine turn_read (by rfl) (fun K hK => ?_); go_big_quiet_op; refine hK _ ?_; clear hK K) | (refine turn_act (by rfl) (fun K hK => ?_); refine wp_copy_run _ (.tmp 50) (.tmp 53) 35 35 rfl (.slice (some ⟨N, (i + 1) * 2, none⟩) (cap - i) (G - (i + 1))) (.slice (some ⟨g, a + i * 2, none⟩) (cap - i) (cap - i)) rfl rfl (HCP.out _ _ _) ?_; refine hK _ _ ⟨_, Only.refl _ _, Only.setCells (S := fun k => k = N) (.inl rfl) _ _ (Only.refl _ _), ?_⟩; clear hK K; simp only [Act.put, List.setIfInBounds_toArray, List.set_cons_zero, List.set_cons_succ]))
  refine turn_nil ?_
  go_wp2
  go_ret
  obtain ⟨zs, z1, z2, z3⟩ := setCells_row (prList (l.drop i)) ((i + 1) * 2) W ys Y4.out
  have hO4 : Only (fun k => k = N) W1 (W.setCells N ((i + 1) * 2) (prList (l.drop i))) := Only.setCells (S := fun k => k = N) (.inl rfl) _ _ hO3.out
  have hX4 : Ext w (W.setCells N ((i + 1) * 2) (prList (l.drop i))) := Ext.only hx1.out hO4 (fun k e => by omega)
  have h2 := hRS.out
  have h4 := Y2.out
  refine ⟨_, rfl, hid ?_, hid (Only.ofExt hX4), fun g' hg' => .inr (by simp [Value.ownBlock] at hg'; omega)⟩
  have hfin := ownsAt.of (o := 0) (size := 2) (xs := prList (l.take i ++ p :: l.drop i)) (n := cap + 1) (cap := G) (base := base) (by omega) z1 hGn (by omega) (by rw [z2, h4, h2]; omega) (by rw [prList_length, ins_len l p i cap HL.out (by omega)]) (fun j hj => ?_)
  · rw [Nat.zero_mul] at hfin
    exact hfin
  have h5 : (prList (l.drop i)).length = (cap - i) * 2 := by rw [prList_length, List.length_drop, HL.out]
  have h6 : ([.int .i64 p.lo, .int .i64 p.hi] : List Value).length = 2 := rfl
  rw [ins_at l p i cap HL.out (by omega), Nat.zero_mul, Nat.zero_add, z3, Y3.out]
  by_cases j1 : j < i * 2
  · rw [if_pos j1, if_neg (by omega), if_neg (by omega), hRA.out j j1]
  · rw [if_neg j1]
    by_cases j2 : j < (i + 1) * 2
    · rw [if_pos j2, if_neg (by omega), if_pos (by omega)]
      rfl
    · rw [if_neg j2, if_pos (by omega)]

end Go.Proofs.Ytkjakaoimbmcjaa
