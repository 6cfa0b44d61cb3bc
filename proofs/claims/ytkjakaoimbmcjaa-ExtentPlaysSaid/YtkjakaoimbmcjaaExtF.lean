/- Layer 12: slices.Insert in place. -/
import Derived.Test.YtkjakaoimbmcjaaExtE
import Derived.Lib.Overlaps
import Derived.Laws.Externs
namespace Go.Proofs.Ytkjakaoimbmcjaa
set_option linter.unusedSimpArgs false
set_option linter.unusedVariables false
open Go.RowKit

theorem Only.mono {S T : Nat → Prop} {w w' : World} (h : Only S w w') (hst : ∀ i, S i → T i) : Only T w w' := ⟨h.os, h.tape, h.output, h.size, fun k hk hn => h.block k hk fun hs => hn (hst k hs)⟩
set_option maxRecDepth 100000 in
set_option maxHeartbeats 4000000 in
theorem einsIn_ (w : World) (base : Nat) (p : Pr) (vb : Nat) (hV : w.heap[vb]? = some (.cells #[.int .i64 p.lo, .int .i64 p.hi] 38 (0, 0))) (g a n cap i : Nat) (l : List Pr) (h : ownsAt w base 38 2 (.slice (some ⟨g, a, none⟩) n cap) n (prList l)) (hi : i < n) (hroom : n + 1 ≤ cap) (hbig : n ≤ 100000000) (hvg : vb ≠ g) :
    Calls Try.prog 29 #[.slice (some ⟨g, a, none⟩) n cap, .int .i64 i, .slice (some ⟨vb, 0, none⟩) 1 1] w fun e w' => ∃ v', e = .returned v' ∧ Hid (ownsAt w' base 38 2 v' (n + 1) (prList (l.take i ++ p :: l.drop i))) ∧ Hid (Only (fun k => (Value.slice (some ⟨g, a, none⟩) n cap).ownBlock = some k) w w') ∧ ∀ g', v'.ownBlock = some g' → (Value.slice (some ⟨g, a, none⟩) n cap).ownBlock = some g' ∨ w.heap.size ≤ g' := by
  have hov : ∀ lb cb, (callFunc 34 #[.slice (some ⟨vb, 0, none⟩) 1 1, .slice (some ⟨g, a + (i + 1) * 2, none⟩) lb cb]).run Try.prog w = .ok (.value (.bool false)) w := fun lb cb => by
    obtain ⟨o, cur, _, _, hg, hn0, _, hs0, _⟩ := h.raw
    have hs0 := hs0.resolve_left (by omega)
    rw [run_callFunc_extern Try.func34 (by kernel_rfl) (by kernel_rfl) (by kernel_rfl) (e := Extern.SlicesOverlaps.overlaps #[35, 35] #[4]) (by kernel_rfl),
      Lib.run_overlaps_apart w 35 4 38 Try.underlying35 2 (fun w => by kernel_rfl) ⟨vb, 0, none⟩ ⟨g, a + (i + 1) * 2, none⟩ 1 1 lb cb hvg 38 38 2 cur.size (by simp [World.shape?, hV]) (by simp [World.shape?, hg]) (by omega) (by simp [World.frozen?, hV]) (by simp [World.frozen?, hV])]
    rfl
  have hll : l.length = n := by have := h.1; rw [prList_length] at this; omega
  have HL := hid hll
  have HH := hid h
  have HV := hid hV
  have hnc : n ≤ cap := by obtain ⟨_, _, _, _, _, hnc, _⟩ := h.raw; exact hnc
  have hgl : g < w.heap.size := by obtain ⟨_, cur, _, _, hg, _⟩ := h.raw; exact (Array.getElem?_eq_some_iff.1 hg).1
  have hvl : vb < w.heap.size := (Array.getElem?_eq_some_iff.1 hV).1
  have k0 : (0 : Int) ≤ (i : Int) := by omega
  have k1 : (i : Int) < (n : Int) := by omega
  have k2 : (i : Int) ≤ (n : Int) := by omega
  have k3 : (n : Int) ≤ (cap : Int) := by omega
  have k4 : ¬ (i : Int) = (n : Int) := by omega
  have k4n : ¬ i = n := by omega
  have k6 : ¬ (cap : Int) = (i : Int) := by omega
  have k7 : ¬ cap = i := by omega
  have k8 : (i : Int) ≤ (cap : Int) := by omega
  have k9 : ((i : Int) + 1).toNat = i + 1 := by omega
  have k10 : (0 : Int) ≤ (i : Int) + 1 := by omega
  have k11 : (i : Int) + 1 ≤ (n : Int) + 1 := by omega
  have k11b : (i : Int) + 1 ≤ (n : Int) := by omega
  have k12 : (i : Int) ≤ (n : Int) + 1 := by omega
  have k13 : (0 : Int) ≤ (n : Int) + 1 := by omega
  have k14 : ((n : Int) + 1).toNat = n + 1 := by omega
  have hcm : cap ≤ 9223372036854775807 := by obtain ⟨_, _, _, _, _, _, hm, _⟩ := h.raw; unfold maxLen at hm; omega
  have k20 : ¬ (cap : Int) < (n : Int) + 1 := by omega
  have k21 : (n : Int) + 1 ≤ (cap : Int) := by omega
  have k22 : ¬ (cap : Int) = (i : Int) + 1 := by omega
  have k23 : ¬ cap = i + 1 := by omega
  have k24 : (i : Int) + 1 ≤ (cap : Int) := by omega
  clear h hV hll
  go_enter Try.func29, Try.ntmps29
  go_upto_region 15 with (simp only [hov])
  clear hov
  refine wp_region_turn (q := g) (.rd 0 (.rd 1 (.rd 2 (.rd 3 (.rd 4 (.rd 5 (.rd 6 (.rd 7 (.ac 8 .done))))))))) (by kernel_rfl) (by kernel_rfl) (fun _ _ d _ _ h => by cases d <;> exact h) (by simp only [Ord.map, nthOp, List.append]; rfl) ?_
  intro d0
  have hx0 : Ext w (Go.Proofs.Ytkjakaoimbmcjaa.grow w d0) := Ext.grow (Ext.refl _) d0
  have HW := hid (HH.out.ext hx0)
  have hxo := hid (Only.ofExt (S := fun k => k = g) hx0)
  generalize Go.Proofs.Ytkjakaoimbmcjaa.grow w d0 = W at HW hxo ⊢
  clear hx0
  obtain ⟨o, cur, rfl, hb, hg, hn, hm, hs, ht⟩ := HW.out.raw
  have hs := hs.resolve_left (by omega)
  have HNEWS : Hid (∀ j u, (prList (l.drop i))[j]? = some u → W.cell? (Addr.add ⟨g, o * 2 + i * 2, none⟩ j) = some u) := hid (fun j u hj => by
    have hlt := (List.getElem?_eq_some_iff.1 hj).1
    rw [prList_length, List.length_drop, HL.out] at hlt
    rw [Addr.add_lit, cell_of_row W g _ cur 38 (0, 0) hg, ← Array.getElem?_toList, show o * 2 + i * 2 + j = o * 2 + (i * 2 + j) by omega, raw_at ht (by omega), ← List.getElem?_drop, prList_drop]
    exact hj)
  have hcp : ∀ ty dc sc, (Builtin.copy_ #[35, 35] ty #[.slice (some ⟨g, o * 2 + (i + 1) * 2, none⟩) (n - i) dc, .slice (some ⟨g, o * 2 + i * 2, none⟩) (n + 1 - i) sc]).run Try.prog W = .ok (goInt ((n - i : Nat) : Int)) (W.setCells g (o * 2 + (i + 1) * 2) (prList (l.drop i))) := fun ty dc sc =>
    run_copy2 W ty g (o * 2 + (i + 1) * 2) (n - i) dc ⟨g, o * 2 + i * 2, none⟩ (n + 1 - i) sc (prList (l.drop i)) cur (n - i) (by simp only [Nat.min_def]; split <;> omega) (by rw [prList_length, List.length_drop, HL.out]) hg (by rw [prList_length, List.length_drop, HL.out]; omega) HNEWS.out (prs_one _)
  have HCP := hid hcp
  clear hcp
  repeat' (first | (refine turn_read (by rfl) (fun K hK => ?_); go_big_quiet_op; refine hK _ ?_; clear hK K) | (refine turn_act (by rfl) (fun K hK => ?_); refine wp_copy_run _ (.tmp 73) (.tmp 76) 35 35 rfl (.slice (some ⟨g, o * 2 + (i + 1) * 2, none⟩) (n - i) (cap - (i + 1))) (.slice (some ⟨g, o * 2 + i * 2, none⟩) (n + 1 - i) (cap - i)) rfl rfl (HCP.out _ _ _) ?_; refine hK _ _ ⟨_, Only.refl _ _, Only.setCells (S := fun k => k = g) (.inl rfl) _ _ (Only.refl _ _), ?_⟩; clear hK K; simp only [Act.put, List.setIfInBounds_toArray, List.set_cons_zero, List.set_cons_succ]))
  refine turn_nil ?_
  obtain ⟨ys, y1, y2, y3⟩ := setCells_row (prList (l.drop i)) (o * 2 + (i + 1) * 2) W cur hg
  have hO2 : Hid (Only (fun k => k = g) w (W.setCells g (o * 2 + (i + 1) * 2) (prList (l.drop i)))) := hid (Only.trans' hxo.out (Only.setCells (S := fun k => k = g) (.inl rfl) _ _ (Only.refl _ _)))
  have Y1 := hid y1
  have Y2 := hid y2
  have Y3 := hid y3
  have HT := hid ht
  have HS := hid hs
  generalize W.setCells g (o * 2 + (i + 1) * 2) (prList (l.drop i)) = W2 at Y1 hO2 ⊢
  clear y1 y2 y3 hg ht hs HNEWS HCP hxo HW
  have hvW : Hid (W2.heap[vb]? = some (.cells #[.int .i64 p.lo, .int .i64 p.hi] 38 (0, 0))) := hid (by rw [hO2.out.block vb hvl hvg]; exact HV.out)
  have hcp2 : ∀ ty dc, (Builtin.copy_ #[35, 35] ty #[.slice (some ⟨g, o * 2 + i * 2, none⟩) (n + 1 - i) dc, .slice (some ⟨vb, 0, none⟩) 1 1]).run Try.prog W2 = .ok (goInt 1) (W2.setCells g (o * 2 + i * 2) [.int .i64 p.lo, .int .i64 p.hi]) := fun ty dc =>
    run_copy2 W2 ty g (o * 2 + i * 2) (n + 1 - i) dc ⟨vb, 0, none⟩ 1 1 [.int .i64 p.lo, .int .i64 p.hi] ys 1 (by simp only [Nat.min_def]; split <;> omega) rfl Y1.out (by rw [Y2.out, HS.out]; simp; omega) (fun j u hj => by rw [Addr.add_lit, Nat.zero_add, cell_of_row W2 vb _ _ 38 (0, 0) hvW.out, ← Array.getElem?_toList]; exact hj) (pr_one p)
  go_wp2
  go_ret
  obtain ⟨zs, z1, z2, z3⟩ := setCells_row [.int .i64 p.lo, .int .i64 p.hi] (o * 2 + i * 2) W2 ys Y1.out
  refine ⟨_, rfl, hid (ownsAt.of hb z1 (by omega) hm (by rw [z2, Y2.out, HS.out]) (by rw [prList_length, ins_len l p i n HL.out (by omega)]) (fun j hj => ?_)), hid ((Only.trans' hO2.out (Only.setCells (S := fun k => k = g) (.inl rfl) _ _ (Only.refl _ _))).mono fun k e => by subst e; rfl), fun g' hg' => .inl hg'⟩
  have h2 := HS.out
  have h4 := Y2.out
  have h5 : (prList (l.drop i)).length = (n - i) * 2 := by rw [prList_length, List.length_drop, HL.out]
  have h6 : ([.int .i64 p.lo, .int .i64 p.hi] : List Value).length = 2 := rfl
  rw [ins_at l p i n HL.out (by omega), z3, Y3.out]
  by_cases j1 : j < i * 2
  · rw [if_pos j1, if_neg (by omega), if_neg (by omega), raw_at HT.out (by omega)]
  · rw [if_neg j1]
    by_cases j2 : j < (i + 1) * 2
    · rw [if_pos j2, if_pos (by omega), show o * 2 + j - (o * 2 + i * 2) = j - i * 2 by omega]
      rfl
    · rw [if_neg j2, if_neg (by omega), if_pos (by omega), show o * 2 + j - (o * 2 + (i + 1) * 2) = j - (i + 1) * 2 by omega]

end Go.Proofs.Ytkjakaoimbmcjaa
