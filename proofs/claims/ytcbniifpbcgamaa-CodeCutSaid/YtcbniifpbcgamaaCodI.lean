/- Layer 15: the document's instruction of bytes. -/
import Derived.Test.YtcbniifpbcgamaaCodH
import Derived.Test.YtcbniifpbcgamaaCodS
namespace Go.Proofs.Ytcbniifpbcgamaa
set_option linter.unusedSimpArgs false
set_option linter.unusedVariables false
open Go.RowKit

set_option maxRecDepth 100000 in
set_option maxHeartbeats 8000000 in
theorem rget_all (b o ca : Nat) (x0 x1 x2 x3 : Int) (w : World) (hr : RdB w (some ⟨b, o, none⟩) [x0, x1, x2, x3]) (hca : 4 ≤ ca) (hcm : ca ≤ maxLen) (hb0 : 0 ≤ x0 ∧ x0 ≤ 255) (hb1 : 0 ≤ x1 ∧ x1 ≤ 255) (hb2 : 0 ≤ x2 ∧ x2 ≤ 255) (hb3 : 0 ≤ x3 ∧ x3 ≤ 255) :
    Calls Try.prog 12 #[.slice (some ⟨b, o, none⟩) 4 ca] w fun e w' => e = .returned (getR x0 x1 x2 x3) ∧ Ext w w' := by
  have hbw : b < w.heap.size := by obtain ⟨b', o', hA, hb, _⟩ := hr (by simp); cases hA; exact hb
  obtain ⟨c0, c1, c2, c3⟩ : w.cell? ⟨b, o, none⟩ = some (.int .u8 x0) ∧ w.cell? ⟨b, o + 1, none⟩ = some (.int .u8 x1) ∧ w.cell? ⟨b, o + 2, none⟩ = some (.int .u8 x2) ∧ w.cell? ⟨b, o + 3, none⟩ = some (.int .u8 x3) := by
    obtain ⟨b', o', hA, _, hc⟩ := hr (by simp)
    cases hA
    exact ⟨hc 0 (by simp), hc 1 (by simp), hc 2 (by simp), hc 3 (by simp)⟩
  obtain ⟨l0, u0⟩ := hb0
  obtain ⟨l1, u1⟩ := hb1
  obtain ⟨l2, u2⟩ := hb2
  obtain ⟨l3, u3⟩ := hb3
  have hK := fun w => rkinds x0 w
  by_cases hk : kd x0 = 0
  · have he : (kstr (kd x0)).toList.isEmpty = true := by rw [hk, empties]; rfl
    have HE : Hid (getR x0 x1 x2 x3 = .tuple #[.agg #[.int .i64 0, .int .i64 0, .int .i64 0, .int .i64 0], .int .i64 151]) := hid (by unfold getR rightI; rw [hk]; rfl)
    generalize kstr (kd x0) = s at hK he
    have HK := hid hK
    clear hK hk hr
    go_enter Try.func12, Try.ntmps12
    go_wp2
    refine wp_region_step (.rd 0 (.rd 1 (.rd 2 (.rd 3 (.rd 4 (.rd 5 (.rd 6 (.rd 7 (.rd 8 (.rd 9 (.rd 10 (.rd 11 (.rd 12 (.rd 13 (.rd 14 (.rd 15 (.rd 16 (.ac 17 (.ac 18 .done))))))))))))))))))) (by kernel_rfl) (by kernel_rfl) (fun _ _ d _ _ h => by cases d <;> exact h) (by simp only [Ord.map, nthOp, List.append]; rfl) ?_
    intro d0
    repeat' (first | (refine step_read (by rfl) (fun K hK => ?_); go_big_quiet_op; refine hK _ ?_; clear hK K) | (refine step_act (by rfl) (fun K hK => ?_); go_wp2_with (first | fail); refine ⟨_, Ext.refl _, (by repeat (first | (with_reducible exact Ext.refl _) | (with_reducible refine Ext.undrew ?_) | (with_reducible refine Ext.grow ?_ _) | (with_reducible refine Ext.drew ?_) | (with_reducible refine Ext.drewN ?_ _) | (with_reducible refine Ext.alloc ?_ _) | (with_reducible assumption) | ((with_reducible refine Ext.setCell ?_ ?_ _); rotate_left; (first | exact Nat.le_refl _ | ((try dsimp only); (try simp only [World.size_alloc, grow_size, World.size_setCell]); omega))))), ?_⟩) | refine step_br ?_ ?_)
    all_goals refine step_nil ?_
    go_wp2_with (go_at_call 16; with_reducible refine (HK.out _).mono ?_; rintro e w1 ⟨rfl, rfl⟩)
    exact bodyPost_ret (v := .tuple #[.agg #[.int .i64 0, .int .i64 0, .int .i64 0, .int .i64 0], .int .i64 151]) (by simp [results, Try.results12, go_sem, *]) rfl ⟨HE.out.symm ▸ rfl, (by repeat (first | (with_reducible exact Ext.refl _) | (with_reducible refine Ext.undrew ?_) | (with_reducible refine Ext.grow ?_ _) | (with_reducible refine Ext.drew ?_) | (with_reducible refine Ext.drewN ?_ _) | (with_reducible refine Ext.alloc ?_ _) | (with_reducible assumption) | ((with_reducible refine Ext.setCell ?_ ?_ _); rotate_left; (first | exact Nat.le_refl _ | ((try dsimp only); (try simp only [World.size_alloc, grow_size, World.size_setCell]); omega)))))⟩
  · have hs3 : (kstr (kd x0)).size = 3 := by have := kstr_size ⟨kd x0, kd_lt x0⟩; simp only [hk] at this; exact this
    have he : (kstr (kd x0)).toList.isEmpty = false := by rw [empties, hs3]; rfl
    have i1 : ∀ w, (Instr.index 9 (.string (kstr (kd x0))) (.int .i64 1)).run Try.prog w = .ok (.int .u8 (chAt (kstr (kd x0)) 1)) w := index_str _ 1 (by omega)
    have hwk : (chAt (kstr (kd x0)) 1 = 119) = (kd x0 = 2 ∨ kd x0 = 5) := by
      rcases kd_cases x0 with h | h | h | h | h | h | h | h
      · exact absurd h hk
      · rw [h, show chAt (kstr 1) 1 = 45 from by decide]; simp
      · rw [h, show chAt (kstr 2) 1 = 119 from by decide]; simp
      · rw [h, show chAt (kstr 3) 1 = 114 from by decide]; simp
      · rw [h, show chAt (kstr 4) 1 = 114 from by decide]; simp
      · rw [h, show chAt (kstr 5) 1 = 119 from by decide]; simp
      · rw [h, show chAt (kstr 6) 1 = 114 from by decide]; simp
      · rw [h, show chAt (kstr 7) 1 = 45 from by decide]; simp
    by_cases hwd : kd x0 = 2 ∨ kd x0 = 5
    · have e119 : ((chAt (kstr (kd x0)) 1 : Int) == 119) = true := by
        have : chAt (kstr (kd x0)) 1 = 119 := by rw [hwk]; exact hwd
        rw [this]
        rfl
      have hgC : gC x0 x3 = 0 := by unfold gC; rw [if_pos hwd]
      have hgB0 : gB x0 x2 x3 = sgn16 (x2 * 256 + x3) := by unfold gB; rw [if_pos hwd]
      generalize kstr (kd x0) = s at hK i1 e119 he
      have HK := hid hK
      clear hs3 hwk hK hwd hk hr
      by_cases hge : 32768 ≤ 256 * x2 + x3
      · have hgB : gB x0 x2 x3 = 256 * x2 + x3 - 65536 := by rw [hgB0]; unfold sgn16; rw [if_pos (by omega)]; omega
        clear hgB0
        cases hRi : rightI x0 x1 (256 * x2 + x3 - 65536) (0) with
        | false =>
          have HE : Hid (getR x0 x1 x2 x3 = .tuple #[.agg #[.int .i64 0, .int .i64 0, .int .i64 0, .int .i64 0], .int .i64 151]) := hid (by unfold getR; rw [hgB, hgC, hRi]; rfl)
          have HRR := hid hRi
          clear hRi hgB hgC
          go_enter Try.func12, Try.ntmps12
          go_wp2
          refine wp_region_step (.rd 0 (.rd 1 (.rd 2 (.rd 3 (.rd 4 (.rd 5 (.rd 6 (.rd 7 (.rd 8 (.rd 9 (.rd 10 (.rd 11 (.rd 12 (.rd 13 (.rd 14 (.rd 15 (.rd 16 (.ac 17 (.ac 18 .done))))))))))))))))))) (by kernel_rfl) (by kernel_rfl) (fun _ _ d _ _ h => by cases d <;> exact h) (by simp only [Ord.map, nthOp, List.append]; rfl) ?_
          intro d0
          repeat' (first | (refine step_read (by rfl) (fun K hK => ?_); go_big_quiet_op; refine hK _ ?_; clear hK K) | (refine step_act (by rfl) (fun K hK => ?_); go_wp2_with (first | fail); refine ⟨_, Ext.refl _, (by repeat (first | (with_reducible exact Ext.refl _) | (with_reducible refine Ext.undrew ?_) | (with_reducible refine Ext.grow ?_ _) | (with_reducible refine Ext.drew ?_) | (with_reducible refine Ext.drewN ?_ _) | (with_reducible refine Ext.alloc ?_ _) | (with_reducible assumption) | ((with_reducible refine Ext.setCell ?_ ?_ _); rotate_left; (first | exact Nat.le_refl _ | ((try dsimp only); (try simp only [World.size_alloc, grow_size, World.size_setCell]); omega))))), ?_⟩) | refine step_br ?_ ?_)
          all_goals refine step_nil ?_
          go_wp2_with (first | (go_at_call 16; with_reducible refine (HK.out _).mono ?_; rintro e w1 ⟨rfl, rfl⟩) | (go_at_call 18; refine (rright _ _ _ _ _).mono ?_; rw [HRR.out]; rintro e w1 ⟨rfl, hy⟩; obtain ⟨dr, rfl⟩ := hy.grown; clear hy))
          exact bodyPost_ret (v := .tuple #[.agg #[.int .i64 0, .int .i64 0, .int .i64 0, .int .i64 0], .int .i64 151]) (by simp [results, Try.results12, go_sem, *]) rfl ⟨HE.out.symm ▸ rfl, (by repeat (first | (with_reducible exact Ext.refl _) | (with_reducible refine Ext.undrew ?_) | (with_reducible refine Ext.grow ?_ _) | (with_reducible refine Ext.drew ?_) | (with_reducible refine Ext.drewN ?_ _) | (with_reducible refine Ext.alloc ?_ _) | (with_reducible assumption) | ((with_reducible refine Ext.setCell ?_ ?_ _); rotate_left; (first | exact Nat.le_refl _ | ((try dsimp only); (try simp only [World.size_alloc, grow_size, World.size_setCell]); omega)))))⟩
        | true =>
          have HE : Hid (getR x0 x1 x2 x3 = .tuple #[.agg #[.int .i64 x0, .int .i64 x1, .int .i64 (256 * x2 + x3 - 65536), .int .i64 (0)], .int .i64 0]) := hid (by unfold getR; rw [hgB, hgC, hRi]; rfl)
          have HRR := hid hRi
          clear hRi hgB hgC
          go_enter Try.func12, Try.ntmps12
          go_wp2
          refine wp_region_step (.rd 0 (.rd 1 (.rd 2 (.rd 3 (.rd 4 (.rd 5 (.rd 6 (.rd 7 (.rd 8 (.rd 9 (.rd 10 (.rd 11 (.rd 12 (.rd 13 (.rd 14 (.rd 15 (.rd 16 (.ac 17 (.ac 18 .done))))))))))))))))))) (by kernel_rfl) (by kernel_rfl) (fun _ _ d _ _ h => by cases d <;> exact h) (by simp only [Ord.map, nthOp, List.append]; rfl) ?_
          intro d0
          repeat' (first | (refine step_read (by rfl) (fun K hK => ?_); go_big_quiet_op; refine hK _ ?_; clear hK K) | (refine step_act (by rfl) (fun K hK => ?_); go_wp2_with (first | fail); refine ⟨_, Ext.refl _, (by repeat (first | (with_reducible exact Ext.refl _) | (with_reducible refine Ext.undrew ?_) | (with_reducible refine Ext.grow ?_ _) | (with_reducible refine Ext.drew ?_) | (with_reducible refine Ext.drewN ?_ _) | (with_reducible refine Ext.alloc ?_ _) | (with_reducible assumption) | ((with_reducible refine Ext.setCell ?_ ?_ _); rotate_left; (first | exact Nat.le_refl _ | ((try dsimp only); (try simp only [World.size_alloc, grow_size, World.size_setCell]); omega))))), ?_⟩) | refine step_br ?_ ?_)
          all_goals refine step_nil ?_
          go_wp2_with (first | (go_at_call 16; with_reducible refine (HK.out _).mono ?_; rintro e w1 ⟨rfl, rfl⟩) | (go_at_call 18; refine (rright _ _ _ _ _).mono ?_; rw [HRR.out]; rintro e w1 ⟨rfl, hy⟩; obtain ⟨dr, rfl⟩ := hy.grown; clear hy))
          exact bodyPost_ret (v := .tuple #[.agg #[.int .i64 x0, .int .i64 x1, .int .i64 (256 * x2 + x3 - 65536), .int .i64 (0)], .int .i64 0]) (by simp [results, Try.results12, go_sem, *]) rfl ⟨HE.out.symm ▸ rfl, (by repeat (first | (with_reducible exact Ext.refl _) | (with_reducible refine Ext.undrew ?_) | (with_reducible refine Ext.grow ?_ _) | (with_reducible refine Ext.drew ?_) | (with_reducible refine Ext.drewN ?_ _) | (with_reducible refine Ext.alloc ?_ _) | (with_reducible assumption) | ((with_reducible refine Ext.setCell ?_ ?_ _); rotate_left; (first | exact Nat.le_refl _ | ((try dsimp only); (try simp only [World.size_alloc, grow_size, World.size_setCell]); omega)))))⟩
      · have hgB : gB x0 x2 x3 = 256 * x2 + x3 := by rw [hgB0]; unfold sgn16; rw [if_neg (by omega)]; omega
        clear hgB0
        cases hRi : rightI x0 x1 (256 * x2 + x3) (0) with
        | false =>
          have HE : Hid (getR x0 x1 x2 x3 = .tuple #[.agg #[.int .i64 0, .int .i64 0, .int .i64 0, .int .i64 0], .int .i64 151]) := hid (by unfold getR; rw [hgB, hgC, hRi]; rfl)
          have HRR := hid hRi
          clear hRi hgB hgC
          go_enter Try.func12, Try.ntmps12
          go_wp2
          refine wp_region_step (.rd 0 (.rd 1 (.rd 2 (.rd 3 (.rd 4 (.rd 5 (.rd 6 (.rd 7 (.rd 8 (.rd 9 (.rd 10 (.rd 11 (.rd 12 (.rd 13 (.rd 14 (.rd 15 (.rd 16 (.ac 17 (.ac 18 .done))))))))))))))))))) (by kernel_rfl) (by kernel_rfl) (fun _ _ d _ _ h => by cases d <;> exact h) (by simp only [Ord.map, nthOp, List.append]; rfl) ?_
          intro d0
          repeat' (first | (refine step_read (by rfl) (fun K hK => ?_); go_big_quiet_op; refine hK _ ?_; clear hK K) | (refine step_act (by rfl) (fun K hK => ?_); go_wp2_with (first | fail); refine ⟨_, Ext.refl _, (by repeat (first | (with_reducible exact Ext.refl _) | (with_reducible refine Ext.undrew ?_) | (with_reducible refine Ext.grow ?_ _) | (with_reducible refine Ext.drew ?_) | (with_reducible refine Ext.drewN ?_ _) | (with_reducible refine Ext.alloc ?_ _) | (with_reducible assumption) | ((with_reducible refine Ext.setCell ?_ ?_ _); rotate_left; (first | exact Nat.le_refl _ | ((try dsimp only); (try simp only [World.size_alloc, grow_size, World.size_setCell]); omega))))), ?_⟩) | refine step_br ?_ ?_)
          all_goals refine step_nil ?_
          go_wp2_with (first | (go_at_call 16; with_reducible refine (HK.out _).mono ?_; rintro e w1 ⟨rfl, rfl⟩) | (go_at_call 18; refine (rright _ _ _ _ _).mono ?_; rw [HRR.out]; rintro e w1 ⟨rfl, hy⟩; obtain ⟨dr, rfl⟩ := hy.grown; clear hy))
          exact bodyPost_ret (v := .tuple #[.agg #[.int .i64 0, .int .i64 0, .int .i64 0, .int .i64 0], .int .i64 151]) (by simp [results, Try.results12, go_sem, *]) rfl ⟨HE.out.symm ▸ rfl, (by repeat (first | (with_reducible exact Ext.refl _) | (with_reducible refine Ext.undrew ?_) | (with_reducible refine Ext.grow ?_ _) | (with_reducible refine Ext.drew ?_) | (with_reducible refine Ext.drewN ?_ _) | (with_reducible refine Ext.alloc ?_ _) | (with_reducible assumption) | ((with_reducible refine Ext.setCell ?_ ?_ _); rotate_left; (first | exact Nat.le_refl _ | ((try dsimp only); (try simp only [World.size_alloc, grow_size, World.size_setCell]); omega)))))⟩
        | true =>
          have HE : Hid (getR x0 x1 x2 x3 = .tuple #[.agg #[.int .i64 x0, .int .i64 x1, .int .i64 (256 * x2 + x3), .int .i64 (0)], .int .i64 0]) := hid (by unfold getR; rw [hgB, hgC, hRi]; rfl)
          have HRR := hid hRi
          clear hRi hgB hgC
          go_enter Try.func12, Try.ntmps12
          go_wp2
          refine wp_region_step (.rd 0 (.rd 1 (.rd 2 (.rd 3 (.rd 4 (.rd 5 (.rd 6 (.rd 7 (.rd 8 (.rd 9 (.rd 10 (.rd 11 (.rd 12 (.rd 13 (.rd 14 (.rd 15 (.rd 16 (.ac 17 (.ac 18 .done))))))))))))))))))) (by kernel_rfl) (by kernel_rfl) (fun _ _ d _ _ h => by cases d <;> exact h) (by simp only [Ord.map, nthOp, List.append]; rfl) ?_
          intro d0
          repeat' (first | (refine step_read (by rfl) (fun K hK => ?_); go_big_quiet_op; refine hK _ ?_; clear hK K) | (refine step_act (by rfl) (fun K hK => ?_); go_wp2_with (first | fail); refine ⟨_, Ext.refl _, (by repeat (first | (with_reducible exact Ext.refl _) | (with_reducible refine Ext.undrew ?_) | (with_reducible refine Ext.grow ?_ _) | (with_reducible refine Ext.drew ?_) | (with_reducible refine Ext.drewN ?_ _) | (with_reducible refine Ext.alloc ?_ _) | (with_reducible assumption) | ((with_reducible refine Ext.setCell ?_ ?_ _); rotate_left; (first | exact Nat.le_refl _ | ((try dsimp only); (try simp only [World.size_alloc, grow_size, World.size_setCell]); omega))))), ?_⟩) | refine step_br ?_ ?_)
          all_goals refine step_nil ?_
          go_wp2_with (first | (go_at_call 16; with_reducible refine (HK.out _).mono ?_; rintro e w1 ⟨rfl, rfl⟩) | (go_at_call 18; refine (rright _ _ _ _ _).mono ?_; rw [HRR.out]; rintro e w1 ⟨rfl, hy⟩; obtain ⟨dr, rfl⟩ := hy.grown; clear hy))
          exact bodyPost_ret (v := .tuple #[.agg #[.int .i64 x0, .int .i64 x1, .int .i64 (256 * x2 + x3), .int .i64 (0)], .int .i64 0]) (by simp [results, Try.results12, go_sem, *]) rfl ⟨HE.out.symm ▸ rfl, (by repeat (first | (with_reducible exact Ext.refl _) | (with_reducible refine Ext.undrew ?_) | (with_reducible refine Ext.grow ?_ _) | (with_reducible refine Ext.drew ?_) | (with_reducible refine Ext.drewN ?_ _) | (with_reducible refine Ext.alloc ?_ _) | (with_reducible assumption) | ((with_reducible refine Ext.setCell ?_ ?_ _); rotate_left; (first | exact Nat.le_refl _ | ((try dsimp only); (try simp only [World.size_alloc, grow_size, World.size_setCell]); omega)))))⟩
    · have e119 : ((chAt (kstr (kd x0)) 1 : Int) == 119) = false := by
        have : ¬ chAt (kstr (kd x0)) 1 = 119 := by rw [hwk]; exact hwd
        simp
        omega
      have hgC : gC x0 x3 = x3 := by unfold gC; rw [if_neg hwd]
      have hgB : gB x0 x2 x3 = x2 := by unfold gB; rw [if_neg hwd]
      generalize kstr (kd x0) = s at hK i1 e119 he
      have HK := hid hK
      clear hs3 hwk hK hwd hk hr
      cases hRi : rightI x0 x1 (x2) (x3) with
      | false =>
        have HE : Hid (getR x0 x1 x2 x3 = .tuple #[.agg #[.int .i64 0, .int .i64 0, .int .i64 0, .int .i64 0], .int .i64 151]) := hid (by unfold getR; rw [hgB, hgC, hRi]; rfl)
        have HRR := hid hRi
        clear hRi hgB hgC
        go_enter Try.func12, Try.ntmps12
        go_wp2
        refine wp_region_step (.rd 0 (.rd 1 (.rd 2 (.rd 3 (.rd 4 (.rd 5 (.rd 6 (.rd 7 (.rd 8 (.rd 9 (.rd 10 (.rd 11 (.rd 12 (.rd 13 (.rd 14 (.rd 15 (.rd 16 (.ac 17 (.ac 18 .done))))))))))))))))))) (by kernel_rfl) (by kernel_rfl) (fun _ _ d _ _ h => by cases d <;> exact h) (by simp only [Ord.map, nthOp, List.append]; rfl) ?_
        intro d0
        repeat' (first | (refine step_read (by rfl) (fun K hK => ?_); go_big_quiet_op; refine hK _ ?_; clear hK K) | (refine step_act (by rfl) (fun K hK => ?_); go_wp2_with (first | fail); refine ⟨_, Ext.refl _, (by repeat (first | (with_reducible exact Ext.refl _) | (with_reducible refine Ext.undrew ?_) | (with_reducible refine Ext.grow ?_ _) | (with_reducible refine Ext.drew ?_) | (with_reducible refine Ext.drewN ?_ _) | (with_reducible refine Ext.alloc ?_ _) | (with_reducible assumption) | ((with_reducible refine Ext.setCell ?_ ?_ _); rotate_left; (first | exact Nat.le_refl _ | ((try dsimp only); (try simp only [World.size_alloc, grow_size, World.size_setCell]); omega))))), ?_⟩) | refine step_br ?_ ?_)
        all_goals refine step_nil ?_
        go_wp2_with (first | (go_at_call 16; with_reducible refine (HK.out _).mono ?_; rintro e w1 ⟨rfl, rfl⟩) | (go_at_call 18; refine (rright _ _ _ _ _).mono ?_; rw [HRR.out]; rintro e w1 ⟨rfl, hy⟩; obtain ⟨dr, rfl⟩ := hy.grown; clear hy))
        exact bodyPost_ret (v := .tuple #[.agg #[.int .i64 0, .int .i64 0, .int .i64 0, .int .i64 0], .int .i64 151]) (by simp [results, Try.results12, go_sem, *]) rfl ⟨HE.out.symm ▸ rfl, (by repeat (first | (with_reducible exact Ext.refl _) | (with_reducible refine Ext.undrew ?_) | (with_reducible refine Ext.grow ?_ _) | (with_reducible refine Ext.drew ?_) | (with_reducible refine Ext.drewN ?_ _) | (with_reducible refine Ext.alloc ?_ _) | (with_reducible assumption) | ((with_reducible refine Ext.setCell ?_ ?_ _); rotate_left; (first | exact Nat.le_refl _ | ((try dsimp only); (try simp only [World.size_alloc, grow_size, World.size_setCell]); omega)))))⟩
      | true =>
        have HE : Hid (getR x0 x1 x2 x3 = .tuple #[.agg #[.int .i64 x0, .int .i64 x1, .int .i64 (x2), .int .i64 (x3)], .int .i64 0]) := hid (by unfold getR; rw [hgB, hgC, hRi]; rfl)
        have HRR := hid hRi
        clear hRi hgB hgC
        go_enter Try.func12, Try.ntmps12
        go_wp2
        refine wp_region_step (.rd 0 (.rd 1 (.rd 2 (.rd 3 (.rd 4 (.rd 5 (.rd 6 (.rd 7 (.rd 8 (.rd 9 (.rd 10 (.rd 11 (.rd 12 (.rd 13 (.rd 14 (.rd 15 (.rd 16 (.ac 17 (.ac 18 .done))))))))))))))))))) (by kernel_rfl) (by kernel_rfl) (fun _ _ d _ _ h => by cases d <;> exact h) (by simp only [Ord.map, nthOp, List.append]; rfl) ?_
        intro d0
        repeat' (first | (refine step_read (by rfl) (fun K hK => ?_); go_big_quiet_op; refine hK _ ?_; clear hK K) | (refine step_act (by rfl) (fun K hK => ?_); go_wp2_with (first | fail); refine ⟨_, Ext.refl _, (by repeat (first | (with_reducible exact Ext.refl _) | (with_reducible refine Ext.undrew ?_) | (with_reducible refine Ext.grow ?_ _) | (with_reducible refine Ext.drew ?_) | (with_reducible refine Ext.drewN ?_ _) | (with_reducible refine Ext.alloc ?_ _) | (with_reducible assumption) | ((with_reducible refine Ext.setCell ?_ ?_ _); rotate_left; (first | exact Nat.le_refl _ | ((try dsimp only); (try simp only [World.size_alloc, grow_size, World.size_setCell]); omega))))), ?_⟩) | refine step_br ?_ ?_)
        all_goals refine step_nil ?_
        go_wp2_with (first | (go_at_call 16; with_reducible refine (HK.out _).mono ?_; rintro e w1 ⟨rfl, rfl⟩) | (go_at_call 18; refine (rright _ _ _ _ _).mono ?_; rw [HRR.out]; rintro e w1 ⟨rfl, hy⟩; obtain ⟨dr, rfl⟩ := hy.grown; clear hy))
        exact bodyPost_ret (v := .tuple #[.agg #[.int .i64 x0, .int .i64 x1, .int .i64 (x2), .int .i64 (x3)], .int .i64 0]) (by simp [results, Try.results12, go_sem, *]) rfl ⟨HE.out.symm ▸ rfl, (by repeat (first | (with_reducible exact Ext.refl _) | (with_reducible refine Ext.undrew ?_) | (with_reducible refine Ext.grow ?_ _) | (with_reducible refine Ext.drew ?_) | (with_reducible refine Ext.drewN ?_ _) | (with_reducible refine Ext.alloc ?_ _) | (with_reducible assumption) | ((with_reducible refine Ext.setCell ?_ ?_ _); rotate_left; (first | exact Nat.le_refl _ | ((try dsimp only); (try simp only [World.size_alloc, grow_size, World.size_setCell]); omega)))))⟩


end Go.Proofs.Ytcbniifpbcgamaa
