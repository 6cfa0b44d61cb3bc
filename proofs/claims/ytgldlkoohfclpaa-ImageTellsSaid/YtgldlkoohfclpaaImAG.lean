/- Layer 17: the document: rows, Same, within, grant. -/
import Derived.Test.YtgldlkoohfclpaaImAE
import Derived.Test.YtgldlkoohfclpaaImT
import Derived.ChangeKeysEq
namespace Go.Proofs.Ytgldlkoohfclpaa
set_option linter.unusedSimpArgs false
set_option linter.unusedVariables false
open Go.RowKit

theorem info_intG : (Try.prog.info? 3).map (fun i => (i.zero, i.size, i.bytes)) = some (some (.int .i64 0), 1, 8) := by kernel_rfl
theorem cells_intG : Try.prog.cellsOf 3 = 1 := by kernel_rfl
theorem eqIn_twoG (x y : Int) (w : World) : (Op.equalIn 10000 51 (.agg #[.int .i64 x, .int .i64 y]) (.agg #[.int .i64 x, .int .i64 y])).run Try.prog w = .ok true w := by
  obtain ⟨i, hi, _⟩ := info_parts info_intG
  rw [run_equalIn_array w 9999 _ _ Try.underlying51 hi, cells_intG]
  simp [Op.eqItems, List.range_succ, part, run_equalIn_int, Try.underlying3, Result.andThen, cells_intG]
attribute [local go_sem] eqIn_twoG
set_option maxRecDepth 100000 in
set_option maxHeartbeats 4000000 in
theorem rrows_ (A1 A2 : Option Addr) (c1 c2 n : Nat) (l : List Sp) (w : World) (hn : l.length = n) (h1 : RdF SpF w A1 l) (h2 : RdF SpF w A2 l) (hb : n ≤ 1000000) : Calls Try.prog 50 #[.slice A1 n c1, .slice A2 n c2] w fun e w' => e = .returned (.bool true) ∧ Ext w w' := by
  have H1 := hid h1
  have H2 := hid h2
  have HN := hid hn
  clear h1 h2 hn
  go_enter Try.func50, Try.ntmps50
  go_wp2
  go_loopw [5] (fun i wr => ∃ (k : Nat), k ≤ n ∧ i = .int .i64 k ∧ Hid (Ext w wr)) (fun i _ => n - (intOf i).toNat)
  case atStart => exact ⟨0, Nat.zero_le _, rfl, hid (Ext.refl _)⟩
  case round =>
    obtain ⟨k, hk, rfl, HW⟩ := hrel
    by_cases hlt : k < n
    · have hk1 : (k : Int) < (n : Int) := by omega
      have hk0 : (0 : Int) ≤ (k : Int) := by omega
      have hkl : k < l.length := by rw [HN.out]; exact hlt
      obtain ⟨z, hz⟩ : ∃ y, l[k] = y := ⟨_, rfl⟩
      obtain ⟨b1, o1, eA, hb1, hr1⟩ := (H1.out.ext HW.out).elem sp_len hkl z hz
      obtain ⟨b2, o2, eB, hb2, hr2⟩ := (H2.out.ext HW.out).elem sp_len hkl z hz
      subst eA
      subst eB
      clear hkl hz
      go_upto_region 6 with (fail)
      refine wp_region_step (.rd 0 (.rd 1 (.rd 2 (.rd 3 (.rd 4 (.rd 5 (.rd 6 (.rd 7 (.rd 8 .done))))))))) (by kernel_rfl) (by kernel_rfl) (fun _ _ d _ _ h => by cases d <;> exact h) (by simp only [Ord.map, nthOp, List.append]; rfl) ?_
      intro d0
      have HU0 := hid (Ext.grow (Ext.refl wr) d0)
      generalize Go.Proofs.Ytgldlkoohfclpaa.grow wr d0 = U0 at HU0 ⊢
      refine step_read (by rfl) (fun K hK => ?_)
      go_big_quiet_op
      refine hK _ ?_
      clear hK K
      refine step_read (by rfl) (fun K hK => ?_)
      go_big_quiet_op
      refine hK _ ?_
      clear hK K
      refine step_read (by rfl) (fun K hK => ?_)
      go_big_quiet_op
      refine hK _ ?_
      clear hK K
      refine step_read (by rfl) (fun K hK => ?_)
      refine quiet_loadC 51 (.tmp 19) rfl (b1) ((o1 + k * 2)) rfl [.int .i64 z.lo, .int .i64 z.hi] _ (fun w' hw' => (by obtain ⟨dd, rfl⟩ := hw'; exact (fun j u hj => ((HU0.out.trans (Ext.grow (Ext.refl _) dd)).cells _ _ hb1).trans (hr1 j u hj)))) Try.underlying51 rfl (by kernel_rfl) ?_
      refine hK _ ?_
      clear hK K
      simp only [Act.put, List.setIfInBounds_toArray, List.set_cons_zero, List.set_cons_succ]
      refine step_read (by rfl) (fun K hK => ?_)
      go_big_quiet_op
      refine hK _ ?_
      clear hK K
      refine step_read (by rfl) (fun K hK => ?_)
      go_big_quiet_op
      refine hK _ ?_
      clear hK K
      refine step_read (by rfl) (fun K hK => ?_)
      go_big_quiet_op
      refine hK _ ?_
      clear hK K
      refine step_read (by rfl) (fun K hK => ?_)
      refine quiet_loadC 51 (.tmp 23) rfl (b2) ((o2 + k * 2)) rfl [.int .i64 z.lo, .int .i64 z.hi] _ (fun w' hw' => (by obtain ⟨dd, rfl⟩ := hw'; exact (fun j u hj => ((HU0.out.trans (Ext.grow (Ext.refl _) dd)).cells _ _ hb2).trans (hr2 j u hj)))) Try.underlying51 rfl (by kernel_rfl) ?_
      refine hK _ ?_
      clear hK K
      simp only [Act.put, List.setIfInBounds_toArray, List.set_cons_zero, List.set_cons_succ]
      refine step_read (by rfl) (fun K hK => ?_)
      refine quiet_runD 25 rfl (.bool false) (fun w => by go_simp) ?_
      refine hK _ ?_
      clear hK K
      simp only [Act.put, List.setIfInBounds_toArray, List.set_cons_zero, List.set_cons_succ]
      refine step_nil ?_
      replace HW := hid (HW.out.trans HU0.out)
      go_wp2
      go_roundw
      case rel => exact ⟨k + 1, by omega, by go_num, HW⟩
      case measure => simp [intOf]; omega
    · obtain rfl : n = k := by omega
      have hk1 : ¬ (n : Int) < (n : Int) := by omega
      go_wp2
      go_ret
      exact ⟨rfl, HW.out⟩
set_option maxRecDepth 100000 in
set_option maxHeartbeats 4000000 in
theorem rsameC_ (A1 A2 : Option Addr) (c1 c2 n : Nat) (l : List Cap) (w : World) (hn : l.length = n) (h1 : RdF Cap.cells w A1 l) (h2 : RdF Cap.cells w A2 l) (hb : n ≤ 1000000) : Calls Try.prog 24 #[.slice A1 n c1, .slice A2 n c2] w fun e w' => e = .returned (.bool true) ∧ Ext w w' := by
  have H1 := hid h1
  have H2 := hid h2
  have HN := hid hn
  clear h1 h2 hn
  go_enter Try.func24, Try.ntmps24
  go_wp2
  go_loopw [5] (fun i wr => ∃ (k : Nat), k ≤ n ∧ i = .int .i64 k ∧ Hid (Ext w wr)) (fun i _ => n - (intOf i).toNat)
  case atStart => exact ⟨0, Nat.zero_le _, rfl, hid (Ext.refl _)⟩
  case round =>
    obtain ⟨k, hk, rfl, HW⟩ := hrel
    by_cases hlt : k < n
    · have hk1 : (k : Int) < (n : Int) := by omega
      have hk0 : (0 : Int) ≤ (k : Int) := by omega
      have hkl : k < l.length := by rw [HN.out]; exact hlt
      obtain ⟨z, hz⟩ : ∃ y, l[k] = y := ⟨_, rfl⟩
      obtain ⟨b1, o1, eA, hb1, hr1⟩ := (H1.out.ext HW.out).elem cap_len hkl z hz
      obtain ⟨b2, o2, eB, hb2, hr2⟩ := (H2.out.ext HW.out).elem cap_len hkl z hz
      subst eA
      subst eB
      clear hkl hz
      go_upto_region 6 with (fail)
      refine wp_region_step (.rd 0 (.rd 1 (.rd 2 (.rd 3 (.rd 4 (.rd 5 (.rd 6 (.rd 7 (.rd 8 .done))))))))) (by kernel_rfl) (by kernel_rfl) (fun _ _ d _ _ h => by cases d <;> exact h) (by simp only [Ord.map, nthOp, List.append]; rfl) ?_
      intro d0
      have HU0 := hid (Ext.grow (Ext.refl wr) d0)
      generalize Go.Proofs.Ytgldlkoohfclpaa.grow wr d0 = U0 at HU0 ⊢
      refine step_read (by rfl) (fun K hK => ?_)
      go_big_quiet_op
      refine hK _ ?_
      clear hK K
      refine step_read (by rfl) (fun K hK => ?_)
      go_big_quiet_op
      refine hK _ ?_
      clear hK K
      refine step_read (by rfl) (fun K hK => ?_)
      go_big_quiet_op
      refine hK _ ?_
      clear hK K
      refine step_read (by rfl) (fun K hK => ?_)
      refine quiet_loadC 39 (.tmp 19) rfl (b1) ((o1 + k * 6)) rfl [.bool z.tag, .int .i64 z.base, .int .i64 z.top, .int .i64 z.at_, .int .i64 z.perms, .int .i64 z.type] _ (fun w' hw' => (by obtain ⟨dd, rfl⟩ := hw'; exact (fun j u hj => ((HU0.out.trans (Ext.grow (Ext.refl _) dd)).cells _ _ hb1).trans (hr1 j u hj)))) Try.underlying39 rfl (by kernel_rfl) ?_
      refine hK _ ?_
      clear hK K
      simp only [Act.put, List.setIfInBounds_toArray, List.set_cons_zero, List.set_cons_succ]
      refine step_read (by rfl) (fun K hK => ?_)
      go_big_quiet_op
      refine hK _ ?_
      clear hK K
      refine step_read (by rfl) (fun K hK => ?_)
      go_big_quiet_op
      refine hK _ ?_
      clear hK K
      refine step_read (by rfl) (fun K hK => ?_)
      go_big_quiet_op
      refine hK _ ?_
      clear hK K
      refine step_read (by rfl) (fun K hK => ?_)
      refine quiet_loadC 39 (.tmp 23) rfl (b2) ((o2 + k * 6)) rfl [.bool z.tag, .int .i64 z.base, .int .i64 z.top, .int .i64 z.at_, .int .i64 z.perms, .int .i64 z.type] _ (fun w' hw' => (by obtain ⟨dd, rfl⟩ := hw'; exact (fun j u hj => ((HU0.out.trans (Ext.grow (Ext.refl _) dd)).cells _ _ hb2).trans (hr2 j u hj)))) Try.underlying39 rfl (by kernel_rfl) ?_
      refine hK _ ?_
      clear hK K
      simp only [Act.put, List.setIfInBounds_toArray, List.set_cons_zero, List.set_cons_succ]
      refine step_read (by rfl) (fun K hK => ?_)
      refine quiet_runD 25 rfl (.bool false) (fun w => by go_simp) ?_
      refine hK _ ?_
      clear hK K
      simp only [Act.put, List.setIfInBounds_toArray, List.set_cons_zero, List.set_cons_succ]
      refine step_nil ?_
      replace HW := hid (HW.out.trans HU0.out)
      go_wp2
      go_roundw
      case rel => exact ⟨k + 1, by omega, by go_num, HW⟩
      case measure => simp [intOf]; omega
    · obtain rfl : n = k := by omega
      have hk1 : ¬ (n : Int) < (n : Int) := by omega
      go_wp2
      go_ret
      exact ⟨rfl, HW.out⟩
set_option maxRecDepth 100000 in
set_option maxHeartbeats 4000000 in
theorem within_ (n l m : Int) (w : World) : Calls Try.prog 64 #[.int .i64 n, .int .i64 l, .int .i64 m] w fun e w' => e = .returned (.bool (!outB n l m)) ∧ Ext w w' := by
  by_cases h1 : l ≤ n
  · by_cases h2 : n ≤ m
    · rw [show (!outB n l m) = true by unfold outB; rw [decide_eq_false (by omega), decide_eq_false (by omega)]; rfl]
      go_enter Try.func64, Try.ntmps64
      go_wp2
      go_ret
      exact ⟨rfl, (by repeat (first | (with_reducible exact Ext.refl _) | (with_reducible refine Ext.undrew ?_) | (with_reducible refine Ext.grow ?_ _) | (with_reducible refine Ext.drew ?_) | (with_reducible refine Ext.drewN ?_ _) | (with_reducible refine Ext.alloc ?_ _) | (with_reducible assumption) | ((with_reducible refine Ext.setCell ?_ ?_ _); rotate_left; (first | exact Nat.le_refl _ | ((try dsimp only); (try simp only [World.size_alloc, grow_size, World.size_setCell]); omega)))))⟩
    · rw [show (!outB n l m) = false by unfold outB; rw [decide_eq_true (p := m < n) (by omega)]; simp]
      go_enter Try.func64, Try.ntmps64
      go_wp2
      go_ret
      exact ⟨rfl, (by repeat (first | (with_reducible exact Ext.refl _) | (with_reducible refine Ext.undrew ?_) | (with_reducible refine Ext.grow ?_ _) | (with_reducible refine Ext.drew ?_) | (with_reducible refine Ext.drewN ?_ _) | (with_reducible refine Ext.alloc ?_ _) | (with_reducible assumption) | ((with_reducible refine Ext.setCell ?_ ?_ _); rotate_left; (first | exact Nat.le_refl _ | ((try dsimp only); (try simp only [World.size_alloc, grow_size, World.size_setCell]); omega)))))⟩
  · rw [show (!outB n l m) = false by unfold outB; rw [decide_eq_true (p := n < l) (by omega)]; simp]
    go_enter Try.func64, Try.ntmps64
    go_wp2
    go_ret
    exact ⟨rfl, (by repeat (first | (with_reducible exact Ext.refl _) | (with_reducible refine Ext.undrew ?_) | (with_reducible refine Ext.grow ?_ _) | (with_reducible refine Ext.drew ?_) | (with_reducible refine Ext.drewN ?_ _) | (with_reducible refine Ext.alloc ?_ _) | (with_reducible assumption) | ((with_reducible refine Ext.setCell ?_ ?_ _); rotate_left; (first | exact Nat.le_refl _ | ((try dsimp only); (try simp only [World.size_alloc, grow_size, World.size_setCell]); omega)))))⟩
set_option maxRecDepth 100000 in
set_option maxHeartbeats 4000000 in
theorem grant17_ (a b p : Int) (w : World) : Calls Try.prog 52 #[.int .i64 a, .int .i64 b, .int .i64 p] w fun e w' => e = .returned (.agg #[.bool true, .int .i64 a, .int .i64 b, .int .i64 a, .int .i64 p, .int .i64 0]) ∧ Ext w w' := by
  go_enter Try.func52, Try.ntmps52
  go_wp2
  refine bodyPost_ret (v := .agg #[.bool true, .int .i64 a, .int .i64 b, .int .i64 a, .int .i64 p, .int .i64 0]) (by simp [results, Try.results52, go_sem]) rfl ⟨rfl, (by repeat (first | (with_reducible exact Ext.refl _) | (with_reducible refine Ext.undrew ?_) | (with_reducible refine Ext.grow ?_ _) | (with_reducible refine Ext.drew ?_) | (with_reducible refine Ext.drewN ?_ _) | (with_reducible refine Ext.alloc ?_ _) | (with_reducible assumption) | ((with_reducible refine Ext.setCell ?_ ?_ _); rotate_left; (first | exact Nat.le_refl _ | ((try dsimp only); (try simp only [World.size_alloc, grow_size, World.size_setCell]); omega)))))⟩

end Go.Proofs.Ytgldlkoohfclpaa
