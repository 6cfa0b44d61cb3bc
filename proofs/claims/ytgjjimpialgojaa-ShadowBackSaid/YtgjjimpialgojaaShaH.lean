/- Layer 8: the same rows. -/
import Derived.Test.YtgjjimpialgojaaShaG
import Derived.Test.YtgjjimpialgojaaStep
import Derived.ChangeKeysEq
namespace Go.Proofs.Ytgjjimpialgojaa
set_option linter.unusedSimpArgs false
set_option linter.unusedVariables false
open Go.RowKit


theorem info_int : (Try.prog.info? 3).map (fun i => (i.zero, i.size, i.bytes)) = some (some (.int .i64 0), 1, 8) := by kernel_rfl
theorem cells_int : Try.prog.cellsOf 3 = 1 := by kernel_rfl
theorem eqIn_two (x y : Int) (w : World) : (Op.equalIn 10000 42 (.agg #[.int .i64 x, .int .i64 y]) (.agg #[.int .i64 x, .int .i64 y])).run Try.prog w = .ok true w := by
  obtain ⟨i, hi, _⟩ := info_parts info_int
  rw [run_equalIn_array w 9999 _ _ Try.underlying42 hi, cells_int]
  simp [Op.eqItems, List.range_succ, part, run_equalIn_int, Try.underlying3, Result.andThen, cells_int]
attribute [go_sem] eqIn_two
theorem quiet_two {o : Oper} {a : Act} {w W : World} {K : Act → Prop} (x : Operand) (ho : o.op = .load 42 x) (b off : Nat) (hx : a.eval x = .pointer (some ⟨b, off, none⟩)) (u v : Int) (h0 : w.cell? ⟨b, off, none⟩ = some (.int .i64 u)) (h1 : w.cell? ⟨b, off + 1, none⟩ = some (.int .i64 v)) (hb : b < w.heap.size) (xx : Ext w W)
    (k : K (a.put o.dst (.agg #[.int .i64 u, .int .i64 v]))) : o.quiet Try.prog a (Grown W) K := by
  refine ⟨_, fun w' hw' => ?_, k⟩
  have y : Ext w w' := Ext.trans xx hw'.ext
  have hc' : w'.rangeAt b off [.int .i64 u, .int .i64 v] := fun j z hj => by
    have hj2 : j = 0 ∨ j = 1 := by
      have h := (List.getElem?_eq_some_iff.1 hj).1
      simp at h
      omega
    rcases hj2 with rfl | rfl
    · simp at hj
      subst hj
      exact (y.cells b _ hb).trans h0
    · simp at hj
      subst hj
      exact (y.cells b _ hb).trans h1
  unfold Oper.quietAt execOp
  rw [ho]
  simp only [hx, run_loadAt_mid w' b off 42 [.int .i64 u, .int .i64 v] _ hc' Try.underlying42 (by rfl) (by kernel_rfl), Sem.run_bind, Sem.run_map, Sem.run_pure, Result.andThen, Oper.quietUpon, and_self]
set_option maxHeartbeats 2000000 in
theorem same_ (A B : Option Addr) (n ca cb : Nat) (L : List (Nat × Nat)) (w : World) (hA : RdW w A L) (hB : RdW w B L) (hn : n = L.length) (hb : L.length ≤ 1048576) :
    Calls Try.prog 19 #[.slice A n ca, .slice B n cb] w fun e w' => e = .returned (.bool true) ∧ Ext w w' := by
  have HA := hid hA
  have HB := hid hB
  have HN := hid hn
  have hnb : n ≤ 1048576 := by omega
  clear hA hB hn hb
  go_enter Try.func19, Try.ntmps19
  go_wp2
  go_loopw [5] (fun i wr => ∃ k : Nat, k ≤ n ∧ i = .int .i64 k ∧ Ext w wr) (fun i _ => n - (intOf i).toNat)
  case atStart => exact ⟨0, Nat.zero_le _, rfl, (by repeat (first | (with_reducible exact Ext.refl _) | (with_reducible refine Ext.undrew ?_) | (with_reducible refine Ext.grow ?_ _) | (with_reducible refine Ext.drew ?_) | (with_reducible refine Ext.drewN ?_ _) | (with_reducible refine Ext.alloc ?_ _) | (with_reducible assumption) | ((with_reducible refine Ext.setCell ?_ ?_ _); rotate_left; (first | exact Nat.le_refl _ | ((try dsimp only); (try simp only [World.size_alloc, grow_size, World.size_setCell]); omega)))))⟩
  case round =>
    obtain ⟨k, hk, rfl, hx⟩ := hrel
    by_cases hlt : k < n
    · have hkl : k < L.length := by have := HN.out; omega
      obtain ⟨b1, o1, rfl, hb1, h1⟩ := (HA.out.ext hx) (by omega)
      obtain ⟨b2, o2, rfl, hb2, h2⟩ := (HB.out.ext hx) (by omega)
      obtain ⟨c0, c1⟩ := h1 k hkl
      obtain ⟨d0, d1⟩ := h2 k hkl
      clear h1 h2
      generalize (L[k]).1 = x at c0 d0
      generalize (L[k]).2 = y at c1 d1
      have hk0 : (0 : Int) ≤ (k : Int) := by omega
      have hk1 : (k : Int) < (n : Int) := by omega
      clear hkl
      go_wp2_with fail
      refine wp_region_step (.rd 0 (.rd 1 (.rd 2 (.rd 3 (.rd 4 (.rd 5 (.rd 6 (.rd 7 (.rd 8 .done))))))))) (by kernel_rfl) (by kernel_rfl) (fun _ _ d _ _ h => by cases d <;> exact h) (by simp only [Ord.map, nthOp, List.append]; rfl) ?_
      intro d0
      repeat' (first | (refine step_read (by rfl) (fun K hK => ?_); refine quiet_two (.tmp 19) rfl b1 (o1 + k * 2) rfl _ _ c0 c1 hb1 (by repeat (first | (with_reducible exact Ext.refl _) | (with_reducible refine Ext.undrew ?_) | (with_reducible refine Ext.grow ?_ _) | (with_reducible refine Ext.drew ?_) | (with_reducible refine Ext.drewN ?_ _) | (with_reducible refine Ext.alloc ?_ _) | (with_reducible assumption) | ((with_reducible refine Ext.setCell ?_ ?_ _); rotate_left; (first | exact Nat.le_refl _ | ((try dsimp only); (try simp only [World.size_alloc, grow_size, World.size_setCell]); omega))))) ?_; refine hK _ ?_; clear hK K; simp only [Act.put, List.setIfInBounds_toArray, List.set_cons_zero, List.set_cons_succ]) | (refine step_read (by rfl) (fun K hK => ?_); refine quiet_two (.tmp 23) rfl b2 (o2 + k * 2) rfl _ _ d0 d1 hb2 (by repeat (first | (with_reducible exact Ext.refl _) | (with_reducible refine Ext.undrew ?_) | (with_reducible refine Ext.grow ?_ _) | (with_reducible refine Ext.drew ?_) | (with_reducible refine Ext.drewN ?_ _) | (with_reducible refine Ext.alloc ?_ _) | (with_reducible assumption) | ((with_reducible refine Ext.setCell ?_ ?_ _); rotate_left; (first | exact Nat.le_refl _ | ((try dsimp only); (try simp only [World.size_alloc, grow_size, World.size_setCell]); omega))))) ?_; refine hK _ ?_; clear hK K; simp only [Act.put, List.setIfInBounds_toArray, List.set_cons_zero, List.set_cons_succ]) | (refine step_read (by rfl) (fun K hK => ?_); go_big_quiet_op; refine hK _ ?_; clear hK K) | (refine step_act (by rfl) (fun K hK => ?_); go_wp2_with (first | fail); refine ⟨_, Ext.refl _, (by repeat (first | (with_reducible exact Ext.refl _) | (with_reducible refine Ext.undrew ?_) | (with_reducible refine Ext.grow ?_ _) | (with_reducible refine Ext.drew ?_) | (with_reducible refine Ext.drewN ?_ _) | (with_reducible refine Ext.alloc ?_ _) | (with_reducible assumption) | ((with_reducible refine Ext.setCell ?_ ?_ _); rotate_left; (first | exact Nat.le_refl _ | ((try dsimp only); (try simp only [World.size_alloc, grow_size, World.size_setCell]); omega))))), ?_⟩) | refine step_br ?_ ?_)
      all_goals refine step_nil ?_
      go_wp2
      go_roundw
      case rel => exact ⟨k + 1, by omega, by first | rfl | go_num, (by repeat (first | (with_reducible exact Ext.refl _) | (with_reducible refine Ext.undrew ?_) | (with_reducible refine Ext.grow ?_ _) | (with_reducible refine Ext.drew ?_) | (with_reducible refine Ext.drewN ?_ _) | (with_reducible refine Ext.alloc ?_ _) | (with_reducible assumption) | ((with_reducible refine Ext.setCell ?_ ?_ _); rotate_left; (first | exact Nat.le_refl _ | ((try dsimp only); (try simp only [World.size_alloc, grow_size, World.size_setCell]); omega)))))⟩
      case measure => first | (simp [intOf]; done) | (simp [intOf]; omega)
    · go_wp2
      go_ret
      exact ⟨rfl, (by repeat (first | (with_reducible exact Ext.refl _) | (with_reducible refine Ext.undrew ?_) | (with_reducible refine Ext.grow ?_ _) | (with_reducible refine Ext.drew ?_) | (with_reducible refine Ext.drewN ?_ _) | (with_reducible refine Ext.alloc ?_ _) | (with_reducible assumption) | ((with_reducible refine Ext.setCell ?_ ?_ _); rotate_left; (first | exact Nat.le_refl _ | ((try dsimp only); (try simp only [World.size_alloc, grow_size, World.size_setCell]); omega)))))⟩


end Go.Proofs.Ytgjjimpialgojaa
