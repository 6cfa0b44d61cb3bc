/- Layer 8: a new one. -/
import Derived.Test.YtgjjimpialgojaaShaD
namespace Go.Proofs.Ytgjjimpialgojaa
set_option linter.unusedSimpArgs false
set_option linter.unusedVariables false
open Go.RowKit


def NewIs (n : Nat) (w : World) (e : Ending) (w' : World) : Prop := ∃ p q, e = .returned (.pointer (some ⟨p, 0, none⟩)) ∧ Sh w' p q n (fun _ => false) ∧ Ext w w' ∧ w.heap.size ≤ p ∧ w.heap.size ≤ q
theorem info_u64 : (Try.prog.info? 53).map (fun i => (i.zero, i.size, i.bytes)) = some (some (.int .u64 0), 1, 8) := by kernel_rfl
theorem made_words {w : World} {base g m : Nat} (h : w.ownsRow base 53 1 (.slice (some ⟨g, 0, none⟩) m m) m (madeCells #[Value.int .u64 0] m).toList) :
    g < w.heap.size ∧ ∀ k, k < m → w.cell? ⟨g, k, none⟩ = some (.int .u64 0) ∧ w.frozen? ⟨g, k, none⟩ = false := by
  rcases h.2 with ⟨h0, _⟩ | ⟨g', cap, cur, hv, _, hg, _, _, hs, ht⟩
  · injection h0 with e; cases e
  · injection hv with e1 e2 e3
    injection e1 with e1
    injection e1 with e1
    subst e1
    refine ⟨(Array.getElem?_eq_some_iff.1 hg).1, fun k hk => ⟨?_, by simp [World.frozen?, hg]⟩⟩
    rw [h.cellAt k (by omega)]
    rw [toList_madeCells_one]
    simp [hk]
theorem word_zero (k : Nat) : wordP (fun _ => false) k = 0 := word_ext (wordP_lt _ _) (by decide) fun j hj => by
  rw [wordP_bit _ _ _ hj]
  simp
set_option maxHeartbeats 1000000 in
theorem new_low (g : Int) (w : World) (h : g < 1) :
    Calls Try.prog 9 #[.int .i64 g] w fun e w' => e = .returned (.pointer none) ∧ w = w' := by
  go_enter Try.func9, Try.ntmps9
  go_wp2
  go_ret
  exact ⟨rfl, rfl⟩

set_option maxHeartbeats 1000000 in
theorem new_high (g : Int) (w : World) (h0 : ¬ g < 1) (h : 1048576 < g) :
    Calls Try.prog 9 #[.int .i64 g] w fun e w' => e = .returned (.pointer none) ∧ w = w' := by
  go_enter Try.func9, Try.ntmps9
  go_wp2
  go_ret
  exact ⟨rfl, rfl⟩

set_option maxHeartbeats 1000000 in
theorem new_ (n : Nat) (w : World) (h1 : 1 ≤ n) (h2 : n ≤ 1048576) :
    Calls Try.prog 9 #[.int .i64 (n : Int)] w fun e w' => NewIs n w e w' := by
  have hq : ((n : Int) + 64 - 1).tdiv 64 = (((n + 63) / 64 : Nat) : Int) := by rw [Int.tdiv_eq_ediv_of_nonneg (by omega)]; omega
  obtain ⟨m, hm⟩ : ∃ m, (n + 63) / 64 = m := ⟨_, rfl⟩
  rw [hm] at hq
  have hm1 : m ≤ 16385 := by omega
  have HM := hid hm
  clear hm
  obtain ⟨i0, hi0, hz0, hz1, hz2⟩ := info_parts info_u64
  go_enter Try.func9, Try.ntmps9
  go_wp2_with (at_make; refine wpList_make_full _ rfl _ _ 46 rfl w.heap.size 53 i0 _ 1 Try.underlying46 hi0 hz0 hz1 .i64 .i64 _ _ m rfl rfl rfl rfl (by rw [hz2]; omega) (by unfold maxLen; omega) (Nat.le_refl _) ?_)
  intro w1 hown hg
  have hx1 : Ext w w1 := ⟨hg.os, hg.tape, hg.output, hg.size, fun k hk => hg.block k hk (by simp)⟩
  obtain ⟨hql, hqw⟩ := made_words hown
  have HQW := hid hqw
  clear hown hg hqw
  have hsz := hx1.size
  go_wp2
  go_ret
  refine ⟨w1.heap.size, w.heap.size, rfl, ⟨by omega, by simp, by simp; omega, by simp [go_sem], by rw [HM.out]; simp [go_sem], fun k hk => ?_, fun _ _ => rfl, h1, h2⟩, (by repeat (first | (with_reducible exact Ext.refl _) | (with_reducible refine Ext.undrew ?_) | (with_reducible refine Ext.grow ?_ _) | (with_reducible refine Ext.drew ?_) | (with_reducible refine Ext.drewN ?_ _) | (with_reducible refine Ext.alloc ?_ _) | (with_reducible assumption) | ((with_reducible refine Ext.setCell ?_ ?_ _); rotate_left; (first | exact Nat.le_refl _ | ((try dsimp only); (try simp only [World.size_alloc, grow_size, World.size_setCell]); omega))))), hsz, Nat.le_refl _⟩
  rw [HM.out] at hk
  obtain ⟨f1, f2⟩ := HQW.out k hk
  rw [word_zero]
  have x := Ext.alloc (Ext.refl w1) (.cells #[.int .i64 n, .slice (some ⟨w.heap.size, 0, none⟩) m m] 48)
  exact ⟨(x.cells _ _ hql).trans f1, (x.frozens _ _ hql).trans f2⟩


end Go.Proofs.Ytgjjimpialgojaa
