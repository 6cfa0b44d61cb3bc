/- Layer 16: Same over rows. -/
import Derived.Test.YtdhpbofpomefoaaDoorAsmJ
namespace Go.Proofs.YtdhpbofpomefoaaDoor
set_option linter.unusedSimpArgs false
set_option linter.unusedVariables false
open Go.RowKit

set_option maxRecDepth 100000 in
set_option maxHeartbeats 4000000 in
theorem same16_ (A B : Option Addr) (n ca cb : Nat) (l : List In) (w : World) (hl : l.length = n) (hA : RdF insC w A l) (hB : RdF insC w B l) (hn : n ≤ 1000000000) :
    Calls Tryd.prog 20 #[.slice A n ca, .slice B n cb] w fun e w' => e = .returned (.bool true) ∧ Ext w w' := by
  have HA := hid hA
  have HB := hid hB
  have HL := hid hl
  clear hA hB hl
  go_enter Tryd.func20, Tryd.ntmps20
  go_wp2
  go_loopw [5] (fun i wr => ∃ k : Nat, k ≤ n ∧ i = .int .i64 k ∧ Ext w wr) (fun i _ => n - (intOf i).toNat)
  case atStart => exact ⟨0, Nat.zero_le _, rfl, (by repeat (first | (with_reducible exact Ext.refl _) | (with_reducible refine Ext.undrew ?_) | (with_reducible refine Ext.grow ?_ _) | (with_reducible refine Ext.drew ?_) | (with_reducible refine Ext.drewN ?_ _) | (with_reducible refine Ext.alloc ?_ _) | (with_reducible assumption) | ((with_reducible refine Ext.setCell ?_ ?_ _); rotate_left; (first | exact Nat.le_refl _ | ((try dsimp only); (try simp only [World.size_alloc, grow_size, World.size_setCell]); omega)))))⟩
  case round =>
    obtain ⟨k, hk, rfl, hx⟩ := hrel
    by_cases hlt : k < n
    · have hlL : k < l.length := by rw [HL.out]; exact hlt
      obtain ⟨z, hz⟩ : ∃ z, l[k]'hlL = z := ⟨_, rfl⟩
      obtain ⟨b1, o1, rfl, hb1, r1⟩ := (HA.out.ext hx).elem insC_len hlL z hz
      obtain ⟨b2, o2, rfl, hb2, r2⟩ := (HB.out.ext hx).elem insC_len hlL z hz
      have c0 : World.cell? wr ⟨b1, o1 + k * 4, none⟩ = some (.int .i64 z.op) := r1 0 _ rfl
      have c1 : World.cell? wr ⟨b1, o1 + k * 4 + 1, none⟩ = some (.int .i64 z.a) := r1 1 _ rfl
      have c2 : World.cell? wr ⟨b1, o1 + k * 4 + 2, none⟩ = some (.int .i64 z.b) := r1 2 _ rfl
      have c3 : World.cell? wr ⟨b1, o1 + k * 4 + 3, none⟩ = some (.int .i64 z.c) := r1 3 _ rfl
      have d0 : World.cell? wr ⟨b2, o2 + k * 4, none⟩ = some (.int .i64 z.op) := r2 0 _ rfl
      have d1 : World.cell? wr ⟨b2, o2 + k * 4 + 1, none⟩ = some (.int .i64 z.a) := r2 1 _ rfl
      have d2 : World.cell? wr ⟨b2, o2 + k * 4 + 2, none⟩ = some (.int .i64 z.b) := r2 2 _ rfl
      have d3 : World.cell? wr ⟨b2, o2 + k * 4 + 3, none⟩ = some (.int .i64 z.c) := r2 3 _ rfl
      clear r1 r2 hz
      have hk0 : (0 : Int) ≤ (k : Int) := by omega
      have hk1 : (k : Int) < (n : Int) := by omega
      go_wp2
      refine wp_region_grow (by kernel_rfl) (by kernel_rfl) (by first | (simp only [List.append]; rfl) | rfl) ?_; (repeat (first | ((first | refine quiet_pick_and (by rfl) (by rfl) (by rfl) (by rfl) ?_ | refine quiet_pick_or (by rfl) (by rfl) (by rfl) (by rfl) ?_); simp only [Act.put, List.setIfInBounds_toArray, List.set_cons_zero, List.set_cons_succ]) | go_big_quiet_step (fail) | (refine quiet_guard (v := ?_) (by rfl) (by rfl) (fun hX w hC => ?_) ?_; rotate_left; (obtain ⟨d, rfl⟩ := hC; (try simp only [Bool.and_eq_true, Bool.or_eq_false_iff] at hX); go_split_ands; go_simp; (first | with_reducible rfl | fail)); simp only [Act.put, List.setIfInBounds_toArray, List.set_cons_zero, List.set_cons_succ]))); refine wpQuiet_nil ?_; intro wq hq; obtain ⟨d, rfl⟩ := hq
      go_wp2
      go_roundw
      case rel => exact ⟨k + 1, by omega, by go_num, (by repeat (first | (with_reducible exact Ext.refl _) | (with_reducible refine Ext.undrew ?_) | (with_reducible refine Ext.grow ?_ _) | (with_reducible refine Ext.drew ?_) | (with_reducible refine Ext.drewN ?_ _) | (with_reducible refine Ext.alloc ?_ _) | (with_reducible assumption) | ((with_reducible refine Ext.setCell ?_ ?_ _); rotate_left; (first | exact Nat.le_refl _ | ((try dsimp only); (try simp only [World.size_alloc, grow_size, World.size_setCell]); omega)))))⟩
      case measure => simp [intOf]; omega
    · have hk1 : ¬ (k : Int) < (n : Int) := by omega
      go_wp2
      go_ret
      exact ⟨rfl, (by repeat (first | (with_reducible exact Ext.refl _) | (with_reducible refine Ext.undrew ?_) | (with_reducible refine Ext.grow ?_ _) | (with_reducible refine Ext.drew ?_) | (with_reducible refine Ext.drewN ?_ _) | (with_reducible refine Ext.alloc ?_ _) | (with_reducible assumption) | ((with_reducible refine Ext.setCell ?_ ?_ _); rotate_left; (first | exact Nat.le_refl _ | ((try dsimp only); (try simp only [World.size_alloc, grow_size, World.size_setCell]); omega)))))⟩

end Go.Proofs.YtdhpbofpomefoaaDoor
