/- Layer 14: facts on numbers; Root. -/
import Derived.Test.YtoeiemeffiiidaaDoorHepH
namespace Go.Proofs.YtoeiemeffiiidaaDoor
set_option linter.unusedSimpArgs false
set_option linter.unusedVariables false
open Go.RowKit

section
variable {w W W1 : World} {h ck q fq p pq g bq bf n : Nat} {fr tu ra rp full : Int} {x : HSt} {T T' : Nat → Prop}
theorem Hp.mono (k : Hp w W h ck q fq p pq g bq bf n fr tu ra rp full T x) (y : ∀ i, T' i → T i) : Hp w W h ck q fq p pq g bq bf n fr tu ra rp full T' x := by
  obtain ⟨vq, vf, k, t⟩ := k
  exact ⟨vq, vf, k, fun i hi => t i (y i hi)⟩
theorem Hp.box (k : Hp w W h ck q fq p pq g bq bf n fr tu ra rp full T x) (ob : Obj) : Hp w (W.alloc ob) h ck q fq p pq g bq bf n fr tu ra rp full (fun i => T i ∨ i = W.heap.size) x :=
  (k.more (Ext.alloc (Ext.refl _) ob)).mono (fun i hi => hi.imp id (fun e => by subst e; simp))
end
def P0 : Nat → Bool := fun _ => false
theorem n_al1 (P : Nat → Bool) : alC 31 (⟨0, [], [⟨256, 384⟩], P, []⟩ : HSt) 20 = (⟨true, 256, 276, 256, 31, 0⟩ : Cap) ∧ alE (⟨0, [], [⟨256, 384⟩], P, []⟩ : HSt) 20 = 0 ∧ (⟨0, [], [⟨256, 384⟩], P, []⟩ : HSt).al 20 = (⟨0, [], [⟨288, 384⟩], P, [⟨256, 20, 32⟩]⟩ : HSt) := ⟨rfl, rfl, rfl⟩
theorem n_al2 (P : Nat → Bool) : alC 31 (⟨0, [], [⟨288, 384⟩], P, [⟨256, 20, 32⟩]⟩ : HSt) 64 = ⟨true, 288, 352, 288, 31, 0⟩ ∧ alE (⟨0, [], [⟨288, 384⟩], P, [⟨256, 20, 32⟩]⟩ : HSt) 64 = 0 ∧ (⟨0, [], [⟨288, 384⟩], P, [⟨256, 20, 32⟩]⟩ : HSt).al 64 = (⟨0, [], [⟨352, 384⟩], P, [⟨256, 20, 32⟩, ⟨288, 64, 64⟩]⟩ : HSt) := ⟨rfl, rfl, rfl⟩
theorem n_al3 (P : Nat → Bool) : alC 31 (⟨0, [], [⟨352, 384⟩], P, [⟨256, 20, 32⟩, ⟨288, 64, 64⟩]⟩ : HSt) 48 = ⟨false, 0, 0, 0, 0, 0⟩ ∧ alE (⟨0, [], [⟨352, 384⟩], P, [⟨256, 20, 32⟩, ⟨288, 64, 64⟩]⟩ : HSt) 48 = 5 ∧ (⟨0, [], [⟨352, 384⟩], P, [⟨256, 20, 32⟩, ⟨288, 64, 64⟩]⟩ : HSt).al 48 = (⟨0, [], [⟨352, 384⟩], P, [⟨256, 20, 32⟩, ⟨288, 64, 64⟩]⟩ : HSt) := ⟨rfl, rfl, rfl⟩
theorem n_size (P : Nat → Bool) : (ofB (⟨0, [], [⟨352, 384⟩], P, [⟨256, 20, 32⟩, ⟨288, 64, 64⟩]⟩ : HSt).lv (⟨true, 256, 276, 256, 31, 0⟩ : Cap)).takes = 32 ∧ ofE (⟨0, [], [⟨352, 384⟩], P, [⟨256, 20, 32⟩, ⟨288, 64, 64⟩]⟩ : HSt).lv (⟨true, 256, 276, 256, 31, 0⟩ : Cap) = 0 := ⟨rfl, rfl⟩
theorem n_free (P : Nat → Bool) : (⟨0, [], [⟨352, 384⟩], P, [⟨256, 20, 32⟩, ⟨288, 64, 64⟩]⟩ : HSt).free (⟨true, 256, 276, 256, 31, 0⟩ : Cap) = (⟨0, [⟨256, 32, 0⟩], [⟨352, 384⟩], P, [⟨288, 64, 64⟩]⟩ : HSt) := rfl
theorem n_free2 (P : Nat → Bool) : ofE (⟨0, [⟨256, 32, 0⟩], [⟨352, 384⟩], P, [⟨288, 64, 64⟩]⟩ : HSt).lv (⟨true, 256, 276, 256, 31, 0⟩ : Cap) = 3 ∧ (⟨0, [⟨256, 32, 0⟩], [⟨352, 384⟩], P, [⟨288, 64, 64⟩]⟩ : HSt).free (⟨true, 256, 276, 256, 31, 0⟩ : Cap) = (⟨0, [⟨256, 32, 0⟩], [⟨352, 384⟩], P, [⟨288, 64, 64⟩]⟩ : HSt) := ⟨rfl, rfl⟩
def P1 : Nat → Bool := paintAll 64 true P0 [⟨256, 32, 0⟩]
def P2 : Nat → Bool := paintAll 64 false P1 [⟨256, 32, 0⟩]
theorem n_beg : (⟨0, [⟨256, 32, 0⟩], [⟨352, 384⟩], P0, [⟨288, 64, 64⟩]⟩ : HSt).beg 64 = (⟨1, [⟨256, 32, 0⟩], [⟨352, 384⟩], P1, [⟨288, 64, 64⟩]⟩ : HSt) := rfl
theorem n_cnt : cnt P1 64 = 2 ∧ cnt P2 64 = 0 := by decide +kernel
theorem n_end : (⟨1, [⟨256, 32, 0⟩], [⟨352, 384⟩], P1, [⟨288, 64, 64⟩]⟩ : HSt).endd 64 256 384 = (⟨2, [], [⟨256, 288⟩, ⟨352, 384⟩], P2, [⟨288, 64, 64⟩]⟩ : HSt) := by
  have h1 : ([⟨256, 32, 0⟩] : List Hd).takeWhile (dueB (1 + 1)) = [⟨256, 32, 0⟩] := by kernel_rfl
  have h2 : giveC 256 384 256 32 [⟨352, 384⟩] := by
    unfold giveC
    decide +kernel
  unfold HSt.endd
  rw [if_pos (by decide)]
  simp only [h1]
  unfold giveAll
  simp only [List.foldl_cons, List.foldl_nil]
  unfold giveS
  rw [if_pos h2]
  rfl
theorem n_al4 (P : Nat → Bool) : alC 31 (⟨2, [], [⟨256, 288⟩, ⟨352, 384⟩], P, [⟨288, 64, 64⟩]⟩ : HSt) 1 = ⟨true, 256, 257, 256, 31, 0⟩ ∧ alE (⟨2, [], [⟨256, 288⟩, ⟨352, 384⟩], P, [⟨288, 64, 64⟩]⟩ : HSt) 1 = 0 ∧ (⟨2, [], [⟨256, 288⟩, ⟨352, 384⟩], P, [⟨288, 64, 64⟩]⟩ : HSt).al 1 = (⟨2, [], [⟨272, 288⟩, ⟨352, 384⟩], P, [⟨288, 64, 64⟩, ⟨256, 1, 16⟩]⟩ : HSt) := ⟨rfl, rfl, rfl⟩
set_option maxRecDepth 100000 in
set_option maxHeartbeats 4000000 in
theorem root_ (f g : Int) (w : World) (hf : 0 ≤ f ∧ f ≤ 1000000) (hg : 0 ≤ g ∧ g ≤ 100000) : Calls Tryd.prog 10 #[.int .i64 f, .int .i64 g] w fun e w' => e = .returned (.agg #[.bool true, .int .i64 f, .int .i64 (f + 16 * g), .int .i64 f, .int .i64 31, .int .i64 0]) ∧ Ext w w' := by
  obtain ⟨hf0, hf1⟩ := hf
  obtain ⟨hg0, hg1⟩ := hg
  go_enter Tryd.func10, Tryd.ntmps10
  go_wp2
  exact bodyPost_ret (v := .agg #[.bool true, .int .i64 f, .int .i64 (f + 16 * g), .int .i64 f, .int .i64 31, .int .i64 0]) (by simp [results, Tryd.results10, go_sem]) rfl ⟨rfl, (by repeat (first | (with_reducible exact Ext.refl _) | (with_reducible refine Ext.undrew ?_) | (with_reducible refine Ext.grow ?_ _) | (with_reducible refine Ext.drew ?_) | (with_reducible refine Ext.drewN ?_ _) | (with_reducible refine Ext.alloc ?_ _) | (with_reducible assumption) | ((with_reducible refine Ext.setCell ?_ ?_ _); rotate_left; (first | exact Nat.le_refl _ | ((try dsimp only); (try simp only [World.size_alloc, grow_size, World.size_setCell]); omega)))))⟩
set_option maxRecDepth 100000 in
set_option maxHeartbeats 4000000 in
theorem hNew_no (p : Value) (n : Int) (w : World) : Calls Tryd.prog 11 #[.agg #[.bool false, .int .i64 0, .int .i64 0, .int .i64 0, .int .i64 0, .int .i64 0], p, .int .i64 n] w fun e w' => e = .returned (.pointer none) ∧ Ext w w' := by
  have hr : rightC ⟨false, 0, 0, 0, 0, 0⟩ = true := by decide
  go_enter Tryd.func11, Tryd.ntmps11
  go_wp2_with (go_at_call 27; refine (capRight false 0 0 0 0 0 _).mono ?_; rw [hr]; rintro e w1 ⟨rfl, hy⟩; obtain ⟨d, rfl⟩ := hy.grown; clear hy)
  go_ret
  exact ⟨rfl, (by repeat (first | (with_reducible exact Ext.refl _) | (with_reducible refine Ext.undrew ?_) | (with_reducible refine Ext.grow ?_ _) | (with_reducible refine Ext.drew ?_) | (with_reducible refine Ext.drewN ?_ _) | (with_reducible refine Ext.alloc ?_ _) | (with_reducible assumption) | ((with_reducible refine Ext.setCell ?_ ?_ _); rotate_left; (first | exact Nat.le_refl _ | ((try dsimp only); (try simp only [World.size_alloc, grow_size, World.size_setCell]); omega)))))⟩

end Go.Proofs.YtoeiemeffiiidaaDoor
