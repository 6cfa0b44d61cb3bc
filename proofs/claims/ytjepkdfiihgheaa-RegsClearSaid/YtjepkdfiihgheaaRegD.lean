/- Layer 18: contracts of registers: Put. -/
import Derived.Test.YtjepkdfiihgheaaRegA
namespace Go.Proofs.Ytjepkdfiihgheaa
set_option linter.unusedSimpArgs false
set_option linter.unusedVariables false
open Go.RowKit

theorem arrayAt8 (b o c : Nat) (w : World) : (Instr.arrayAt 45 (.slice (some ⟨b, o, none⟩) 8 c)).run Try.prog w = .ok (.pointer (some ⟨b, o, none⟩)) w := by kernel_rfl
attribute [local go_sem] arrayAt8
def allR (n : Nat) (M : Nat → Cap) : Bool := (List.range n).all fun i => rightC (M i)
theorem allR_no {n k : Nat} {M : Nat → Cap} (hk : k < n) (h : rightC (M k) = false) : allR n M = false := all_range_false hk h
theorem allR_yes {n : Nat} {M : Nat → Cap} (h : ∀ k, k < n → rightC (M k) = true) : allR n M = true := all_range_true h
def okPut (n : Nat) (M : Nat → Cap) : Bool := decide (n = 8) && allR n M
def putL (n : Nat) (M L : Nat → Cap) : Nat → Cap := if okPut n M = true then M else L
theorem putL_yes {n : Nat} {M : Nat → Cap} (h : okPut n M = true) (L : Nat → Cap) : putL n M L = M := by unfold putL; rw [if_pos h]
theorem putL_no {n : Nat} {M : Nat → Cap} (h : okPut n M = false) (L : Nat → Cap) : putL n M L = L := by unfold putL; rw [if_neg (by simp [h])]
theorem okPut_8 (M : Nat → Cap) : okPut 8 M = allR 8 M := by simp [okPut]
theorem okPut_n {n : Nat} (M : Nat → Cap) (h : ¬ n = 8) : okPut n M = false := by simp [okPut, h]
theorem allR_iff {n : Nat} {M : Nat → Cap} : allR n M = true ↔ ∀ k, k < n → rightC (M k) = true := by simp [allR]
set_option maxHeartbeats 400000 in
theorem put1 (t : Bool) (b tp a p ty : Int) (w : World) :
    Calls Try.prog 25 #[.agg #[.bool t, .int .i64 b, .int .i64 tp, .int .i64 a, .int .i64 p, .int .i64 ty]] w fun e w' => e = .returned (.bool (!rightC ⟨t, b, tp, a, p, ty⟩)) ∧ Ext w w' := by
  go_enter Try.func25, Try.ntmps25
  go_wp2_with (go_at_call 26; refine (capRight _ _ _ _ _ _ _).mono ?_; rintro e w1 ⟨rfl, hy⟩; obtain ⟨d, rfl⟩ := hy.grown; clear hy)
  all_goals go_ret
  all_goals exact ⟨rfl, (by repeat (first | (with_reducible exact Ext.refl _) | (with_reducible refine Ext.undrew ?_) | (with_reducible refine Ext.grow ?_ _) | (with_reducible refine Ext.drew ?_) | (with_reducible refine Ext.drewN ?_ _) | (with_reducible refine Ext.alloc ?_ _) | (with_reducible assumption) | ((with_reducible refine Ext.setCell ?_ ?_ _); rotate_left; (first | exact Nat.le_refl _ | ((try dsimp only); (try simp only [World.size_alloc, grow_size, World.size_setCell]); omega)))))⟩

set_option maxHeartbeats 2000000 in
theorem index_ (A : Option Addr) (n ca : Nat) (M : Nat → Cap) (w : World) (hA : RdC w A n M) (hn : n ≤ 1000000000) :
    Calls Try.prog 33 #[.slice A n ca, .func (.func 25) #[] #[]] w fun e w' => ∃ z : Int, e = .returned (.int .i64 z) ∧ decide (0 ≤ z) = !allR n M ∧ Ext w w' := by
  have HA := hid hA
  clear hA
  have hfn : ∀ args w', Sem.run Try.prog (callFunc 25 args) w' = .ok (.enter 25 args) w' := fun args w' => enterOf Try.func25 (by kernel_rfl) (by kernel_rfl) args w'
  go_enter Try.func33, Try.ntmps33
  go_wp2
  go_loopw [8] (fun i wr => ∃ k : Nat, k ≤ n ∧ i = .int .i64 k ∧ Hid (∀ j, j < k → rightC (M j) = true) ∧ Ext w wr) (fun i _ => n - (intOf i).toNat)
  case atStart => exact ⟨0, Nat.zero_le _, rfl, hid fun j hj => absurd hj (by omega), (by repeat (first | (with_reducible exact Ext.refl _) | (with_reducible refine Ext.undrew ?_) | (with_reducible refine Ext.grow ?_ _) | (with_reducible refine Ext.drew ?_) | (with_reducible refine Ext.drewN ?_ _) | (with_reducible refine Ext.alloc ?_ _) | (with_reducible assumption) | ((with_reducible refine Ext.setCell ?_ ?_ _); rotate_left; (first | exact Nat.le_refl _ | ((try dsimp only); (try simp only [World.size_alloc, grow_size, World.size_setCell]); omega)))))⟩
  case round =>
    obtain ⟨k, hk, rfl, hall, hx⟩ := hrel
    by_cases hlt : k < n
    · obtain ⟨b1, o1, rfl, h1⟩ := HA.out (by omega)
      obtain ⟨hb1, c0, c1, c2, c3, c4, c5⟩ := ((h1 k hlt).ext hx).six
      clear h1
      cases hr : rightC (M k) with
      | true =>
        have hr' : rightC ⟨(M k).tag, (M k).base, (M k).top, (M k).at_, (M k).perms, (M k).type⟩ = true := hr
        go_wp2_with (refine (put1 _ _ _ _ _ _ _).mono ?_; rintro e w1 ⟨rfl, hy⟩; obtain ⟨d, rfl⟩ := hy.grown; clear hy)
        go_roundw
        case rel => exact ⟨k + 1, by omega, by go_num, hid (upto_snoc hall.out hr), (by repeat (first | (with_reducible exact Ext.refl _) | (with_reducible refine Ext.undrew ?_) | (with_reducible refine Ext.grow ?_ _) | (with_reducible refine Ext.drew ?_) | (with_reducible refine Ext.drewN ?_ _) | (with_reducible refine Ext.alloc ?_ _) | (with_reducible assumption) | ((with_reducible refine Ext.setCell ?_ ?_ _); rotate_left; (first | exact Nat.le_refl _ | ((try dsimp only); (try simp only [World.size_alloc, grow_size, World.size_setCell]); omega)))))⟩
        case measure => simp [intOf]; omega
      | false =>
        have hr' : rightC ⟨(M k).tag, (M k).base, (M k).top, (M k).at_, (M k).perms, (M k).type⟩ = false := hr
        go_wp2_with (refine (put1 _ _ _ _ _ _ _).mono ?_; rintro e w1 ⟨rfl, hy⟩; obtain ⟨d, rfl⟩ := hy.grown; clear hy)
        go_ret
        exact ⟨_, rfl, by rw [allR_no hlt hr]; simp, (by repeat (first | (with_reducible exact Ext.refl _) | (with_reducible refine Ext.undrew ?_) | (with_reducible refine Ext.grow ?_ _) | (with_reducible refine Ext.drew ?_) | (with_reducible refine Ext.drewN ?_ _) | (with_reducible refine Ext.alloc ?_ _) | (with_reducible assumption) | ((with_reducible refine Ext.setCell ?_ ?_ _); rotate_left; (first | exact Nat.le_refl _ | ((try dsimp only); (try simp only [World.size_alloc, grow_size, World.size_setCell]); omega)))))⟩
    · go_wp2
      go_ret
      exact ⟨_, rfl, by rw [allR_yes (fun j hj => hall.out j (by omega))]; simp, (by repeat (first | (with_reducible exact Ext.refl _) | (with_reducible refine Ext.undrew ?_) | (with_reducible refine Ext.grow ?_ _) | (with_reducible refine Ext.drew ?_) | (with_reducible refine Ext.drewN ?_ _) | (with_reducible refine Ext.alloc ?_ _) | (with_reducible assumption) | ((with_reducible refine Ext.setCell ?_ ?_ _); rotate_left; (first | exact Nat.le_refl _ | ((try dsimp only); (try simp only [World.size_alloc, grow_size, World.size_setCell]); omega)))))⟩

set_option maxHeartbeats 2000000 in
theorem contains_ (A : Option Addr) (n ca : Nat) (M : Nat → Cap) (w : World) (hA : RdC w A n M) (hn : n ≤ 1000000000) :
    Calls Try.prog 24 #[.slice A n ca, .func (.func 25) #[] #[]] w fun e w' => e = .returned (.bool (!allR n M)) ∧ Ext w w' := by
  go_enter Try.func24, Try.ntmps24
  go_wp2_with (go_at_call 33; refine (index_ A n ca M _ hA hn).mono ?_; rintro e w1 ⟨z, rfl, hz, hy⟩; obtain ⟨d, rfl⟩ := hy.grown; clear hy)
  go_ret
  exact ⟨rfl, (by repeat (first | (with_reducible exact Ext.refl _) | (with_reducible refine Ext.undrew ?_) | (with_reducible refine Ext.grow ?_ _) | (with_reducible refine Ext.drew ?_) | (with_reducible refine Ext.drewN ?_ _) | (with_reducible refine Ext.alloc ?_ _) | (with_reducible assumption) | ((with_reducible refine Ext.setCell ?_ ?_ _); rotate_left; (first | exact Nat.le_refl _ | ((try dsimp only); (try simp only [World.size_alloc, grow_size, World.size_setCell]); omega)))))⟩

set_option maxHeartbeats 2000000 in
theorem put_ (q : Nat) (L : Nat → Cap) (A : Option Addr) (n ca : Nat) (M : Nat → Cap) (w : World) (h : Fil w q L) (hA : RdC w A n M) (hn : n ≤ 1000000000) :
    Calls Try.prog 10 #[.pointer (some ⟨q, 0, none⟩), .slice A n ca] w fun e w' => e = .returned (.bool (okPut n M)) ∧ Fil w' q (putL n M L) ∧ Only (· = q) w w' := by
  have H := hid h
  by_cases h8 : n = 8
  · subst h8
    obtain ⟨b1, o1, rfl, h1⟩ := hA (by omega)
    have HG := hid (RdC.rng (by omega) h1)
    have HTh := hid (Caps.thereArr h (by omega) M)
    cases hr : allR 8 M with
    | true =>
      have ho := (okPut_8 M).trans hr
      rw [putL_yes ho, ho]
      clear h h1 ho
      go_enter Try.func10, Try.ntmps10
      go_wp2_with (first | (go_at_call 24; refine (contains_ _ _ ca M _ hA (by omega)).mono ?_; rintro e w1 ⟨rfl, hy⟩; obtain ⟨d, rfl⟩ := hy.grown; clear hy) | (with_reducible refine wpList_load_mid rfl 45 (.tmp 14) rfl b1 o1 rfl (capsList 8 M) _ (Rng.range (HG.out.ext (by repeat (first | (with_reducible exact Ext.refl _) | (with_reducible refine Ext.undrew ?_) | (with_reducible refine Ext.grow ?_ _) | (with_reducible refine Ext.drew ?_) | (with_reducible refine Ext.drewN ?_ _) | (with_reducible refine Ext.alloc ?_ _) | (with_reducible assumption) | ((with_reducible refine Ext.setCell ?_ ?_ _); rotate_left; (first | exact Nat.le_refl _ | ((try dsimp only); (try simp only [World.size_alloc, grow_size, World.size_setCell]); omega))))))) Try.underlying45 rfl (by rw [capsList_length]; kernel_rfl) ?_) | (with_reducible refine wpList_store_mid rfl 45 (.tmp 17) (.tmp 15) rfl q 0 (capsList 8 M).toArray rfl rfl (there_ext HTh.out (by repeat (first | (with_reducible exact Ext.refl _) | (with_reducible refine Ext.undrew ?_) | (with_reducible refine Ext.grow ?_ _) | (with_reducible refine Ext.drew ?_) | (with_reducible refine Ext.drewN ?_ _) | (with_reducible refine Ext.alloc ?_ _) | (with_reducible assumption) | ((with_reducible refine Ext.setCell ?_ ?_ _); rotate_left; (first | exact Nat.le_refl _ | ((try dsimp only); (try simp only [World.size_alloc, grow_size, World.size_setCell]); omega)))))) (by rw [capsArr_size]; kernel_rfl) (capsArr_one _ _) ?_))
      go_ret
      refine ⟨rfl, ?_, ?_⟩
      · exact Caps.ofRow ((Caps.row (Caps.ext H.out (by repeat (first | (with_reducible exact Ext.refl _) | (with_reducible refine Ext.undrew ?_) | (with_reducible refine Ext.grow ?_ _) | (with_reducible refine Ext.drew ?_) | (with_reducible refine Ext.drewN ?_ _) | (with_reducible refine Ext.alloc ?_ _) | (with_reducible assumption) | ((with_reducible refine Ext.setCell ?_ ?_ _); rotate_left; (first | exact Nat.le_refl _ | ((try dsimp only); (try simp only [World.size_alloc, grow_size, World.size_setCell]); omega)))))) (by omega)).put (by rw [capsList_length]; exact capsList_length 8 M))
      · refine Only.setCells (S := (· = q)) (.inl rfl) _ _ ?_
        exact Only.ofExt (by repeat (first | (with_reducible exact Ext.refl _) | (with_reducible refine Ext.undrew ?_) | (with_reducible refine Ext.grow ?_ _) | (with_reducible refine Ext.drew ?_) | (with_reducible refine Ext.drewN ?_ _) | (with_reducible refine Ext.alloc ?_ _) | (with_reducible assumption) | ((with_reducible refine Ext.setCell ?_ ?_ _); rotate_left; (first | exact Nat.le_refl _ | ((try dsimp only); (try simp only [World.size_alloc, grow_size, World.size_setCell]); omega)))))
    | false =>
      have ho := (okPut_8 M).trans hr
      rw [putL_no ho, ho]
      clear h h1 ho
      go_enter Try.func10, Try.ntmps10
      go_wp2_with (go_at_call 24; refine (contains_ _ _ ca M _ hA (by omega)).mono ?_; rintro e w1 ⟨rfl, hy⟩; obtain ⟨d, rfl⟩ := hy.grown; clear hy)
      go_ret
      exact ⟨rfl, H.out.ext (by repeat (first | (with_reducible exact Ext.refl _) | (with_reducible refine Ext.undrew ?_) | (with_reducible refine Ext.grow ?_ _) | (with_reducible refine Ext.drew ?_) | (with_reducible refine Ext.drewN ?_ _) | (with_reducible refine Ext.alloc ?_ _) | (with_reducible assumption) | ((with_reducible refine Ext.setCell ?_ ?_ _); rotate_left; (first | exact Nat.le_refl _ | ((try dsimp only); (try simp only [World.size_alloc, grow_size, World.size_setCell]); omega))))), Only.ofExt (by repeat (first | (with_reducible exact Ext.refl _) | (with_reducible refine Ext.undrew ?_) | (with_reducible refine Ext.grow ?_ _) | (with_reducible refine Ext.drew ?_) | (with_reducible refine Ext.drewN ?_ _) | (with_reducible refine Ext.alloc ?_ _) | (with_reducible assumption) | ((with_reducible refine Ext.setCell ?_ ?_ _); rotate_left; (first | exact Nat.le_refl _ | ((try dsimp only); (try simp only [World.size_alloc, grow_size, World.size_setCell]); omega)))))⟩
  · rw [putL_no (okPut_n M h8), okPut_n M h8]
    have h8' : ¬ (n : Int) = 8 := by omega
    clear h
    go_enter Try.func10, Try.ntmps10
    go_wp2_with (go_at_call 24; refine (contains_ _ _ ca M _ hA (by omega)).mono ?_; rintro e w1 ⟨rfl, hy⟩; obtain ⟨d, rfl⟩ := hy.grown; clear hy)
    go_ret
    exact ⟨rfl, H.out.ext (by repeat (first | (with_reducible exact Ext.refl _) | (with_reducible refine Ext.undrew ?_) | (with_reducible refine Ext.grow ?_ _) | (with_reducible refine Ext.drew ?_) | (with_reducible refine Ext.drewN ?_ _) | (with_reducible refine Ext.alloc ?_ _) | (with_reducible assumption) | ((with_reducible refine Ext.setCell ?_ ?_ _); rotate_left; (first | exact Nat.le_refl _ | ((try dsimp only); (try simp only [World.size_alloc, grow_size, World.size_setCell]); omega))))), Only.ofExt (by repeat (first | (with_reducible exact Ext.refl _) | (with_reducible refine Ext.undrew ?_) | (with_reducible refine Ext.grow ?_ _) | (with_reducible refine Ext.drew ?_) | (with_reducible refine Ext.drewN ?_ _) | (with_reducible refine Ext.alloc ?_ _) | (with_reducible assumption) | ((with_reducible refine Ext.setCell ?_ ?_ _); rotate_left; (first | exact Nat.le_refl _ | ((try dsimp only); (try simp only [World.size_alloc, grow_size, World.size_setCell]); omega)))))⟩


end Go.Proofs.Ytjepkdfiihgheaa
