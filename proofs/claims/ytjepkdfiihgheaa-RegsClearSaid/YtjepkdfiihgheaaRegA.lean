/- Layer 18: contracts of registers: what they have. -/
import Derived.Test.YtjepkdfiihgheaaCaps
namespace Go.Proofs.Ytjepkdfiihgheaa
set_option linter.unusedSimpArgs false
set_option linter.unusedVariables false
open Go.RowKit


/-- Eight registers at a block. -/
def Fil (w : World) (b : Nat) (L : Nat → Cap) : Prop := Caps w b 0 8 L
def getL (L : Nat → Cap) (r : Int) : Cap := if 0 ≤ r ∧ r < 8 then L r.toNat else nullC
def isReg (r : Int) : Bool := decide (0 ≤ r) && decide (r < 8)
theorem Fil.at_ {w : World} {b k : Nat} {L : Nat → Cap} (h : Fil w b L) (hk : k < 8) : Row w b (k * 6) (L k).cells := by
  have := h k hk
  rwa [Nat.zero_add] at this
theorem Fil.ext {w w' : World} {b : Nat} {L : Nat → Cap} (h : Fil w b L) (x : Ext w w') : Fil w' b L := Caps.ext h x
theorem Fil.keep {w w' : World} {b : Nat} {L : Nat → Cap} (h : Fil w b L) (x : Keep b w w') : Fil w' b L := Caps.keep h x
theorem Fil.only {S : Nat → Prop} {w w' : World} {b : Nat} {L : Nat → Cap} (h : Fil w b L) (x : Only S w w') (hs : ¬ S b) : Fil w' b L := Caps.only h x hs
theorem Fil.put {w : World} {b k : Nat} {L : Nat → Cap} (h : Fil w b L) (hk : k < 8) (c : Cap) : Fil (w.setCells b (k * 6) c.cells) b (upd L k c) := by
  have := Caps.put h hk c
  rwa [Nat.zero_add] at this
set_option maxHeartbeats 400000 in
theorem isReg_ (r : Int) (w : World) :
    Calls Try.prog 27 #[.int .i64 r] w fun e w' => e = .returned (.bool (isReg r)) ∧ w = w' := by
  go_enter Try.func27, Try.ntmps27
  go_wp2
  all_goals go_ret
  all_goals exact ⟨by simp [isReg, *] <;> omega, rfl⟩

set_option maxHeartbeats 400000 in
theorem ris (r : Int) (w : World) :
    Calls Try.prog 28 #[.int .i64 r] w fun e w' => e = .returned (.bool (isReg r)) ∧ w = w' := by
  go_enter Try.func28, Try.ntmps28
  go_wp2
  all_goals go_ret
  all_goals exact ⟨by simp [isReg, *] <;> omega, rfl⟩

set_option maxHeartbeats 400000 in
theorem get_ (b : Nat) (L : Nat → Cap) (r : Int) (w : World) (h : Fil w b L) :
    Calls Try.prog 19 #[.pointer (some ⟨b, 0, none⟩), .int .i64 r] w fun e w' => e = .returned (.agg #[.bool (getL L r).tag, .int .i64 (getL L r).base, .int .i64 (getL L r).top, .int .i64 (getL L r).at_, .int .i64 (getL L r).perms, .int .i64 (getL L r).type]) ∧ Ext w w' := by
  by_cases hr : 0 ≤ r ∧ r < 8
  · have HLt := (h.at_ (show 0 < 8 by omega)).lt
    obtain ⟨k, rfl⟩ := Int.eq_ofNat_of_zero_le hr.1
    have hk : k < 8 := by omega
    have e1 : isReg (k : Int) = true := by unfold isReg; simp; omega
    have HR := h.at_ hk
    have e : getL L (k : Int) = L k := by unfold getL; rw [if_pos hr]; simp
    rw [e]
    obtain ⟨hq, c0, c1, c2, c3, c4, c5⟩ := HR.six
    clear e hr h HR
    go_enter Try.func19, Try.ntmps19
    go_wp2_with (first | (go_at_call 27; refine (isReg_ _ _).mono ?_; rintro e w1 ⟨rfl, rfl⟩) | (go_at_call 29; refine (capNull _).mono ?_; rintro e w1 ⟨rfl, hy⟩; obtain ⟨d, rfl⟩ := hy.grown; clear hy))
    all_goals refine bodyPost_ret (v := .agg #[.bool (L k).tag, .int .i64 (L k).base, .int .i64 (L k).top, .int .i64 (L k).at_, .int .i64 (L k).perms, .int .i64 (L k).type]) (by simp [results, Try.results19, go_sem]) rfl ⟨rfl, (by repeat (first | (with_reducible exact Ext.refl _) | (with_reducible refine Ext.undrew ?_) | (with_reducible refine Ext.grow ?_ _) | (with_reducible refine Ext.drew ?_) | (with_reducible refine Ext.drewN ?_ _) | (with_reducible refine Ext.alloc ?_ _) | (with_reducible assumption) | ((with_reducible refine Ext.setCell ?_ ?_ _); rotate_left; (first | exact Nat.le_refl _ | ((try dsimp only); (try simp only [World.size_alloc, grow_size, World.size_setCell]); omega)))))⟩
  · have e : getL L r = nullC := by unfold getL; rw [if_neg hr]
    rw [e]
    have e1 : isReg r = false := by unfold isReg; simp; omega
    clear e hr h
    go_enter Try.func19, Try.ntmps19
    go_wp2_with (first | (go_at_call 27; refine (isReg_ _ _).mono ?_; rintro e w1 ⟨rfl, rfl⟩) | (go_at_call 29; refine (capNull _).mono ?_; rintro e w1 ⟨rfl, hy⟩; obtain ⟨d, rfl⟩ := hy.grown; clear hy))
    all_goals refine bodyPost_ret (v := .agg #[.bool (nullC).tag, .int .i64 (nullC).base, .int .i64 (nullC).top, .int .i64 (nullC).at_, .int .i64 (nullC).perms, .int .i64 (nullC).type]) (by simp [results, Try.results19, go_sem, nullC]) rfl ⟨by simp [nullC], (by repeat (first | (with_reducible exact Ext.refl _) | (with_reducible refine Ext.undrew ?_) | (with_reducible refine Ext.grow ?_ _) | (with_reducible refine Ext.drew ?_) | (with_reducible refine Ext.drewN ?_ _) | (with_reducible refine Ext.alloc ?_ _) | (with_reducible assumption) | ((with_reducible refine Ext.setCell ?_ ?_ _); rotate_left; (first | exact Nat.le_refl _ | ((try dsimp only); (try simp only [World.size_alloc, grow_size, World.size_setCell]); omega)))))⟩

set_option maxHeartbeats 400000 in
theorem rget (b : Nat) (L : Nat → Cap) (r : Int) (w : World) (h : Fil w b L) :
    Calls Try.prog 20 #[.pointer (some ⟨b, 0, none⟩), .int .i64 r] w fun e w' => e = .returned (.agg #[.bool (getL L r).tag, .int .i64 (getL L r).base, .int .i64 (getL L r).top, .int .i64 (getL L r).at_, .int .i64 (getL L r).perms, .int .i64 (getL L r).type]) ∧ Ext w w' := by
  by_cases hr : 0 ≤ r ∧ r < 8
  · have HLt := (h.at_ (show 0 < 8 by omega)).lt
    obtain ⟨k, rfl⟩ := Int.eq_ofNat_of_zero_le hr.1
    have hk : k < 8 := by omega
    have e1 : isReg (k : Int) = true := by unfold isReg; simp; omega
    have HR := h.at_ hk
    have e : getL L (k : Int) = L k := by unfold getL; rw [if_pos hr]; simp
    rw [e]
    obtain ⟨hq, c0, c1, c2, c3, c4, c5⟩ := HR.six
    clear e hr h HR
    go_enter Try.func20, Try.ntmps20
    go_wp2_with (go_at_call 28; refine (ris _ _).mono ?_; rintro e w1 ⟨rfl, rfl⟩)
    all_goals refine bodyPost_ret (v := .agg #[.bool (L k).tag, .int .i64 (L k).base, .int .i64 (L k).top, .int .i64 (L k).at_, .int .i64 (L k).perms, .int .i64 (L k).type]) (by simp [results, Try.results20, go_sem]) rfl ⟨rfl, (by repeat (first | (with_reducible exact Ext.refl _) | (with_reducible refine Ext.undrew ?_) | (with_reducible refine Ext.grow ?_ _) | (with_reducible refine Ext.drew ?_) | (with_reducible refine Ext.drewN ?_ _) | (with_reducible refine Ext.alloc ?_ _) | (with_reducible assumption) | ((with_reducible refine Ext.setCell ?_ ?_ _); rotate_left; (first | exact Nat.le_refl _ | ((try dsimp only); (try simp only [World.size_alloc, grow_size, World.size_setCell]); omega)))))⟩
  · have e : getL L r = nullC := by unfold getL; rw [if_neg hr]
    rw [e]
    have e1 : isReg r = false := by unfold isReg; simp; omega
    clear e hr h
    go_enter Try.func20, Try.ntmps20
    go_wp2_with (go_at_call 28; refine (ris _ _).mono ?_; rintro e w1 ⟨rfl, rfl⟩)
    all_goals refine bodyPost_ret (v := .agg #[.bool (nullC).tag, .int .i64 (nullC).base, .int .i64 (nullC).top, .int .i64 (nullC).at_, .int .i64 (nullC).perms, .int .i64 (nullC).type]) (by simp [results, Try.results20, go_sem, nullC]) rfl ⟨by simp [nullC], (by repeat (first | (with_reducible exact Ext.refl _) | (with_reducible refine Ext.undrew ?_) | (with_reducible refine Ext.grow ?_ _) | (with_reducible refine Ext.drew ?_) | (with_reducible refine Ext.drewN ?_ _) | (with_reducible refine Ext.alloc ?_ _) | (with_reducible assumption) | ((with_reducible refine Ext.setCell ?_ ?_ _); rotate_left; (first | exact Nat.le_refl _ | ((try dsimp only); (try simp only [World.size_alloc, grow_size, World.size_setCell]); omega)))))⟩

set_option maxHeartbeats 400000 in
theorem value_ (b : Nat) (L : Nat → Cap) (r : Int) (w : World) (h : Fil w b L) :
    Calls Try.prog 21 #[.pointer (some ⟨b, 0, none⟩), .int .i64 r] w fun e w' => e = .returned (.int .i64 (getL L r).at_) ∧ Ext w w' := by
  have H := hid h
  clear h
  go_enter Try.func21, Try.ntmps21
  go_wp2_with (first | (go_at_call 19; refine (get_ b L r _ (H.out.ext (by repeat (first | (with_reducible exact Ext.refl _) | (with_reducible refine Ext.undrew ?_) | (with_reducible refine Ext.grow ?_ _) | (with_reducible refine Ext.drew ?_) | (with_reducible refine Ext.drewN ?_ _) | (with_reducible refine Ext.alloc ?_ _) | (with_reducible assumption) | ((with_reducible refine Ext.setCell ?_ ?_ _); rotate_left; (first | exact Nat.le_refl _ | ((try dsimp only); (try simp only [World.size_alloc, grow_size, World.size_setCell]); omega))))))).mono ?_; rintro e w1 ⟨rfl, hy⟩; obtain ⟨d, rfl⟩ := hy.grown; clear hy) | (go_at_call 30; refine (capValue _ _ _ _ _ _ _).mono ?_; rintro e w1 ⟨rfl, hy⟩; obtain ⟨d, rfl⟩ := hy.grown; clear hy))
  all_goals go_ret
  all_goals exact ⟨rfl, (by repeat (first | (with_reducible exact Ext.refl _) | (with_reducible refine Ext.undrew ?_) | (with_reducible refine Ext.grow ?_ _) | (with_reducible refine Ext.drew ?_) | (with_reducible refine Ext.drewN ?_ _) | (with_reducible refine Ext.alloc ?_ _) | (with_reducible assumption) | ((with_reducible refine Ext.setCell ?_ ?_ _); rotate_left; (first | exact Nat.le_refl _ | ((try dsimp only); (try simp only [World.size_alloc, grow_size, World.size_setCell]); omega)))))⟩

set_option maxHeartbeats 400000 in
theorem rvalue (b : Nat) (L : Nat → Cap) (r : Int) (w : World) (h : Fil w b L) :
    Calls Try.prog 22 #[.pointer (some ⟨b, 0, none⟩), .int .i64 r] w fun e w' => e = .returned (.int .i64 (getL L r).at_) ∧ Ext w w' := by
  have H := hid h
  clear h
  go_enter Try.func22, Try.ntmps22
  go_wp2_with (first | (go_at_call 20; refine (rget b L r _ (H.out.ext (by repeat (first | (with_reducible exact Ext.refl _) | (with_reducible refine Ext.undrew ?_) | (with_reducible refine Ext.grow ?_ _) | (with_reducible refine Ext.drew ?_) | (with_reducible refine Ext.drewN ?_ _) | (with_reducible refine Ext.alloc ?_ _) | (with_reducible assumption) | ((with_reducible refine Ext.setCell ?_ ?_ _); rotate_left; (first | exact Nat.le_refl _ | ((try dsimp only); (try simp only [World.size_alloc, grow_size, World.size_setCell]); omega))))))).mono ?_; rintro e w1 ⟨rfl, hy⟩; obtain ⟨d, rfl⟩ := hy.grown; clear hy) | (go_at_call 30; refine (capValue _ _ _ _ _ _ _).mono ?_; rintro e w1 ⟨rfl, hy⟩; obtain ⟨d, rfl⟩ := hy.grown; clear hy))
  all_goals go_ret
  all_goals exact ⟨rfl, (by repeat (first | (with_reducible exact Ext.refl _) | (with_reducible refine Ext.undrew ?_) | (with_reducible refine Ext.grow ?_ _) | (with_reducible refine Ext.drew ?_) | (with_reducible refine Ext.drewN ?_ _) | (with_reducible refine Ext.alloc ?_ _) | (with_reducible assumption) | ((with_reducible refine Ext.setCell ?_ ?_ _); rotate_left; (first | exact Nat.le_refl _ | ((try dsimp only); (try simp only [World.size_alloc, grow_size, World.size_setCell]); omega)))))⟩


end Go.Proofs.Ytjepkdfiihgheaa
