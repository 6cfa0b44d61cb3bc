/- Layer 18: contracts of registers: Set. -/
import Derived.Test.YtjepkdfiihgheaaRegA
import Derived.Test.YtjepkdfiihgheaaRef2
import Derived.Deep.DrawnRows
namespace Go.Proofs.Ytjepkdfiihgheaa
set_option linter.unusedSimpArgs false
set_option linter.unusedVariables false
open Go.RowKit

attribute [local go_sem ↓] Go.wp_at_zero Go.wp_at_succ
def okSet (r : Int) (c : Cap) : Bool := isReg r && rightC c
def setL (L : Nat → Cap) (r : Int) (c : Cap) : Nat → Cap := if okSet r c = true then upd L r.toNat c else L
theorem setL_yes {L : Nat → Cap} {r : Int} {c : Cap} (h : okSet r c = true) : setL L r c = upd L r.toNat c := by unfold setL; rw [if_pos h]
theorem setL_no {L : Nat → Cap} {r : Int} {c : Cap} (h : okSet r c = false) : setL L r c = L := by unfold setL; rw [if_neg (by simp [h])]
set_option maxHeartbeats 400000 in
theorem set_ (q : Nat) (L : Nat → Cap) (r : Int) (t : Bool) (b tp a p ty : Int) (w : World) (h : Fil w q L) :
    Calls Try.prog 14 #[.pointer (some ⟨q, 0, none⟩), .int .i64 r, .agg #[.bool t, .int .i64 b, .int .i64 tp, .int .i64 a, .int .i64 p, .int .i64 ty]] w fun e w' => e = .returned (.bool (okSet r ⟨t, b, tp, a, p, ty⟩)) ∧ Fil w' q (setL L r ⟨t, b, tp, a, p, ty⟩) ∧ Only (· = q) w w' := by
  have H := hid h
  by_cases h1 : isReg r = true
  · have hr : 0 ≤ r ∧ r < 8 := by simpa [isReg] using h1
    cases h2 : rightC ⟨t, b, tp, a, p, ty⟩ with
    | true =>
      have e : okSet r ⟨t, b, tp, a, p, ty⟩ = true := by simp [okSet, h1, h2]
      rw [setL_yes e, e]
      clear e
      obtain ⟨k, rfl⟩ := Int.eq_ofNat_of_zero_le hr.1
      have hk : k < 8 := by omega
      have hk0 : (0 : Int) ≤ (k : Int) := by omega
      have hk1 : (k : Int) < 8 := by omega
      have HR := h.at_ hk
      obtain ⟨hq, c0, c1, c2, c3, c4, c5⟩ := HR.six
      obtain ⟨f0, f1, f2, f3, f4, f5⟩ := HR.frees
      have hn : ¬ q = w.heap.size := by omega
      have hn2 : ¬ w.heap.size = q := by omega
      have HP := Fil.put H.out hk ⟨t, b, tp, a, p, ty⟩
      simp only [Cap.cells, World.setCells, Nat.add_assoc, Nat.reduceAdd] at HP
      have HP := hid HP
      clear h HR hr
      go_enter Try.func14, Try.ntmps14
      go_wp2_with (first | (go_at_call 27; refine (isReg_ _ _).mono ?_; rintro e w1 ⟨rfl, rfl⟩) | (go_at_call 26; refine (capRight _ _ _ _ _ _ _).mono ?_; rintro e w1 ⟨rfl, hy⟩; obtain ⟨d, rfl⟩ := hy.grown; clear hy))
      go_region_held3 (fun w' => w'.cell? ⟨w.heap.size, 0, none⟩ = some (.bool t) ∧ w'.cell? ⟨w.heap.size, 1, none⟩ = some (.int .i64 b) ∧ w'.cell? ⟨w.heap.size, 2, none⟩ = some (.int .i64 tp) ∧ w'.cell? ⟨w.heap.size, 3, none⟩ = some (.int .i64 a) ∧ w'.cell? ⟨w.heap.size, 4, none⟩ = some (.int .i64 p) ∧ w'.cell? ⟨w.heap.size, 5, none⟩ = some (.int .i64 ty)) (first | (simp [go_sem, *]; done) | go_keep) (fail)
      go_wp2
      go_ret
      exact ⟨rfl, HP.out.ext (by repeat (first | (with_reducible exact Ext.refl _) | (with_reducible refine Ext.undrew ?_) | (with_reducible refine Ext.grow ?_ _) | (with_reducible refine Ext.drew ?_) | (with_reducible refine Ext.drewN ?_ _) | (with_reducible refine Ext.alloc ?_ _) | (with_reducible assumption) | ((with_reducible refine Ext.setCell ?_ ?_ _); rotate_left; (first | exact Nat.le_refl _ | ((try dsimp only); (try simp only [World.size_alloc, grow_size, World.size_setCell]); omega))))), (by repeat (first | (with_reducible exact Only.refl _ _) | (with_reducible refine Only.drew ?_) | (with_reducible refine Only.grow ?_ _) | (with_reducible refine Only.alloc ?_ _) | (with_reducible assumption) | ((with_reducible refine Only.setCell ?_ ?_ _); rotate_left; exact .inl rfl) | (with_reducible exact Only.ofExt (by assumption)) | ((with_reducible refine Only.setCells ?_ _ _ ?_); exact .inl rfl)))⟩
    | false =>
      have e : okSet r ⟨t, b, tp, a, p, ty⟩ = false := by simp [okSet, h2]
      rw [setL_no e, e]
      clear e h
      go_enter Try.func14, Try.ntmps14
      go_wp2_with (first | (go_at_call 27; refine (isReg_ _ _).mono ?_; rintro e w1 ⟨rfl, rfl⟩) | (go_at_call 26; refine (capRight _ _ _ _ _ _ _).mono ?_; rintro e w1 ⟨rfl, hy⟩; obtain ⟨d, rfl⟩ := hy.grown; clear hy))
      go_ret
      exact ⟨rfl, H.out.ext (by repeat (first | (with_reducible exact Ext.refl _) | (with_reducible refine Ext.undrew ?_) | (with_reducible refine Ext.grow ?_ _) | (with_reducible refine Ext.drew ?_) | (with_reducible refine Ext.drewN ?_ _) | (with_reducible refine Ext.alloc ?_ _) | (with_reducible assumption) | ((with_reducible refine Ext.setCell ?_ ?_ _); rotate_left; (first | exact Nat.le_refl _ | ((try dsimp only); (try simp only [World.size_alloc, grow_size, World.size_setCell]); omega))))), Only.ofExt (by repeat (first | (with_reducible exact Ext.refl _) | (with_reducible refine Ext.undrew ?_) | (with_reducible refine Ext.grow ?_ _) | (with_reducible refine Ext.drew ?_) | (with_reducible refine Ext.drewN ?_ _) | (with_reducible refine Ext.alloc ?_ _) | (with_reducible assumption) | ((with_reducible refine Ext.setCell ?_ ?_ _); rotate_left; (first | exact Nat.le_refl _ | ((try dsimp only); (try simp only [World.size_alloc, grow_size, World.size_setCell]); omega)))))⟩
  · have h1 : isReg r = false := by simpa using h1
    have e : okSet r ⟨t, b, tp, a, p, ty⟩ = false := by simp [okSet, h1]
    rw [setL_no e, e]
    clear e h
    go_enter Try.func14, Try.ntmps14
    go_wp2_with (first | (go_at_call 27; refine (isReg_ _ _).mono ?_; rintro e w1 ⟨rfl, rfl⟩) | (go_at_call 26; refine (capRight _ _ _ _ _ _ _).mono ?_; rintro e w1 ⟨rfl, hy⟩; obtain ⟨d, rfl⟩ := hy.grown; clear hy))
    go_ret
    exact ⟨rfl, H.out.ext (by repeat (first | (with_reducible exact Ext.refl _) | (with_reducible refine Ext.undrew ?_) | (with_reducible refine Ext.grow ?_ _) | (with_reducible refine Ext.drew ?_) | (with_reducible refine Ext.drewN ?_ _) | (with_reducible refine Ext.alloc ?_ _) | (with_reducible assumption) | ((with_reducible refine Ext.setCell ?_ ?_ _); rotate_left; (first | exact Nat.le_refl _ | ((try dsimp only); (try simp only [World.size_alloc, grow_size, World.size_setCell]); omega))))), Only.ofExt (by repeat (first | (with_reducible exact Ext.refl _) | (with_reducible refine Ext.undrew ?_) | (with_reducible refine Ext.grow ?_ _) | (with_reducible refine Ext.drew ?_) | (with_reducible refine Ext.drewN ?_ _) | (with_reducible refine Ext.alloc ?_ _) | (with_reducible assumption) | ((with_reducible refine Ext.setCell ?_ ?_ _); rotate_left; (first | exact Nat.le_refl _ | ((try dsimp only); (try simp only [World.size_alloc, grow_size, World.size_setCell]); omega)))))⟩

set_option maxHeartbeats 400000 in
theorem rset (q : Nat) (L : Nat → Cap) (r : Int) (t : Bool) (b tp a p ty : Int) (w : World) (h : Fil w q L) :
    Calls Try.prog 15 #[.pointer (some ⟨q, 0, none⟩), .int .i64 r, .agg #[.bool t, .int .i64 b, .int .i64 tp, .int .i64 a, .int .i64 p, .int .i64 ty]] w fun e w' => e = .returned (.bool (okSet r ⟨t, b, tp, a, p, ty⟩)) ∧ Fil w' q (setL L r ⟨t, b, tp, a, p, ty⟩) ∧ Only (· = q) w w' := by
  have H := hid h
  by_cases h1 : isReg r = true
  · have hr : 0 ≤ r ∧ r < 8 := by simpa [isReg] using h1
    cases h2 : rightC ⟨t, b, tp, a, p, ty⟩ with
    | true =>
      have e : okSet r ⟨t, b, tp, a, p, ty⟩ = true := by simp [okSet, h1, h2]
      rw [setL_yes e, e]
      clear e
      obtain ⟨k, rfl⟩ := Int.eq_ofNat_of_zero_le hr.1
      have hk : k < 8 := by omega
      have hk0 : (0 : Int) ≤ (k : Int) := by omega
      have hk1 : (k : Int) < 8 := by omega
      have HR := h.at_ hk
      obtain ⟨hq, c0, c1, c2, c3, c4, c5⟩ := HR.six
      obtain ⟨f0, f1, f2, f3, f4, f5⟩ := HR.frees
      have hn : ¬ q = w.heap.size := by omega
      have hn2 : ¬ w.heap.size = q := by omega
      have HP := Fil.put H.out hk ⟨t, b, tp, a, p, ty⟩
      simp only [Cap.cells, World.setCells, Nat.add_assoc, Nat.reduceAdd] at HP
      have HP := hid HP
      clear h HR hr
      go_enter Try.func15, Try.ntmps15
      go_wp2_with (first | (go_at_call 28; refine (ris _ _).mono ?_; rintro e w1 ⟨rfl, rfl⟩) | (go_at_call 23; refine (rcapRight _ _ _ _ _ _ _).mono ?_; rintro e w1 ⟨rfl, hy⟩; obtain ⟨d, rfl⟩ := hy.grown; clear hy))
      go_region_held3 (fun w' => w'.cell? ⟨w.heap.size, 0, none⟩ = some (.bool t) ∧ w'.cell? ⟨w.heap.size, 1, none⟩ = some (.int .i64 b) ∧ w'.cell? ⟨w.heap.size, 2, none⟩ = some (.int .i64 tp) ∧ w'.cell? ⟨w.heap.size, 3, none⟩ = some (.int .i64 a) ∧ w'.cell? ⟨w.heap.size, 4, none⟩ = some (.int .i64 p) ∧ w'.cell? ⟨w.heap.size, 5, none⟩ = some (.int .i64 ty)) (first | (simp [go_sem, *]; done) | go_keep) (fail)
      go_wp2
      go_ret
      exact ⟨rfl, HP.out.ext (by repeat (first | (with_reducible exact Ext.refl _) | (with_reducible refine Ext.undrew ?_) | (with_reducible refine Ext.grow ?_ _) | (with_reducible refine Ext.drew ?_) | (with_reducible refine Ext.drewN ?_ _) | (with_reducible refine Ext.alloc ?_ _) | (with_reducible assumption) | ((with_reducible refine Ext.setCell ?_ ?_ _); rotate_left; (first | exact Nat.le_refl _ | ((try dsimp only); (try simp only [World.size_alloc, grow_size, World.size_setCell]); omega))))), (by repeat (first | (with_reducible exact Only.refl _ _) | (with_reducible refine Only.drew ?_) | (with_reducible refine Only.grow ?_ _) | (with_reducible refine Only.alloc ?_ _) | (with_reducible assumption) | ((with_reducible refine Only.setCell ?_ ?_ _); rotate_left; exact .inl rfl) | (with_reducible exact Only.ofExt (by assumption)) | ((with_reducible refine Only.setCells ?_ _ _ ?_); exact .inl rfl)))⟩
    | false =>
      have e : okSet r ⟨t, b, tp, a, p, ty⟩ = false := by simp [okSet, h2]
      rw [setL_no e, e]
      clear e h
      go_enter Try.func15, Try.ntmps15
      go_wp2_with (first | (go_at_call 28; refine (ris _ _).mono ?_; rintro e w1 ⟨rfl, rfl⟩) | (go_at_call 23; refine (rcapRight _ _ _ _ _ _ _).mono ?_; rintro e w1 ⟨rfl, hy⟩; obtain ⟨d, rfl⟩ := hy.grown; clear hy))
      go_ret
      exact ⟨rfl, H.out.ext (by repeat (first | (with_reducible exact Ext.refl _) | (with_reducible refine Ext.undrew ?_) | (with_reducible refine Ext.grow ?_ _) | (with_reducible refine Ext.drew ?_) | (with_reducible refine Ext.drewN ?_ _) | (with_reducible refine Ext.alloc ?_ _) | (with_reducible assumption) | ((with_reducible refine Ext.setCell ?_ ?_ _); rotate_left; (first | exact Nat.le_refl _ | ((try dsimp only); (try simp only [World.size_alloc, grow_size, World.size_setCell]); omega))))), Only.ofExt (by repeat (first | (with_reducible exact Ext.refl _) | (with_reducible refine Ext.undrew ?_) | (with_reducible refine Ext.grow ?_ _) | (with_reducible refine Ext.drew ?_) | (with_reducible refine Ext.drewN ?_ _) | (with_reducible refine Ext.alloc ?_ _) | (with_reducible assumption) | ((with_reducible refine Ext.setCell ?_ ?_ _); rotate_left; (first | exact Nat.le_refl _ | ((try dsimp only); (try simp only [World.size_alloc, grow_size, World.size_setCell]); omega)))))⟩
  · have h1 : isReg r = false := by simpa using h1
    have e : okSet r ⟨t, b, tp, a, p, ty⟩ = false := by simp [okSet, h1]
    rw [setL_no e, e]
    clear e h
    go_enter Try.func15, Try.ntmps15
    go_wp2_with (first | (go_at_call 28; refine (ris _ _).mono ?_; rintro e w1 ⟨rfl, rfl⟩) | (go_at_call 23; refine (rcapRight _ _ _ _ _ _ _).mono ?_; rintro e w1 ⟨rfl, hy⟩; obtain ⟨d, rfl⟩ := hy.grown; clear hy))
    go_ret
    exact ⟨rfl, H.out.ext (by repeat (first | (with_reducible exact Ext.refl _) | (with_reducible refine Ext.undrew ?_) | (with_reducible refine Ext.grow ?_ _) | (with_reducible refine Ext.drew ?_) | (with_reducible refine Ext.drewN ?_ _) | (with_reducible refine Ext.alloc ?_ _) | (with_reducible assumption) | ((with_reducible refine Ext.setCell ?_ ?_ _); rotate_left; (first | exact Nat.le_refl _ | ((try dsimp only); (try simp only [World.size_alloc, grow_size, World.size_setCell]); omega))))), Only.ofExt (by repeat (first | (with_reducible exact Ext.refl _) | (with_reducible refine Ext.undrew ?_) | (with_reducible refine Ext.grow ?_ _) | (with_reducible refine Ext.drew ?_) | (with_reducible refine Ext.drewN ?_ _) | (with_reducible refine Ext.alloc ?_ _) | (with_reducible assumption) | ((with_reducible refine Ext.setCell ?_ ?_ _); rotate_left; (first | exact Nat.le_refl _ | ((try dsimp only); (try simp only [World.size_alloc, grow_size, World.size_setCell]); omega)))))⟩


end Go.Proofs.Ytjepkdfiihgheaa
