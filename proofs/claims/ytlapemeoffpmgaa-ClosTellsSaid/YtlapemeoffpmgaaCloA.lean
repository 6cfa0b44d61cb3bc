/- Layer 6: authority, over. -/
import Derived.Test.YtlapemeoffpmgaaRwF
import Derived.Test.YtlapemeoffpmgaaM6Clo
import Derived.Test.YtlapemeoffpmgaaCloV
namespace Go.Proofs.Ytlapemeoffpmgaa
set_option linter.unusedSimpArgs false
set_option linter.unusedVariables false
open Go.RowKit

theorem grownOnly {S : Nat → Prop} {w w' : World} {row : Option Nat} (h : w.grownBy w' row) (hs : ∀ g, row = some g → S g) : Only S w w' :=
  ⟨h.os, h.tape, h.output, h.size, fun k hk hn => h.block k hk fun e => hn (hs k e.symm)⟩
def intF (k : Nat) : List Value := [.int .i64 (k : Int)]
theorem intF_len (k : Nat) : (intF k).length = 1 := rfl
theorem intF_one : ∀ k : Nat, ∀ u ∈ intF k, u.oneCell' = true := by
  intro z u hu
  obtain rfl := List.mem_singleton.1 hu
  rfl
theorem info_intN : InfoN Try.prog 3 1 8 := infoN_of (by kernel_rfl)
theorem cap_one : ∀ c : Cap, ∀ u ∈ c.cells, u.oneCell' = true := by
  intro c u hu
  simp only [Cap.cells, List.mem_cons, List.not_mem_nil, or_false] at hu
  rcases hu with rfl | rfl | rfl | rfl | rfl | rfl <;> rfl
theorem cap_len (c : Cap) : c.cells.length = 6 := rfl
theorem info_capN : InfoN Try.prog 24 6 48 := infoN_of (by kernel_rfl)
theorem rdF_row0 {α : Type} {f : α → List Value} {z : α} {w : World} {b : Nat} (h : Row w b 0 (f z)) : RdF f w (some ⟨b, 0, none⟩) [z] := fun _ => by
  refine ⟨b, 0, rfl, h.lt, fun j u hj => ?_⟩
  rw [rowF_one] at hj
  exact h.range j u hj
/-- The types below some number over which there is an authority. -/
def kindsTo (p : Int) (o : Cap) (n : Nat) : List Nat := (List.range n).filter fun k => decide (2 ≤ k) && authC o p k
theorem kindsTo_two (p : Int) (o : Cap) : kindsTo p o 2 = [] := by simp [kindsTo, List.range_succ]
theorem kindsTo_all (p : Int) (o : Cap) : kindsTo p o 256 = kindsOf p o := rfl
theorem kindsTo_yes {p : Int} {o : Cap} {n : Nat} (h2 : 2 ≤ n) (h : authC o p (n : Int) = true) : kindsTo p o (n + 1) = kindsTo p o n ++ [n] := by
  simp [kindsTo, List.range_succ, h2, h]
theorem kindsTo_no {p : Int} {o : Cap} {n : Nat} (h : authC o p (n : Int) = false) : kindsTo p o (n + 1) = kindsTo p o n := by
  simp [kindsTo, List.range_succ, h]
theorem kindsTo_len (p : Int) (o : Cap) (n : Nat) : (kindsTo p o n).length ≤ n := by
  have := List.length_filter_le (fun k : Nat => decide (2 ≤ k) && authC o p k) (List.range n)
  rwa [List.length_range] at this
set_option maxRecDepth 100000 in
set_option maxHeartbeats 4000000 in
theorem cauth_ (t : Bool) (b tp a p ty : Int) (p' k : Int) (w : World) : Calls Try.prog 65 #[.agg #[.bool t, .int .i64 b, .int .i64 tp, .int .i64 a, .int .i64 p, .int .i64 ty], .int .i64 p', .int .i64 k] w fun e w' => e = .returned (.bool (authC ⟨t, b, tp, a, p, ty⟩ p' k)) ∧ Ext w w' := by
  cases hb : hasB p p' with
  | false =>
    have e0 : authC ⟨t, b, tp, a, p, ty⟩ p' k = false := by simp only [authC, hb, Bool.false_and]
    rw [e0]
    go_enter Try.func65, Try.ntmps65
    go_wp2_with fail
    refine (has _ _ _).mono ?_; rintro e w1 ⟨he, rfl⟩
    rw [hb] at he
    subst he
    go_wp2
    go_ret
    exact ⟨rfl, (by repeat (first | (with_reducible exact Ext.refl _) | (with_reducible refine Ext.undrew ?_) | (with_reducible refine Ext.grow ?_ _) | (with_reducible refine Ext.drew ?_) | (with_reducible refine Ext.drewN ?_ _) | (with_reducible refine Ext.alloc ?_ _) | (with_reducible assumption) | ((with_reducible refine Ext.setCell ?_ ?_ _); rotate_left; (first | exact Nat.le_refl _ | ((try dsimp only); (try simp only [World.size_alloc, grow_size, World.size_setCell]); omega)))))⟩
  | true =>
    have e0 : authC ⟨t, b, tp, a, p, ty⟩ p' k = inC ⟨t, b, tp, a, p, ty⟩ k 1 := by simp only [authC, hb, Bool.true_and]
    rw [e0]
    go_enter Try.func65, Try.ntmps65
    go_wp2_with fail
    refine (has _ _ _).mono ?_; rintro e w1 ⟨he, rfl⟩
    rw [hb] at he
    subst he
    go_wp2_with fail
    refine (capIn _ _ _ _ _ _ _ _ _).mono ?_; rintro e w1 ⟨rfl, hy⟩
    have HY := hid hy
    clear hy
    go_wp2
    go_ret
    exact ⟨rfl, Ext.trans ((Ext.refl _).alloc _) HY.out⟩
set_option maxRecDepth 100000 in
set_option maxHeartbeats 4000000 in
theorem cover_ (t : Bool) (b tp a p ty : Int) (p' : Int) (w : World) : Calls Try.prog 36 #[.agg #[.bool t, .int .i64 b, .int .i64 tp, .int .i64 a, .int .i64 p, .int .i64 ty], .int .i64 p'] w fun e w' => ∃ A ca, e = .returned (.slice A (kindsOf p' ⟨t, b, tp, a, p, ty⟩).length ca) ∧ Hid (ownsAt w' (w.heap.size + 1) 3 1 (.slice A (kindsOf p' ⟨t, b, tp, a, p, ty⟩).length ca) (kindsOf p' ⟨t, b, tp, a, p, ty⟩).length (rowF intF (kindsOf p' ⟨t, b, tp, a, p, ty⟩))) ∧ Hid (Ext w w') := by
  have hn0 := kindsTo_len p' ⟨t, b, tp, a, p, ty⟩
  have HN := hid hn0
  clear hn0
  go_enter Try.func36, Try.ntmps36
  go_wp2
  go_loopw [5, 6] (fun v i wr => ∃ k : Nat, 2 ≤ k ∧ k ≤ 256 ∧ i = .int .i64 k ∧ Hid (ownsAt wr (w.heap.size + 1) 3 1 v (kindsTo p' ⟨t, b, tp, a, p, ty⟩ k).length (rowF intF (kindsTo p' ⟨t, b, tp, a, p, ty⟩ k))) ∧ Hid (Ext (w.alloc (.cells #[.bool t, .int .i64 b, .int .i64 tp, .int .i64 a, .int .i64 p, .int .i64 ty] 24)) wr)) (fun _ i _ => 256 - (intOf i).toNat)
  case atStart => exact ⟨2, Nat.le_refl _, by decide, rfl, hid (by rw [kindsTo_two]; exact ownsAt_nil _ _ _ _), hid (Ext.refl _)⟩
  case round =>
    obtain ⟨k, hk2, hk, rfl, HO, HX⟩ := hrel
    obtain ⟨A, ca, rfl, _, _⟩ := HO.out.shape
    by_cases hlt : k < 256
    · have hk0 : (k : Int) ≤ 255 := by omega
      have hr := (Row.new w #[.bool t, .int .i64 b, .int .i64 tp, .int .i64 a, .int .i64 p, .int .i64 ty] 24).ext HX.out
      obtain ⟨h0, h1, h2, h3, h4, h5, h6⟩ := Row.six (c := ⟨t, b, tp, a, p, ty⟩) hr
      clear hr
      have hl := HN.out k
      go_wp2_with fail
      refine (cauth_ _ _ _ _ _ _ _ _ _).mono ?_; rintro e W1 ⟨he, hy⟩
      have HY := hid hy
      clear hy
      cases hA : authC ⟨t, b, tp, a, p, ty⟩ p' (k : Int) with
      | false =>
        rw [hA] at he
        subst he
        have HW := hid (kindsTo_no hA)
        clear hA
        go_wp2
        go_roundw
        case rel => exact ⟨k + 1, by omega, by omega, by go_num, by rw [HW.out]; exact hid (HO.out.ext HY.out), hid (HX.out.trans HY.out)⟩
        case measure => simp [intOf]; omega
      | true =>
        rw [hA] at he
        subst he
        have HW := hid (kindsTo_yes hk2 hA)
        clear hA
        go_wp2_with (at_builtin; refine wpList_plain rfl fun K hK => ?_; refine wp_app_row intF_len (by decide) intF_one Try.underlying34 info_intN _ _ rfl (w.heap.size + 1) (.slice A (kindsTo p' ⟨t, b, tp, a, p, ty⟩ k).length ca) (kindsTo p' ⟨t, b, tp, a, p, ty⟩ k).length (rowF intF (kindsTo p' ⟨t, b, tp, a, p, ty⟩ k)) rfl (HO.out.ext (HY.out.trans (Ext.alloc (Ext.refl _) _))) (some ⟨W1.heap.size, 0, none⟩) 1 1 [k] rfl rfl (rdF_row0 (f := intF) (z := k) (Row.new W1 #[.int .i64 (k : Int)] _)) (by unfold maxLen; omega) (by omega) (by have := HX.out.size; have := HY.out.size; simp at *; omega) ?_; intro v7 W7 hown hgrow hat; obtain ⟨A7, c7, rfl, _, _⟩ := hown.shape; refine hK _ _ ?_; clear hK K)
        have HO5 : Hid (ownsAt W7 (w.heap.size + 1) 3 1 (.slice A7 ((kindsTo p' ⟨t, b, tp, a, p, ty⟩ k).length + 1) c7) (kindsTo p' ⟨t, b, tp, a, p, ty⟩ (k + 1)).length (rowF intF (kindsTo p' ⟨t, b, tp, a, p, ty⟩ (k + 1)))) := hid (by
          rw [HW.out, rowF_append, List.length_append]
          exact hown)
        have HE5 : Hid (Ext (w.alloc (.cells #[.bool t, .int .i64 b, .int .i64 tp, .int .i64 a, .int .i64 p, .int .i64 ty] 24)) W7) := hid (Ext.only ((HX.out.trans HY.out).trans (Ext.alloc (Ext.refl _) _)) (grownOnly (S := fun i => w.heap.size + 1 ≤ i) hgrow (fun g e => (HO.out.lt g e).1)) (fun i hi => by simp; omega))
        clear hown hgrow hat
        go_roundw
        case rel => exact ⟨k + 1, by omega, by omega, by go_num, HO5, HE5⟩
        case measure => simp [intOf]; omega
    · obtain rfl : k = 256 := by omega
      go_wp2
      go_ret
      exact ⟨A, ca, rfl, HO, hid (((Ext.refl _).alloc _).trans HX.out)⟩

end Go.Proofs.Ytlapemeoffpmgaa
