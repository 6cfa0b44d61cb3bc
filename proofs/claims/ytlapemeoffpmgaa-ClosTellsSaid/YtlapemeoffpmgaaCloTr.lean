/- Layer 6: the document's Types. -/
import Derived.Test.YtlapemeoffpmgaaCloTy
import Derived.Test.YtlapemeoffpmgaaCloT
namespace Go.Proofs.Ytlapemeoffpmgaa
set_option linter.unusedSimpArgs false
set_option linter.unusedVariables false
open Go.RowKit

/-- The types below some number. -/
def tyTo (O : List Cap) (p : Int) (n : Nat) : List Nat := (List.range n).filter fun k => decide (2 ≤ k) && O.any fun d => authC d p k
theorem tyTo_two (O : List Cap) (p : Int) : tyTo O p 2 = [] := by simp [tyTo, List.range_succ]
theorem ov_any {O : List Cap} {p : Int} {n : Nat} (h2 : 2 ≤ n) (h3 : n ≤ 255) : O.any (ovC p (n : Int)) = O.any fun d => authC d p n := by
  congr 1
  funext d
  rw [ovC, decide_eq_true (show (2 : Int) ≤ (n : Int) by omega), decide_eq_true (show (n : Int) ≤ 255 by omega)]
  rfl
theorem tyTo_yes {O : List Cap} {p : Int} {n : Nat} (h2 : 2 ≤ n) (h3 : n ≤ 255) (h : O.any (ovC p (n : Int)) = true) : tyTo O p (n + 1) = tyTo O p n ++ [n] := by
  rw [ov_any h2 h3] at h
  unfold tyTo
  rw [List.range_succ, List.filter_append]
  congr 1
  rw [List.filter_cons_of_pos (by rw [decide_eq_true h2, h]; rfl), List.filter_nil]
theorem tyTo_no {O : List Cap} {p : Int} {n : Nat} (h2 : 2 ≤ n) (h3 : n ≤ 255) (h : O.any (ovC p (n : Int)) = false) : tyTo O p (n + 1) = tyTo O p n := by
  rw [ov_any h2 h3] at h
  unfold tyTo
  rw [List.range_succ, List.filter_append, List.filter_cons_of_neg (by rw [h, Bool.and_false]; decide), List.filter_nil, List.append_nil]
theorem tyTo_len (O : List Cap) (p : Int) (n : Nat) : (tyTo O p n).length ≤ n := by
  have := List.length_filter_le (fun k : Nat => decide (2 ≤ k) && O.any fun d => authC d p k) (List.range n)
  rwa [List.length_range] at this
theorem tyN_none {O : List Cap} {p : Int} (h : rightB p = false) : tyN O p = [] := by
  unfold tyN
  rw [List.filter_eq_nil_iff]
  intro k _ hk
  simp only [Bool.and_eq_true, List.any_eq_true] at hk
  obtain ⟨_, d, _, hd⟩ := hk
  simp [authC, hasB, h] at hd
set_option maxRecDepth 100000 in
set_option maxHeartbeats 4000000 in
theorem rtypes_ (s : Nat) (A : Option Addr) (cg : Nat) (G : List Cap) (B : Option Addr) (co : Nat) (O : List Cap) (p : Int) (w : World) (h : ClS w s A cg G B co O) (ho : O.length ≤ 100000) : Calls Try.prog 20 #[.pointer (some ⟨s, 0, none⟩), .int .i64 p] w fun e w' => ∃ A' c' m, e = .returned (.slice A' m c') ∧ (tyN O p).length = m ∧ Hid (RdF intF w' A' (tyN O p)) ∧ Hid (Ext w w') := by
  have HB := hid h
  have HN := hid (tyTo_len O p)
  clear h
  cases hr : rightB p with
  | false =>
    have HV := hid (tyN_none (O := O) hr)
    go_enter Try.func20, Try.ntmps20
    go_wp2
    go_loopw [5, 6] (fun v i wr => v = .slice none 0 0 ∧ i = .int .i64 2 ∧ w = wr) (fun _ i _ => 0)
    case atStart => exact ⟨rfl, rfl, rfl⟩
    case round =>
      obtain ⟨rfl, rfl, rfl⟩ := hrel
      go_wp2_with fail
      refine (rright _ _).mono ?_; rintro e W0 ⟨he, rfl⟩
      rw [hr] at he
      subst he
      go_wp2
      go_ret
      exact ⟨none, ⟨0, 0, rfl, by rw [HV.out]; rfl, hid (by rw [HV.out]; exact RdF.nil _ _), hid (Ext.refl _)⟩⟩
  | true =>
    go_enter Try.func20, Try.ntmps20
    go_wp2
    go_loopw [5, 6] (fun v i wr => ∃ k : Nat, 2 ≤ k ∧ k ≤ 256 ∧ i = .int .i64 k ∧ Hid (ownsAt wr w.heap.size 3 1 v (tyTo O p k).length (rowF intF (tyTo O p k))) ∧ Hid (Ext w wr)) (fun _ i _ => 256 - (intOf i).toNat)
    case atStart => exact ⟨2, Nat.le_refl _, by decide, rfl, hid (by rw [tyTo_two]; exact ownsAt_nil _ _ _ _), hid (Ext.refl _)⟩
    case round =>
      obtain ⟨k, hk2, hk, rfl, HO, HX⟩ := hrel
      obtain ⟨A, ca, rfl, _, _⟩ := HO.out.shape
      by_cases hlt : k < 256
      · have hk0 : (k : Int) ≤ 255 := by omega
        have hl := HN.out k
        have k1 := (HB.out.ext HX.out).c1
        have hs := (HB.out.ext HX.out).lt
        have HU : Hid (∀ W, Ext wr W → Calls Try.prog 27 #[.slice B O.length co, .int .i64 (k : Int), .int .i64 p] W fun e w' => e = .returned (.bool (O.any (ovC p (k : Int)))) ∧ Ext W w') := hid (fun W hx => rcover_ B _ co O (k : Int) p W ((HB.out.ext (HX.out.trans hx)).r1) rfl (by omega))
        go_wp2_with fail
        refine (rright _ _).mono ?_; rintro e W0 ⟨he, rfl⟩
        rw [hr] at he
        subst he
        go_wp2_with fail
        refine (HU.out _ (by repeat (first | (with_reducible exact Ext.refl _) | (with_reducible refine Ext.undrew ?_) | (with_reducible refine Ext.grow ?_ _) | (with_reducible refine Ext.drew ?_) | (with_reducible refine Ext.drewN ?_ _) | (with_reducible refine Ext.alloc ?_ _) | (with_reducible assumption) | ((with_reducible refine Ext.setCell ?_ ?_ _); rotate_left; (first | exact Nat.le_refl _ | ((try dsimp only); (try simp only [World.size_alloc, grow_size, World.size_setCell]); omega)))))).mono ?_; rintro e W1 ⟨he, hy⟩
        have HY := hid hy
        clear hy
        cases hA : O.any (ovC p (k : Int)) with
        | false =>
          rw [hA] at he
          subst he
          have HW := hid (tyTo_no hk2 (by omega) hA)
          clear hA
          go_wp2
          go_roundw
          case rel => exact ⟨k + 1, by omega, by omega, by go_num, by rw [HW.out]; exact hid (HO.out.ext HY.out), hid (HX.out.trans HY.out)⟩
          case measure => simp [intOf]; omega
        | true =>
          rw [hA] at he
          subst he
          have HW := hid (tyTo_yes hk2 (by omega) hA)
          clear hA
          go_wp2_with (at_builtin; refine wpList_plain rfl fun K hK => ?_; refine wp_app_row intF_len (by decide) intF_one Try.underlying34 info_intN _ _ rfl w.heap.size (.slice A (tyTo O p k).length ca) (tyTo O p k).length (rowF intF (tyTo O p k)) rfl (HO.out.ext (HY.out.trans (Ext.alloc (Ext.refl _) _))) (some ⟨W1.heap.size, 0, none⟩) 1 1 [k] rfl rfl (rdF_row0 (f := intF) (z := k) (Row.new W1 #[.int .i64 (k : Int)] _)) (by unfold maxLen; omega) (by omega) (by have := HX.out.size; have := HY.out.size; simp at *; omega) ?_; intro v7 W7 hown hgrow hat; obtain ⟨A7, c7, rfl, _, _⟩ := hown.shape; refine hK _ _ ?_; clear hK K)
          have HO5 : Hid (ownsAt W7 w.heap.size 3 1 (.slice A7 ((tyTo O p k).length + 1) c7) (tyTo O p (k + 1)).length (rowF intF (tyTo O p (k + 1)))) := hid (by
            rw [HW.out, rowF_append, List.length_append]
            exact hown)
          have HE5 : Hid (Ext w W7) := hid (Ext.only ((HX.out.trans HY.out).trans (Ext.alloc (Ext.refl _) _)) (grownOnly (S := fun i => w.heap.size ≤ i) hgrow (fun g e => (HO.out.lt g e).1)) (fun i hi => hi))
          clear hown hgrow hat
          go_roundw
          case rel => exact ⟨k + 1, by omega, by omega, by go_num, HO5, HE5⟩
          case measure => simp [intOf]; omega
      · obtain rfl : k = 256 := by omega
        go_wp2
        go_ret
        exact ⟨A, ⟨ca, _, rfl, rfl, hid (HO.out.rdF rfl), HX⟩⟩
set_option maxRecDepth 100000 in
set_option maxHeartbeats 4000000 in
theorem csameints_ (A C : Option Addr) (n ca cc : Nat) (l : List Nat) (w : World) (hA : RdF intF w A l) (hC : RdF intF w C l) (hn : l.length = n) (hb : n ≤ 16777216) : Calls Try.prog 18 #[.slice A n ca, .slice C n cc] w fun e w' => e = .returned (.bool true) ∧ Ext w w' := by
  have HA := hid hA
  have HC := hid hC
  have HL := hid hn
  clear hA hC hn
  go_enter Try.func18, Try.ntmps18
  go_wp2
  go_loopw [5] (fun i wr => ∃ k : Nat, k ≤ n ∧ i = .int .i64 k ∧ Hid (Ext w wr)) (fun i _ => n - (intOf i).toNat)
  case atStart => exact ⟨0, Nat.zero_le _, rfl, hid (Ext.refl _)⟩
  case round =>
    obtain ⟨k, hk, rfl, HX⟩ := hrel
    by_cases hlt : k < n
    · have hk1 : (k : Int) < (n : Int) := by omega
      have hk0 : (0 : Int) ≤ (k : Int) := by omega
      obtain ⟨z, hz⟩ : ∃ z, l[k]'(by rw [HL.out]; exact hlt) = z := ⟨_, rfl⟩
      obtain ⟨b', o', rfl, hb1, c0⟩ := (HA.out.ext HX.out).elem intF_len (by rw [HL.out]; exact hlt) z hz
      obtain ⟨b2, o2, rfl, hb2, e0⟩ := (HC.out.ext HX.out).elem intF_len (by rw [HL.out]; exact hlt) z hz
      have c1 := c0 0 _ rfl
      have e1 := e0 0 _ rfl
      rw [Nat.mul_one, Nat.add_zero] at c1 e1
      clear hz c0 e0
      go_upto_region 6 with fail
      refine wp_region_grow (by kernel_rfl) (by kernel_rfl) (by first | (simp only [List.append]; rfl) | rfl) ?_
      (repeat (go_big_quiet_step (fail)))
      refine wpQuiet_nil ?_
      intro wq hq
      obtain ⟨dq, rfl⟩ := hq
      go_wp2
      go_roundw
      case rel => exact ⟨k + 1, by omega, by go_num, hid (HX.out.trans (by repeat (first | (with_reducible exact Ext.refl _) | (with_reducible refine Ext.undrew ?_) | (with_reducible refine Ext.grow ?_ _) | (with_reducible refine Ext.drew ?_) | (with_reducible refine Ext.drewN ?_ _) | (with_reducible refine Ext.alloc ?_ _) | (with_reducible assumption) | ((with_reducible refine Ext.setCell ?_ ?_ _); rotate_left; (first | exact Nat.le_refl _ | ((try dsimp only); (try simp only [World.size_alloc, grow_size, World.size_setCell]); omega))))))⟩
      case measure => simp [intOf]; omega
    · obtain rfl : k = n := by omega
      have hk1 : ¬ (k : Int) < (k : Int) := by omega
      go_wp2
      go_ret
      exact ⟨rfl, HX.out⟩

end Go.Proofs.Ytlapemeoffpmgaa
