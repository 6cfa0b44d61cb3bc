/- Layer 19: the document's Push. -/
import Derived.Test.YtfpfmjcajdknoaaFraR
import Derived.Test.YtfpfmjcajdknoaaStepO
namespace Go.Proofs.Ytfpfmjcajdknoaa
set_option linter.unusedSimpArgs false
set_option linter.unusedVariables false
open Go.RowKit

open Go.Deep Go.RowKit
/-- So far right. -/
def preR (n : Nat) (F : Nat → Cap) (k : Nat) : Bool := rightC (F 0) && decide (n < 16) && (List.range k).all fun j => rightC (F (j + 1))
theorem preR_succ (n : Nat) (F : Nat → Cap) (k : Nat) : preR n F (k + 1) = (preR n F k && rightC (F (k + 1))) := by simp [preR, List.range_succ, Bool.and_assoc]
theorem preR_four (n : Nat) (F : Nat → Cap) : preR n F 4 = (allR 5 F && decide (n < 16)) := by
  rw [Bool.eq_iff_iff]
  simp only [preR, allR, Bool.and_eq_true, List.all_eq_true, List.mem_range, decide_eq_true_eq]
  constructor
  · rintro ⟨⟨h0, h1⟩, h2⟩
    refine ⟨fun k hk => ?_, h1⟩
    rcases k with _ | k
    · exact h0
    · exact h2 k (by omega)
  · rintro ⟨h0, h1⟩
    exact ⟨⟨h0 0 (by omega), h1⟩, fun j hj => h0 (j + 1) (by omega)⟩
theorem Row.capOf {w : World} {b n : Nat} {F : Nat → Cap} (h : Row w b 0 (capsList n F)) {i : Nat} (hi : i < n) : Rng w b (i * 6) (F i).cells := ⟨h.lt, fun j v hj => by
  have hlt := (List.getElem?_eq_some_iff.1 hj).1
  rw [cells_length] at hlt
  have := h.at_ (i * 6 + j) v (by rw [capsList_at n F i j hi hlt]; exact hj)
  rwa [Nat.zero_add] at this⟩
set_option maxRecDepth 100000 in
set_option maxHeartbeats 4000000 in
theorem rpush_no (q base n : Nat) (v : Value) (L F : Nat → Cap) (w : World) (h : RStk w q base v n L) (hfine : (allR 5 F && decide (n < 16)) = false) :
    Calls Try.prog 16 #[.pointer (some ⟨q, 0, none⟩), .agg #[.bool (F 0).tag, .int .i64 (F 0).base, .int .i64 (F 0).top, .int .i64 (F 0).at_, .int .i64 (F 0).perms, .int .i64 (F 0).type, .bool (F 1).tag, .int .i64 (F 1).base, .int .i64 (F 1).top, .int .i64 (F 1).at_, .int .i64 (F 1).perms, .int .i64 (F 1).type, .bool (F 2).tag, .int .i64 (F 2).base, .int .i64 (F 2).top, .int .i64 (F 2).at_, .int .i64 (F 2).perms, .int .i64 (F 2).type, .bool (F 3).tag, .int .i64 (F 3).base, .int .i64 (F 3).top, .int .i64 (F 3).at_, .int .i64 (F 3).perms, .int .i64 (F 3).type, .bool (F 4).tag, .int .i64 (F 4).base, .int .i64 (F 4).top, .int .i64 (F 4).at_, .int .i64 (F 4).perms, .int .i64 (F 4).type]] w fun e w' => e = .returned (.bool false) ∧ Ext w w' := by
  have hq := h.1
  have HS := hid h
  obtain ⟨A, cap, hv, _, _⟩ := h.slice
  have hc := h.2.1
  rw [hv] at hc
  clear h hv
  obtain ⟨bf, hbf⟩ : ∃ x, w.heap.size = x := ⟨_, rfl⟩
  go_enter Try.func16, Try.ntmps16
  go_upto_region 1 with (fail)
  refine wp_gen (fun W => Hid (Ext w W) ∧ Hid (Row W w.heap.size 0 (capsList 5 F))) ⟨hid (by repeat (first | (with_reducible exact Ext.refl _) | (with_reducible refine Ext.undrew ?_) | (with_reducible refine Ext.grow ?_ _) | (with_reducible refine Ext.drew ?_) | (with_reducible refine Ext.drewN ?_ _) | (with_reducible refine Ext.alloc ?_ _) | (with_reducible assumption) | ((with_reducible refine Ext.setCell ?_ ?_ _); rotate_left; (first | exact Nat.le_refl _ | ((try dsimp only); (try simp only [World.size_alloc, grow_size, World.size_setCell]); omega))))), hid (Row.new w _ _)⟩ ?_
  rintro W0 ⟨hE0, hR0⟩
  rw [hbf] at hR0
  have hB0 := hid (Row.capOf hR0.out (show 0 < 5 by omega))
  have hc0 := (hE0.out.cells q 0 hq).trans hc
  have hq0 : q < W0.heap.size := Nat.lt_of_lt_of_le hq hE0.out.size
  clear hc
  have hstart : ∃ W1 : World, True := ⟨W0, trivial⟩
  clear hstart
  cases h0 : rightC (F 0) with
  | false =>
    have hp0 : preR n F 0 = false := by simp [preR, h0]
    go_upto_region 2 with (first | (with_reducible refine wpList_load_mid rfl 29 (.tmp 7) rfl bf 0 rfl (F 0).cells _ (Rng.range hB0.out) Try.underlying29 rfl (by kernel_rfl) ?_) | (go_at_call 22; refine (rcapRight (F 0).tag (F 0).base (F 0).top (F 0).at_ (F 0).perms (F 0).type _).mono ?_; rintro e w1 ⟨rfl, hy⟩))
    have hE1 := hid (hE0.out.trans hy)
    have hR1 := hid (hR0.out.ext hy)
    clear hE0 hR0 hB0 hy hc0 hq0 h0
    generalize hW1 : w1 = W1 at hE1 hR1 ⊢
    clear hW1
    go_wp2
    go_loopw [5, 6] (fun t i wr => ∃ k : Nat, k ≤ 4 ∧ i = .int .i64 k ∧ t = .bool (preR n F k) ∧ Hid (Ext w wr) ∧ Hid (Row wr bf 0 (capsList 5 F))) (fun _ i _ => 4 - (intOf i).toNat)
    case atStart => exact ⟨0, Nat.zero_le _, rfl, by first | (rw [hp0]; done) | (rw [hp0]; congr 1; simp; omega), hE1, hR1⟩
    case round =>
      clear hp0 hE1 hR1
      obtain ⟨k, hk, rfl, rfl, HE, HR⟩ := hrel
      by_cases hlt : k < 4
      · have hk1 : (k : Int) < 4 := by omega
        have hk3 : (0 : Int) ≤ (k : Int) := by omega
        have hBk := hid (by have := Row.capOf HR.out (show k + 1 < 5 by omega); rwa [show (k + 1) * 6 = 6 + k * 6 by omega] at this)
        cases hp : preR n F k with
        | false =>
          have hp1 : preR n F (k + 1) = false := by rw [preR_succ, hp]; rfl
          go_wp2
          go_roundw
          case rel => exact ⟨k + 1, by omega, by go_num, by rw [hp1], HE, HR⟩
          case measure => simp [intOf]; omega
        | true =>
          have hp1 : preR n F (k + 1) = rightC (F (k + 1)) := by rw [preR_succ, hp]; rfl
          go_wp2_with (first | (with_reducible refine wpList_load_midG rfl 29 (.tmp 26) rfl bf (6 + k * 6) rfl (F (k + 1)).cells _ (Rng.range hBk.out) Try.underlying29 rfl (by kernel_rfl) ?_) | (go_at_call 22; refine (rcapRight (F (k + 1)).tag (F (k + 1)).base (F (k + 1)).top (F (k + 1)).at_ (F (k + 1)).perms (F (k + 1)).type _).mono ?_; rintro e w1 ⟨rfl, hy⟩))
          go_roundw
          case rel => exact ⟨k + 1, by omega, by go_num, by rw [hp1], hid (HE.out.trans hy), hid (HR.out.ext hy)⟩
          case measure => simp [intOf]; omega
      · obtain rfl : k = 4 := by omega
        rw [preR_four]
        rw [hfine]
        go_wp2
        go_ret
        exact ⟨rfl, HE.out⟩
  | true =>
    by_cases hn16 : n < 16
    · have hp0 : preR n F 0 = true := by simp [preR, h0, hn16]
      have hn17 : (n : Int) < 16 := by omega
      have hxx : ∀ w1, Ext W0 w1 → q < w1.heap.size ∧ w1.cell? ⟨q, 0, none⟩ = some (.slice A n cap) := fun w1 hy => ⟨Nat.lt_of_lt_of_le hq0 hy.size, (hy.cells q 0 hq0).trans hc0⟩
      go_upto_region 2 with (first | (with_reducible refine wpList_load_mid rfl 29 (.tmp 7) rfl bf 0 rfl (F 0).cells _ (Rng.range hB0.out) Try.underlying29 rfl (by kernel_rfl) ?_) | (go_at_call 22; refine (rcapRight (F 0).tag (F 0).base (F 0).top (F 0).at_ (F 0).perms (F 0).type _).mono ?_; rintro e w1 ⟨rfl, hy⟩; obtain ⟨hq1, hc1⟩ := hxx _ hy))
      have hE1 := hid (hE0.out.trans hy)
      have hR1 := hid (hR0.out.ext hy)
      clear hE0 hR0 hB0 hy hc0 hq0 h0 hc1 hq1 hxx
      generalize hW1 : w1 = W1 at hE1 hR1 ⊢
      clear hW1
      go_wp2
      go_loopw [5, 6] (fun t i wr => ∃ k : Nat, k ≤ 4 ∧ i = .int .i64 k ∧ t = .bool (preR n F k) ∧ Hid (Ext w wr) ∧ Hid (Row wr bf 0 (capsList 5 F))) (fun _ i _ => 4 - (intOf i).toNat)
      case atStart => exact ⟨0, Nat.zero_le _, rfl, by first | (rw [hp0]; done) | (rw [hp0]; congr 1; simp; omega), hE1, hR1⟩
      case round =>
        clear hp0 hE1 hR1
        obtain ⟨k, hk, rfl, rfl, HE, HR⟩ := hrel
        by_cases hlt : k < 4
        · have hk1 : (k : Int) < 4 := by omega
          have hk3 : (0 : Int) ≤ (k : Int) := by omega
          have hBk := hid (by have := Row.capOf HR.out (show k + 1 < 5 by omega); rwa [show (k + 1) * 6 = 6 + k * 6 by omega] at this)
          cases hp : preR n F k with
          | false =>
            have hp1 : preR n F (k + 1) = false := by rw [preR_succ, hp]; rfl
            go_wp2
            go_roundw
            case rel => exact ⟨k + 1, by omega, by go_num, by rw [hp1], HE, HR⟩
            case measure => simp [intOf]; omega
          | true =>
            have hp1 : preR n F (k + 1) = rightC (F (k + 1)) := by rw [preR_succ, hp]; rfl
            go_wp2_with (first | (with_reducible refine wpList_load_midG rfl 29 (.tmp 26) rfl bf (6 + k * 6) rfl (F (k + 1)).cells _ (Rng.range hBk.out) Try.underlying29 rfl (by kernel_rfl) ?_) | (go_at_call 22; refine (rcapRight (F (k + 1)).tag (F (k + 1)).base (F (k + 1)).top (F (k + 1)).at_ (F (k + 1)).perms (F (k + 1)).type _).mono ?_; rintro e w1 ⟨rfl, hy⟩))
            go_roundw
            case rel => exact ⟨k + 1, by omega, by go_num, by rw [hp1], hid (HE.out.trans hy), hid (HR.out.ext hy)⟩
            case measure => simp [intOf]; omega
        · obtain rfl : k = 4 := by omega
          rw [preR_four]
          rw [hfine]
          go_wp2
          go_ret
          exact ⟨rfl, HE.out⟩
    · have hp0 : preR n F 0 = false := by simp [preR, h0, hn16]
      have hn17 : ¬ (n : Int) < 16 := by omega
      have hxx : ∀ w1, Ext W0 w1 → q < w1.heap.size ∧ w1.cell? ⟨q, 0, none⟩ = some (.slice A n cap) := fun w1 hy => ⟨Nat.lt_of_lt_of_le hq0 hy.size, (hy.cells q 0 hq0).trans hc0⟩
      go_upto_region 2 with (first | (with_reducible refine wpList_load_mid rfl 29 (.tmp 7) rfl bf 0 rfl (F 0).cells _ (Rng.range hB0.out) Try.underlying29 rfl (by kernel_rfl) ?_) | (go_at_call 22; refine (rcapRight (F 0).tag (F 0).base (F 0).top (F 0).at_ (F 0).perms (F 0).type _).mono ?_; rintro e w1 ⟨rfl, hy⟩; obtain ⟨hq1, hc1⟩ := hxx _ hy))
      have hE1 := hid (hE0.out.trans hy)
      have hR1 := hid (hR0.out.ext hy)
      clear hE0 hR0 hB0 hy hc0 hq0 h0 hc1 hq1 hxx
      generalize hW1 : w1 = W1 at hE1 hR1 ⊢
      clear hW1
      go_wp2
      go_loopw [5, 6] (fun t i wr => ∃ k : Nat, k ≤ 4 ∧ i = .int .i64 k ∧ t = .bool (preR n F k) ∧ Hid (Ext w wr) ∧ Hid (Row wr bf 0 (capsList 5 F))) (fun _ i _ => 4 - (intOf i).toNat)
      case atStart => exact ⟨0, Nat.zero_le _, rfl, by first | (rw [hp0]; done) | (rw [hp0]; congr 1; simp; omega), hE1, hR1⟩
      case round =>
        clear hp0 hE1 hR1
        obtain ⟨k, hk, rfl, rfl, HE, HR⟩ := hrel
        by_cases hlt : k < 4
        · have hk1 : (k : Int) < 4 := by omega
          have hk3 : (0 : Int) ≤ (k : Int) := by omega
          have hBk := hid (by have := Row.capOf HR.out (show k + 1 < 5 by omega); rwa [show (k + 1) * 6 = 6 + k * 6 by omega] at this)
          cases hp : preR n F k with
          | false =>
            have hp1 : preR n F (k + 1) = false := by rw [preR_succ, hp]; rfl
            go_wp2
            go_roundw
            case rel => exact ⟨k + 1, by omega, by go_num, by rw [hp1], HE, HR⟩
            case measure => simp [intOf]; omega
          | true => exact absurd hp (by simp [preR, hn16])
        · obtain rfl : k = 4 := by omega
          rw [preR_four]
          rw [hfine]
          go_wp2
          go_ret
          exact ⟨rfl, HE.out⟩
set_option maxRecDepth 100000 in
set_option maxHeartbeats 4000000 in
theorem rpush_ (q base n : Nat) (v : Value) (L F : Nat → Cap) (w : World) (h : RStk w q base v n L) (hn0 : n < 16) (hrt : allR 5 F = true) :
    Calls Try.prog 16 #[.pointer (some ⟨q, 0, none⟩), .agg #[.bool (F 0).tag, .int .i64 (F 0).base, .int .i64 (F 0).top, .int .i64 (F 0).at_, .int .i64 (F 0).perms, .int .i64 (F 0).type, .bool (F 1).tag, .int .i64 (F 1).base, .int .i64 (F 1).top, .int .i64 (F 1).at_, .int .i64 (F 1).perms, .int .i64 (F 1).type, .bool (F 2).tag, .int .i64 (F 2).base, .int .i64 (F 2).top, .int .i64 (F 2).at_, .int .i64 (F 2).perms, .int .i64 (F 2).type, .bool (F 3).tag, .int .i64 (F 3).base, .int .i64 (F 3).top, .int .i64 (F 3).at_, .int .i64 (F 3).perms, .int .i64 (F 3).type, .bool (F 4).tag, .int .i64 (F 4).base, .int .i64 (F 4).top, .int .i64 (F 4).at_, .int .i64 (F 4).perms, .int .i64 (F 4).type]] w fun e w' => ∃ v', e = .returned (.bool true) ∧ RStk w' q base v' (n + 1) (appL L n F) ∧ Only (tch q v) w w' ∧ (∀ g, v'.ownBlock = some g → v.ownBlock = some g ∨ w.heap.size ≤ g) := by
  have hfine : (allR 5 F && decide (n < 16)) = true := by simp [hrt, hn0]
  have hq := h.1
  have HS := hid h
  obtain ⟨A, cap, hv, _, _⟩ := h.slice
  have hc := h.2.1
  rw [hv] at hc
  clear h hv
  obtain ⟨bf, hbf⟩ : ∃ x, w.heap.size = x := ⟨_, rfl⟩
  go_enter Try.func16, Try.ntmps16
  go_upto_region 1 with (fail)
  refine wp_gen (fun W => Hid (Ext w W) ∧ Hid (Row W w.heap.size 0 (capsList 5 F))) ⟨hid (by repeat (first | (with_reducible exact Ext.refl _) | (with_reducible refine Ext.undrew ?_) | (with_reducible refine Ext.grow ?_ _) | (with_reducible refine Ext.drew ?_) | (with_reducible refine Ext.drewN ?_ _) | (with_reducible refine Ext.alloc ?_ _) | (with_reducible assumption) | ((with_reducible refine Ext.setCell ?_ ?_ _); rotate_left; (first | exact Nat.le_refl _ | ((try dsimp only); (try simp only [World.size_alloc, grow_size, World.size_setCell]); omega))))), hid (Row.new w _ _)⟩ ?_
  rintro W0 ⟨hE0, hR0⟩
  rw [hbf] at hR0
  have hB0 := hid (Row.capOf hR0.out (show 0 < 5 by omega))
  have hc0 := (hE0.out.cells q 0 hq).trans hc
  have hq0 : q < W0.heap.size := Nat.lt_of_lt_of_le hq hE0.out.size
  clear hc
  have hstart : ∃ W1 : World, True := ⟨W0, trivial⟩
  clear hstart
  cases h0 : rightC (F 0) with
  | false =>
    have hp0 : preR n F 0 = false := by simp [preR, h0]
    go_upto_region 2 with (first | (with_reducible refine wpList_load_mid rfl 29 (.tmp 7) rfl bf 0 rfl (F 0).cells _ (Rng.range hB0.out) Try.underlying29 rfl (by kernel_rfl) ?_) | (go_at_call 22; refine (rcapRight (F 0).tag (F 0).base (F 0).top (F 0).at_ (F 0).perms (F 0).type _).mono ?_; rintro e w1 ⟨rfl, hy⟩))
    have hE1 := hid (hE0.out.trans hy)
    have hR1 := hid (hR0.out.ext hy)
    clear hE0 hR0 hB0 hy hc0 hq0 h0
    generalize hW1 : w1 = W1 at hE1 hR1 ⊢
    clear hW1
    go_wp2
    go_loopw [5, 6] (fun t i wr => ∃ k : Nat, k ≤ 4 ∧ i = .int .i64 k ∧ t = .bool (preR n F k) ∧ Hid (Ext w wr) ∧ Hid (Row wr bf 0 (capsList 5 F))) (fun _ i _ => 4 - (intOf i).toNat)
    case atStart => exact ⟨0, Nat.zero_le _, rfl, by first | (rw [hp0]; done) | (rw [hp0]; congr 1; simp; omega), hE1, hR1⟩
    case round =>
      clear hp0 hE1 hR1
      obtain ⟨k, hk, rfl, rfl, HE, HR⟩ := hrel
      by_cases hlt : k < 4
      · have hk1 : (k : Int) < 4 := by omega
        have hk3 : (0 : Int) ≤ (k : Int) := by omega
        have hBk := hid (by have := Row.capOf HR.out (show k + 1 < 5 by omega); rwa [show (k + 1) * 6 = 6 + k * 6 by omega] at this)
        cases hp : preR n F k with
        | false =>
          have hp1 : preR n F (k + 1) = false := by rw [preR_succ, hp]; rfl
          go_wp2
          go_roundw
          case rel => exact ⟨k + 1, by omega, by go_num, by rw [hp1], HE, HR⟩
          case measure => simp [intOf]; omega
        | true =>
          have hp1 : preR n F (k + 1) = rightC (F (k + 1)) := by rw [preR_succ, hp]; rfl
          go_wp2_with (first | (with_reducible refine wpList_load_midG rfl 29 (.tmp 26) rfl bf (6 + k * 6) rfl (F (k + 1)).cells _ (Rng.range hBk.out) Try.underlying29 rfl (by kernel_rfl) ?_) | (go_at_call 22; refine (rcapRight (F (k + 1)).tag (F (k + 1)).base (F (k + 1)).top (F (k + 1)).at_ (F (k + 1)).perms (F (k + 1)).type _).mono ?_; rintro e w1 ⟨rfl, hy⟩))
          go_roundw
          case rel => exact ⟨k + 1, by omega, by go_num, by rw [hp1], hid (HE.out.trans hy), hid (HR.out.ext hy)⟩
          case measure => simp [intOf]; omega
      · obtain rfl : k = 4 := by omega
        rw [preR_four]
        rw [hfine]
        have hn : n < 16 := hn0
        go_upto_region 7 with (fail)
        have hE3 := HE
        have hR3 := HR
        clear HE HR hlt hk
        generalize wr = W3 at hE3 hR3 ⊢
        generalize bf = b at hbf hR3 ⊢
        have hwb : q < b := by omega
        have hSb : ¬ tch q v b := by
          rintro (h | h)
          · omega
          · have := (HS.out.2.2.2.1.lt _ h).2
            omega
        have hH3 := hid (RStk.ext HS.out hE3.out)
        refine wp_region_only (S := tch q v) (.rd 0 (.rd 1 (.rd 2 (.rd 3 (.rd 5 (.br 4 (.ac 6 (.ac 7 (.rd 8 (.rd 9 (.ac 10 .done))))) 6 (.ac 4 (.ac 7 (.rd 8 (.rd 9 (.ac 10 .done))))))))))) (by kernel_rfl) (by kernel_rfl) (fun _ _ d _ _ h => by cases d <;> exact h) (by simp only [Ord.map, nthOp, List.append]; rfl) ?_
        intro d1
        have hR5 := hid (hR3.out.ext (Ext.grow (Ext.refl W3) d1))
        have hH4 := hid (RStk.ext hH3.out (Ext.grow (Ext.refl W3) d1))
        have hxW4 : Hid (Ext W3 (Go.Proofs.Ytfpfmjcajdknoaa.grow W3 d1)) := hid (Ext.grow (Ext.refl W3) d1)
        generalize Go.Proofs.Ytfpfmjcajdknoaa.grow W3 d1 = W4 at hR5 hH4 hxW4 ⊢
        have hc4 := hH4.out.2.1
        have hf4 := hH4.out.2.2.1
        have hq3 : q < W4.heap.size := hH4.out.1
        have hbq : base ≤ q := hH4.out.2.2.2.2.1
        clear hR3
        obtain ⟨i0, z0, hi0, hz0, hz1, hz2, hz3⟩ := frame_info2
        repeat' (first | (refine only_read (by rfl) (fun K hK => ?_); (refine quiet_loadC 32 (.tmp 3) rfl b 0 rfl (capsList 5 F) _ (fun w' hw' => (hR5.out.only hw' hSb).range) Try.underlying32 rfl (by rw [capsList_length]; kernel_rfl) ?_); refine hK _ ?_; clear hK K; simp only [Act.put, List.setIfInBounds_toArray, List.set_cons_zero, List.set_cons_succ]) | (refine only_read (by rfl) (fun K hK => ?_); go_big_quiet_op; refine hK _ ?_; clear hK K) | (refine only_read (by rfl) (fun K hK => ?_); refine quiet_run (.pointer (some ⟨q, 0, none⟩)) (fun w => by kernel_rfl) ?_; refine hK _ ?_; clear hK K; simp only [Act.put, List.setIfInBounds_toArray, List.set_cons_zero, List.set_cons_succ]))
        refine only_br ?_ ?_
        · refine only_act (by rfl) (fun K hK => ?_)
          go_wp2_with fail
          refine ⟨_, Only.refl _ _, Only.refl _ _, ?_⟩
          refine only_act (by rfl) (fun K hK => ?_)
          refine wp_build1 44 32 (.tmp 36) rfl (capsList 5 F).toArray 30 rfl (by rw [capsArr_size]) (by omega) (by omega) Try.underlying44 (by kernel_rfl) (by kernel_rfl) ?_
          refine hK _ _ ⟨_, Only.refl _ _, Only.ofExt (Ext.alloc (Ext.refl _) _), ?_⟩
          refine only_gen (fun W => Hid (Ext W4 W) ∧ Hid (Row W W4.heap.size 0 (capsList 5 F))) ⟨hid (Ext.alloc (Ext.refl _) _), hid (Row.new W4 _ _)⟩ ?_
          clear hK K
          rintro w4 ⟨hE4, hR4⟩
          have hown4 := hid (ownsRow_ext hH4.out.2.2.2.1 hE4.out)
          have hb4 : base ≤ w4.heap.size := by have := hE4.out.size; omega
          have hq4 : q < w4.heap.size := by have := hE4.out.size; omega
          have hc5 := (hE4.out.cells q 0 hq3).trans hc4
          have hf5 := (hE4.out.frozens q 0 hq3).trans hf4
          have hS5 : Hid (Only (tch q v) W4 w4) := hid (Only.ofExt hE4.out)
          refine only_act (by rfl) (fun K hK => ?_)
          refine wp_append_lies _ (.tmp 35) (.tmp 37) 44 rfl base 32 i0 z0 30 240 Try.underlying44 hi0 hz0 hz2 hz3 hz1 (by omega) v n (capsList (n * 5) L) rfl hown4.out ⟨W4.heap.size, 0, none⟩ 1 1 (capsList 5 F) rfl (by rw [capsList_length]) (fun j u hj => by rw [Addr.add_lit]; exact hR4.out.range j u hj) (capsList_one 5 F) (by omega) (by unfold maxLen; omega) (by omega) hb4 _ rfl ?_
          intro g cap w6 hown6 hgrow hat hlt
          rw [appL_list] at hown6
          have hS6 : Hid (Only (tch q v) W4 w6) := hid (Only.trans' hS5.out (grownOnly hgrow fun g hg => .inr hg))
          have hgq : ¬ g = q := by
            rcases hat with h | h
            · exact HS.out.apart g h
            · omega
          have hnew : v.ownBlock = some g ∨ w.heap.size ≤ g := hat.imp_right fun h => by
            have h1 := hE3.out.size
            have h2 := hxW4.out.size
            have h3 := hE4.out.size
            omega
          have hqo : ∀ g', v.ownBlock = some g' → ¬ q = g' := fun g' h e => HS.out.apart g' h e.symm
          have hG6 : Only (fun i => v.ownBlock = some i) w4 w6 := grownOnly hgrow fun g hg => hg
          have hq6 : q < w6.heap.size := Nat.lt_of_lt_of_le hq4 hG6.size
          have hc6 := (hG6.cells q 0 hq4 (fun h => hqo q h rfl)).trans hc5
          have hf6 := (hG6.frozens q 0 hq4 (fun h => hqo q h rfl)).trans hf5
          have hown6 := hid hown6
          refine hK _ _ ⟨_, Only.refl _ _, hS6.out, ?_⟩
          clear hK K hgrow hG6 hS5 hown4 hR4 hE4 hc4 hf4 hc5 hf5 hat hqo
          repeat' (refine only_read (by rfl) (fun K hK => ?_); refine quiet_run (.pointer (some ⟨q, 0, none⟩)) (fun w => by kernel_rfl) ?_; refine hK _ ?_; clear hK K; simp only [Act.put, List.setIfInBounds_toArray, List.set_cons_zero, List.set_cons_succ])
          refine only_act (by rfl) (fun K hK => ?_)
          go_wp2_with fail
          refine ⟨_, Only.refl _ _, Only.setCell (S := tch q v) hS6.out (Or.inl (show tch q v q from Or.inl rfl)) _, ?_⟩
          refine only_nil ?_
          go_wp2
          go_ret
          refine ⟨_, rfl, ⟨by simpa [go_sem] using hq6, by simp [go_sem, hc6], by simp [go_sem, hf6], ownsRow_only (S := fun i => i = q) hown6.out (Only.setCell (S := fun i => i = q) (Only.refl _ _) (.inl rfl) _) (fun g' hg' => ?_), HS.out.2.2.2.2.1, fun g' hg' => ?_⟩, Only.trans' (Only.ofExt hE3.out) (Only.trans' (Only.ofExt hxW4.out) (Only.setCell (S := tch q v) hS6.out (Or.inl (show tch q v q from Or.inl rfl)) _)), fun g' hg' => ?_⟩
          · obtain rfl : g = g' := by simpa [Value.ownBlock] using hg'
            exact hgq
          · obtain rfl : g = g' := by simpa [Value.ownBlock] using hg'
            exact hgq
          · obtain rfl : g = g' := by simpa [Value.ownBlock] using hg'
            exact hnew
        
        · refine only_act (by rfl) (fun K hK => ?_)
          refine wp_build1 44 32 (.tmp 36) rfl (capsList 5 F).toArray 30 rfl (by rw [capsArr_size]) (by omega) (by omega) Try.underlying44 (by kernel_rfl) (by kernel_rfl) ?_
          refine hK _ _ ⟨_, Only.refl _ _, Only.ofExt (Ext.alloc (Ext.refl _) _), ?_⟩
          refine only_gen (fun W => Hid (Ext W4 W) ∧ Hid (Row W W4.heap.size 0 (capsList 5 F))) ⟨hid (Ext.alloc (Ext.refl _) _), hid (Row.new W4 _ _)⟩ ?_
          clear hK K
          rintro w4 ⟨hE4, hR4⟩
          have hown4 := hid (ownsRow_ext hH4.out.2.2.2.1 hE4.out)
          have hb4 : base ≤ w4.heap.size := by have := hE4.out.size; omega
          have hq4 : q < w4.heap.size := by have := hE4.out.size; omega
          have hc5 := (hE4.out.cells q 0 hq3).trans hc4
          have hf5 := (hE4.out.frozens q 0 hq3).trans hf4
          have hS5 : Hid (Only (tch q v) W4 w4) := hid (Only.ofExt hE4.out)
          refine only_act (by rfl) (fun K hK => ?_)
          go_wp2_with fail
          refine ⟨_, Only.refl _ _, hS5.out, ?_⟩
          refine only_act (by rfl) (fun K hK => ?_)
          refine wp_append_lies _ (.tmp 35) (.tmp 37) 44 rfl base 32 i0 z0 30 240 Try.underlying44 hi0 hz0 hz2 hz3 hz1 (by omega) v n (capsList (n * 5) L) rfl hown4.out ⟨W4.heap.size, 0, none⟩ 1 1 (capsList 5 F) rfl (by rw [capsList_length]) (fun j u hj => by rw [Addr.add_lit]; exact hR4.out.range j u hj) (capsList_one 5 F) (by omega) (by unfold maxLen; omega) (by omega) hb4 _ rfl ?_
          intro g cap w6 hown6 hgrow hat hlt
          rw [appL_list] at hown6
          have hS6 : Hid (Only (tch q v) W4 w6) := hid (Only.trans' hS5.out (grownOnly hgrow fun g hg => .inr hg))
          have hgq : ¬ g = q := by
            rcases hat with h | h
            · exact HS.out.apart g h
            · omega
          have hnew : v.ownBlock = some g ∨ w.heap.size ≤ g := hat.imp_right fun h => by
            have h1 := hE3.out.size
            have h2 := hxW4.out.size
            have h3 := hE4.out.size
            omega
          have hqo : ∀ g', v.ownBlock = some g' → ¬ q = g' := fun g' h e => HS.out.apart g' h e.symm
          have hG6 : Only (fun i => v.ownBlock = some i) w4 w6 := grownOnly hgrow fun g hg => hg
          have hq6 : q < w6.heap.size := Nat.lt_of_lt_of_le hq4 hG6.size
          have hc6 := (hG6.cells q 0 hq4 (fun h => hqo q h rfl)).trans hc5
          have hf6 := (hG6.frozens q 0 hq4 (fun h => hqo q h rfl)).trans hf5
          have hown6 := hid hown6
          refine hK _ _ ⟨_, Only.refl _ _, hS6.out, ?_⟩
          clear hK K hgrow hG6 hS5 hown4 hR4 hE4 hc4 hf4 hc5 hf5 hat hqo
          repeat' (refine only_read (by rfl) (fun K hK => ?_); refine quiet_run (.pointer (some ⟨q, 0, none⟩)) (fun w => by kernel_rfl) ?_; refine hK _ ?_; clear hK K; simp only [Act.put, List.setIfInBounds_toArray, List.set_cons_zero, List.set_cons_succ])
          refine only_act (by rfl) (fun K hK => ?_)
          go_wp2_with fail
          refine ⟨_, Only.refl _ _, Only.setCell (S := tch q v) hS6.out (Or.inl (show tch q v q from Or.inl rfl)) _, ?_⟩
          refine only_nil ?_
          go_wp2
          go_ret
          refine ⟨_, rfl, ⟨by simpa [go_sem] using hq6, by simp [go_sem, hc6], by simp [go_sem, hf6], ownsRow_only (S := fun i => i = q) hown6.out (Only.setCell (S := fun i => i = q) (Only.refl _ _) (.inl rfl) _) (fun g' hg' => ?_), HS.out.2.2.2.2.1, fun g' hg' => ?_⟩, Only.trans' (Only.ofExt hE3.out) (Only.trans' (Only.ofExt hxW4.out) (Only.setCell (S := tch q v) hS6.out (Or.inl (show tch q v q from Or.inl rfl)) _)), fun g' hg' => ?_⟩
          · obtain rfl : g = g' := by simpa [Value.ownBlock] using hg'
            exact hgq
          · obtain rfl : g = g' := by simpa [Value.ownBlock] using hg'
            exact hgq
          · obtain rfl : g = g' := by simpa [Value.ownBlock] using hg'
            exact hnew
  | true =>
    by_cases hn16 : n < 16
    · have hp0 : preR n F 0 = true := by simp [preR, h0, hn16]
      have hn17 : (n : Int) < 16 := by omega
      have hxx : ∀ w1, Ext W0 w1 → q < w1.heap.size ∧ w1.cell? ⟨q, 0, none⟩ = some (.slice A n cap) := fun w1 hy => ⟨Nat.lt_of_lt_of_le hq0 hy.size, (hy.cells q 0 hq0).trans hc0⟩
      go_upto_region 2 with (first | (with_reducible refine wpList_load_mid rfl 29 (.tmp 7) rfl bf 0 rfl (F 0).cells _ (Rng.range hB0.out) Try.underlying29 rfl (by kernel_rfl) ?_) | (go_at_call 22; refine (rcapRight (F 0).tag (F 0).base (F 0).top (F 0).at_ (F 0).perms (F 0).type _).mono ?_; rintro e w1 ⟨rfl, hy⟩; obtain ⟨hq1, hc1⟩ := hxx _ hy))
      have hE1 := hid (hE0.out.trans hy)
      have hR1 := hid (hR0.out.ext hy)
      clear hE0 hR0 hB0 hy hc0 hq0 h0 hc1 hq1 hxx
      generalize hW1 : w1 = W1 at hE1 hR1 ⊢
      clear hW1
      go_wp2
      go_loopw [5, 6] (fun t i wr => ∃ k : Nat, k ≤ 4 ∧ i = .int .i64 k ∧ t = .bool (preR n F k) ∧ Hid (Ext w wr) ∧ Hid (Row wr bf 0 (capsList 5 F))) (fun _ i _ => 4 - (intOf i).toNat)
      case atStart => exact ⟨0, Nat.zero_le _, rfl, by first | (rw [hp0]; done) | (rw [hp0]; congr 1; simp; omega), hE1, hR1⟩
      case round =>
        clear hp0 hE1 hR1
        obtain ⟨k, hk, rfl, rfl, HE, HR⟩ := hrel
        by_cases hlt : k < 4
        · have hk1 : (k : Int) < 4 := by omega
          have hk3 : (0 : Int) ≤ (k : Int) := by omega
          have hBk := hid (by have := Row.capOf HR.out (show k + 1 < 5 by omega); rwa [show (k + 1) * 6 = 6 + k * 6 by omega] at this)
          cases hp : preR n F k with
          | false =>
            have hp1 : preR n F (k + 1) = false := by rw [preR_succ, hp]; rfl
            go_wp2
            go_roundw
            case rel => exact ⟨k + 1, by omega, by go_num, by rw [hp1], HE, HR⟩
            case measure => simp [intOf]; omega
          | true =>
            have hp1 : preR n F (k + 1) = rightC (F (k + 1)) := by rw [preR_succ, hp]; rfl
            go_wp2_with (first | (with_reducible refine wpList_load_midG rfl 29 (.tmp 26) rfl bf (6 + k * 6) rfl (F (k + 1)).cells _ (Rng.range hBk.out) Try.underlying29 rfl (by kernel_rfl) ?_) | (go_at_call 22; refine (rcapRight (F (k + 1)).tag (F (k + 1)).base (F (k + 1)).top (F (k + 1)).at_ (F (k + 1)).perms (F (k + 1)).type _).mono ?_; rintro e w1 ⟨rfl, hy⟩))
            go_roundw
            case rel => exact ⟨k + 1, by omega, by go_num, by rw [hp1], hid (HE.out.trans hy), hid (HR.out.ext hy)⟩
            case measure => simp [intOf]; omega
        · obtain rfl : k = 4 := by omega
          rw [preR_four]
          rw [hfine]
          have hn : n < 16 := hn0
          go_upto_region 7 with (fail)
          have hE3 := HE
          have hR3 := HR
          clear HE HR hlt hk
          generalize wr = W3 at hE3 hR3 ⊢
          generalize bf = b at hbf hR3 ⊢
          have hwb : q < b := by omega
          have hSb : ¬ tch q v b := by
            rintro (h | h)
            · omega
            · have := (HS.out.2.2.2.1.lt _ h).2
              omega
          have hH3 := hid (RStk.ext HS.out hE3.out)
          refine wp_region_only (S := tch q v) (.rd 0 (.rd 1 (.rd 2 (.rd 3 (.rd 5 (.br 4 (.ac 6 (.ac 7 (.rd 8 (.rd 9 (.ac 10 .done))))) 6 (.ac 4 (.ac 7 (.rd 8 (.rd 9 (.ac 10 .done))))))))))) (by kernel_rfl) (by kernel_rfl) (fun _ _ d _ _ h => by cases d <;> exact h) (by simp only [Ord.map, nthOp, List.append]; rfl) ?_
          intro d1
          have hR5 := hid (hR3.out.ext (Ext.grow (Ext.refl W3) d1))
          have hH4 := hid (RStk.ext hH3.out (Ext.grow (Ext.refl W3) d1))
          have hxW4 : Hid (Ext W3 (Go.Proofs.Ytfpfmjcajdknoaa.grow W3 d1)) := hid (Ext.grow (Ext.refl W3) d1)
          generalize Go.Proofs.Ytfpfmjcajdknoaa.grow W3 d1 = W4 at hR5 hH4 hxW4 ⊢
          have hc4 := hH4.out.2.1
          have hf4 := hH4.out.2.2.1
          have hq3 : q < W4.heap.size := hH4.out.1
          have hbq : base ≤ q := hH4.out.2.2.2.2.1
          clear hR3
          obtain ⟨i0, z0, hi0, hz0, hz1, hz2, hz3⟩ := frame_info2
          repeat' (first | (refine only_read (by rfl) (fun K hK => ?_); (refine quiet_loadC 32 (.tmp 3) rfl b 0 rfl (capsList 5 F) _ (fun w' hw' => (hR5.out.only hw' hSb).range) Try.underlying32 rfl (by rw [capsList_length]; kernel_rfl) ?_); refine hK _ ?_; clear hK K; simp only [Act.put, List.setIfInBounds_toArray, List.set_cons_zero, List.set_cons_succ]) | (refine only_read (by rfl) (fun K hK => ?_); go_big_quiet_op; refine hK _ ?_; clear hK K) | (refine only_read (by rfl) (fun K hK => ?_); refine quiet_run (.pointer (some ⟨q, 0, none⟩)) (fun w => by kernel_rfl) ?_; refine hK _ ?_; clear hK K; simp only [Act.put, List.setIfInBounds_toArray, List.set_cons_zero, List.set_cons_succ]))
          refine only_br ?_ ?_
          · refine only_act (by rfl) (fun K hK => ?_)
            go_wp2_with fail
            refine ⟨_, Only.refl _ _, Only.refl _ _, ?_⟩
            refine only_act (by rfl) (fun K hK => ?_)
            refine wp_build1 44 32 (.tmp 36) rfl (capsList 5 F).toArray 30 rfl (by rw [capsArr_size]) (by omega) (by omega) Try.underlying44 (by kernel_rfl) (by kernel_rfl) ?_
            refine hK _ _ ⟨_, Only.refl _ _, Only.ofExt (Ext.alloc (Ext.refl _) _), ?_⟩
            refine only_gen (fun W => Hid (Ext W4 W) ∧ Hid (Row W W4.heap.size 0 (capsList 5 F))) ⟨hid (Ext.alloc (Ext.refl _) _), hid (Row.new W4 _ _)⟩ ?_
            clear hK K
            rintro w4 ⟨hE4, hR4⟩
            have hown4 := hid (ownsRow_ext hH4.out.2.2.2.1 hE4.out)
            have hb4 : base ≤ w4.heap.size := by have := hE4.out.size; omega
            have hq4 : q < w4.heap.size := by have := hE4.out.size; omega
            have hc5 := (hE4.out.cells q 0 hq3).trans hc4
            have hf5 := (hE4.out.frozens q 0 hq3).trans hf4
            have hS5 : Hid (Only (tch q v) W4 w4) := hid (Only.ofExt hE4.out)
            refine only_act (by rfl) (fun K hK => ?_)
            refine wp_append_lies _ (.tmp 35) (.tmp 37) 44 rfl base 32 i0 z0 30 240 Try.underlying44 hi0 hz0 hz2 hz3 hz1 (by omega) v n (capsList (n * 5) L) rfl hown4.out ⟨W4.heap.size, 0, none⟩ 1 1 (capsList 5 F) rfl (by rw [capsList_length]) (fun j u hj => by rw [Addr.add_lit]; exact hR4.out.range j u hj) (capsList_one 5 F) (by omega) (by unfold maxLen; omega) (by omega) hb4 _ rfl ?_
            intro g cap w6 hown6 hgrow hat hlt
            rw [appL_list] at hown6
            have hS6 : Hid (Only (tch q v) W4 w6) := hid (Only.trans' hS5.out (grownOnly hgrow fun g hg => .inr hg))
            have hgq : ¬ g = q := by
              rcases hat with h | h
              · exact HS.out.apart g h
              · omega
            have hnew : v.ownBlock = some g ∨ w.heap.size ≤ g := hat.imp_right fun h => by
              have h1 := hE3.out.size
              have h2 := hxW4.out.size
              have h3 := hE4.out.size
              omega
            have hqo : ∀ g', v.ownBlock = some g' → ¬ q = g' := fun g' h e => HS.out.apart g' h e.symm
            have hG6 : Only (fun i => v.ownBlock = some i) w4 w6 := grownOnly hgrow fun g hg => hg
            have hq6 : q < w6.heap.size := Nat.lt_of_lt_of_le hq4 hG6.size
            have hc6 := (hG6.cells q 0 hq4 (fun h => hqo q h rfl)).trans hc5
            have hf6 := (hG6.frozens q 0 hq4 (fun h => hqo q h rfl)).trans hf5
            have hown6 := hid hown6
            refine hK _ _ ⟨_, Only.refl _ _, hS6.out, ?_⟩
            clear hK K hgrow hG6 hS5 hown4 hR4 hE4 hc4 hf4 hc5 hf5 hat hqo
            repeat' (refine only_read (by rfl) (fun K hK => ?_); refine quiet_run (.pointer (some ⟨q, 0, none⟩)) (fun w => by kernel_rfl) ?_; refine hK _ ?_; clear hK K; simp only [Act.put, List.setIfInBounds_toArray, List.set_cons_zero, List.set_cons_succ])
            refine only_act (by rfl) (fun K hK => ?_)
            go_wp2_with fail
            refine ⟨_, Only.refl _ _, Only.setCell (S := tch q v) hS6.out (Or.inl (show tch q v q from Or.inl rfl)) _, ?_⟩
            refine only_nil ?_
            go_wp2
            go_ret
            refine ⟨_, rfl, ⟨by simpa [go_sem] using hq6, by simp [go_sem, hc6], by simp [go_sem, hf6], ownsRow_only (S := fun i => i = q) hown6.out (Only.setCell (S := fun i => i = q) (Only.refl _ _) (.inl rfl) _) (fun g' hg' => ?_), HS.out.2.2.2.2.1, fun g' hg' => ?_⟩, Only.trans' (Only.ofExt hE3.out) (Only.trans' (Only.ofExt hxW4.out) (Only.setCell (S := tch q v) hS6.out (Or.inl (show tch q v q from Or.inl rfl)) _)), fun g' hg' => ?_⟩
            · obtain rfl : g = g' := by simpa [Value.ownBlock] using hg'
              exact hgq
            · obtain rfl : g = g' := by simpa [Value.ownBlock] using hg'
              exact hgq
            · obtain rfl : g = g' := by simpa [Value.ownBlock] using hg'
              exact hnew
          
          · refine only_act (by rfl) (fun K hK => ?_)
            refine wp_build1 44 32 (.tmp 36) rfl (capsList 5 F).toArray 30 rfl (by rw [capsArr_size]) (by omega) (by omega) Try.underlying44 (by kernel_rfl) (by kernel_rfl) ?_
            refine hK _ _ ⟨_, Only.refl _ _, Only.ofExt (Ext.alloc (Ext.refl _) _), ?_⟩
            refine only_gen (fun W => Hid (Ext W4 W) ∧ Hid (Row W W4.heap.size 0 (capsList 5 F))) ⟨hid (Ext.alloc (Ext.refl _) _), hid (Row.new W4 _ _)⟩ ?_
            clear hK K
            rintro w4 ⟨hE4, hR4⟩
            have hown4 := hid (ownsRow_ext hH4.out.2.2.2.1 hE4.out)
            have hb4 : base ≤ w4.heap.size := by have := hE4.out.size; omega
            have hq4 : q < w4.heap.size := by have := hE4.out.size; omega
            have hc5 := (hE4.out.cells q 0 hq3).trans hc4
            have hf5 := (hE4.out.frozens q 0 hq3).trans hf4
            have hS5 : Hid (Only (tch q v) W4 w4) := hid (Only.ofExt hE4.out)
            refine only_act (by rfl) (fun K hK => ?_)
            go_wp2_with fail
            refine ⟨_, Only.refl _ _, hS5.out, ?_⟩
            refine only_act (by rfl) (fun K hK => ?_)
            refine wp_append_lies _ (.tmp 35) (.tmp 37) 44 rfl base 32 i0 z0 30 240 Try.underlying44 hi0 hz0 hz2 hz3 hz1 (by omega) v n (capsList (n * 5) L) rfl hown4.out ⟨W4.heap.size, 0, none⟩ 1 1 (capsList 5 F) rfl (by rw [capsList_length]) (fun j u hj => by rw [Addr.add_lit]; exact hR4.out.range j u hj) (capsList_one 5 F) (by omega) (by unfold maxLen; omega) (by omega) hb4 _ rfl ?_
            intro g cap w6 hown6 hgrow hat hlt
            rw [appL_list] at hown6
            have hS6 : Hid (Only (tch q v) W4 w6) := hid (Only.trans' hS5.out (grownOnly hgrow fun g hg => .inr hg))
            have hgq : ¬ g = q := by
              rcases hat with h | h
              · exact HS.out.apart g h
              · omega
            have hnew : v.ownBlock = some g ∨ w.heap.size ≤ g := hat.imp_right fun h => by
              have h1 := hE3.out.size
              have h2 := hxW4.out.size
              have h3 := hE4.out.size
              omega
            have hqo : ∀ g', v.ownBlock = some g' → ¬ q = g' := fun g' h e => HS.out.apart g' h e.symm
            have hG6 : Only (fun i => v.ownBlock = some i) w4 w6 := grownOnly hgrow fun g hg => hg
            have hq6 : q < w6.heap.size := Nat.lt_of_lt_of_le hq4 hG6.size
            have hc6 := (hG6.cells q 0 hq4 (fun h => hqo q h rfl)).trans hc5
            have hf6 := (hG6.frozens q 0 hq4 (fun h => hqo q h rfl)).trans hf5
            have hown6 := hid hown6
            refine hK _ _ ⟨_, Only.refl _ _, hS6.out, ?_⟩
            clear hK K hgrow hG6 hS5 hown4 hR4 hE4 hc4 hf4 hc5 hf5 hat hqo
            repeat' (refine only_read (by rfl) (fun K hK => ?_); refine quiet_run (.pointer (some ⟨q, 0, none⟩)) (fun w => by kernel_rfl) ?_; refine hK _ ?_; clear hK K; simp only [Act.put, List.setIfInBounds_toArray, List.set_cons_zero, List.set_cons_succ])
            refine only_act (by rfl) (fun K hK => ?_)
            go_wp2_with fail
            refine ⟨_, Only.refl _ _, Only.setCell (S := tch q v) hS6.out (Or.inl (show tch q v q from Or.inl rfl)) _, ?_⟩
            refine only_nil ?_
            go_wp2
            go_ret
            refine ⟨_, rfl, ⟨by simpa [go_sem] using hq6, by simp [go_sem, hc6], by simp [go_sem, hf6], ownsRow_only (S := fun i => i = q) hown6.out (Only.setCell (S := fun i => i = q) (Only.refl _ _) (.inl rfl) _) (fun g' hg' => ?_), HS.out.2.2.2.2.1, fun g' hg' => ?_⟩, Only.trans' (Only.ofExt hE3.out) (Only.trans' (Only.ofExt hxW4.out) (Only.setCell (S := tch q v) hS6.out (Or.inl (show tch q v q from Or.inl rfl)) _)), fun g' hg' => ?_⟩
            · obtain rfl : g = g' := by simpa [Value.ownBlock] using hg'
              exact hgq
            · obtain rfl : g = g' := by simpa [Value.ownBlock] using hg'
              exact hgq
            · obtain rfl : g = g' := by simpa [Value.ownBlock] using hg'
              exact hnew
    · exact absurd hn0 hn16

end Go.Proofs.Ytfpfmjcajdknoaa
