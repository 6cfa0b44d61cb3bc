/- The walk of HeapAgain. -/
import Derived.Test.YtoeiemeffiiidaaDoorHepN
namespace Go.Proofs.YtoeiemeffiiidaaDoor
set_option linter.unusedSimpArgs false
set_option linter.unusedVariables false
open Go.RowKit

open Go.Deep Go.RowKit
namespace heapAgain
set_option linter.unusedSimpArgs false
set_option linter.unusedVariables false
theorem due_no (a n t : Int) (h0 : 0 ≤ t) (h1 : t ≤ 1000) (ho : t % 2 = 1) : dueB (t + 1) ⟨a, n, t⟩ = false := by
  unfold dueB whenT
  simp only
  rw [clampT_of h0 (by omega)]
  exact decide_eq_false (by omega)
theorem due_even (a n t : Int) (h0 : 0 ≤ t) (h1 : t ≤ 1000) (ho : t % 2 = 0) : dueB (t + 1 + 1) ⟨a, n, t⟩ = true := by
  unfold dueB whenT
  simp only
  rw [clampT_of h0 (by omega)]
  exact decide_eq_true (by omega)
theorem due_odd (a n t : Int) (h0 : 0 ≤ t) (h1 : t ≤ 1000) (ho : t % 2 = 1) : dueB (t + 1 + 1 + 1) ⟨a, n, t⟩ = true := by
  unfold dueB whenT
  simp only
  rw [clampT_of h0 (by omega)]
  exact decide_eq_true (by omega)
theorem again_free (t : Int) (lf : List Pr) (mk r : Int) : ofE (⟨t, [], lf, P0, [⟨512, mk, r⟩]⟩ : HSt).lv ⟨true, 512, 512 + mk, 512, 31, 0⟩ = 0 ∧ (⟨t, [], lf, P0, [⟨512, mk, r⟩]⟩ : HSt).free ⟨true, 512, 512 + mk, 512, 31, 0⟩ = ⟨t, [⟨512, r, t⟩], lf, P0, []⟩ := by
  have h : ofE [⟨512, mk, r⟩] ⟨true, 512, 512 + mk, 512, 31, 0⟩ = 0 := by
    unfold ofE idxL
    simp [List.findIdx?_cons]
  refine ⟨h, ?_⟩
  unfold HSt.free
  simp only
  rw [if_pos h]
  unfold ofB
  rw [if_pos h]
  rfl
set_option maxRecDepth 100000 in
set_option maxHeartbeats 12000000 in
theorem walk (a0 : Int) (a1 : Int) (a2 : Int) (w : World) (w0 : (Lit.int .u8 a0).wf = true) (w1 : (Lit.int .u16 a1).wf = true) (w2 : (Lit.int .u8 a2).wf = true) (hTab : Tab w) :
    Calls Tryd.prog 6 #[.int .u8 a0, .int .u16 a1, .int .u8 a2] w fun e w' => e = .returned (.bool true) ∧ Ext w w' := by
  obtain ⟨a0l, a0h⟩ := wfu8 w0
  obtain ⟨a1l, a1h⟩ : 0 ≤ a1 ∧ a1 ≤ 65535 := by simpa [Lit.wf, IntKind.min, IntKind.max, IntKind.signed, IntKind.bits] using w1
  obtain ⟨a2l, a2h⟩ := wfu8 w2
  have HT := hid hTab
  clear w0 w1 w2 hTab
  by_cases c0 : 16 * a0 < a1
  · go_enter Tryd.func6, Tryd.ntmps6
    go_upto_region 2 with (go_at_call 8; refine (head_ _ HT.out).mono ?_; rintro e W0 ⟨rfl, hxh⟩)
    have HWW : Hid (Ext w W0) := hid hxh
    go_wp2_with (go_at_call 9; refine (new_ 4200 _ (by decide) (by decide)).mono ?_; rintro e w1 ⟨p, pq, rfl, hs1, hx1, hp1, hpq1⟩)
    go_ret
    exact ⟨rfl, HWW.out.trans hx1⟩
  by_cases c1 : 1024 < a1
  · go_enter Tryd.func6, Tryd.ntmps6
    go_upto_region 2 with (go_at_call 8; refine (head_ _ HT.out).mono ?_; rintro e W0 ⟨rfl, hxh⟩)
    have HWW : Hid (Ext w W0) := hid hxh
    go_wp2_with (go_at_call 9; refine (new_ 4200 _ (by decide) (by decide)).mono ?_; rintro e w1 ⟨p, pq, rfl, hs1, hx1, hp1, hpq1⟩)
    go_ret
    exact ⟨rfl, HWW.out.trans hx1⟩
  obtain ⟨tu, htu⟩ : ∃ z : Int, 512 + 16 * a0 = z := ⟨_, rfl⟩
  have HTU := hid htu
  have HTB : Hid (512 ≤ tu ∧ tu ≤ 4592 ∧ tu % 16 = 0) := hid (by omega)
  have HRI : Hid (rightC ⟨true, 512, tu, 512, 31, 0⟩ = true) := hid (by
    have := HTB.out
    simp [rightC, rightB, holdsB]
    omega)
  have hgt : [(512 : Int), tu].all g16 = true := by
    have := HTB.out
    have e2 : g16 tu = true := by
      unfold g16
      exact decide_eq_true (by rw [Int.tmod_eq_emod_of_nonneg (by omega)]; exact this.2.2)
    rw [List.all_cons, List.all_cons, e2]
    rfl
  by_cases c2 : a0 = 0
  · have HGG : Hid ([(512 : Int), tu].all g16 = true ∧ (0 : Int) ≤ 512 ∧ (512 : Int) = tu ∧ tu ≤ 16777216) := hid ⟨hgt, by omega, by omega, by omega⟩
    have hz1 : a1 = 0 := by omega
    subst hz1
    subst c2
    clear hgt c0 c1
    go_enter Tryd.func6, Tryd.ntmps6
    go_upto_region 2 with (go_at_call 8; refine (head_ _ HT.out).mono ?_; rintro e W0 ⟨rfl, hxh⟩)
    have HWW : Hid (Ext w W0) := hid hxh
    go_upto_region 3 with (go_at_call 9; refine (new_ 4200 _ (by decide) (by decide)).mono ?_; rintro e w1 ⟨p, pq, rfl, hs1, hx1, hp1, hpq1⟩)
    have HS0 := hid hs1
    have HB1 := hid hx1
    have HPQ := hid hpq1
    clear hs1 hx1 hp1 hpq1 hxh
    go_upto_region 7 with (first | (go_at_call 10; refine (root_ 512 0 _ (by decide) (by omega)).mono ?_; rw [HTU.out]; rintro e w2 ⟨rfl, hx2⟩; have HB := hid (HB1.out.trans hx2); have HS := hid (HS0.out.ext hx2); clear hx2) | (go_at_call 11; refine (hNew0 W0 _ p pq 4200 512 tu 31 64 P0 HB.out HS.out HPQ.out HRI.out HGG.out (by decide) (fun _ => False) (fun _ h => h.elim)).mono ?_; rintro e w3 ⟨h, ck, q, fq, g, bq, bf, rfl, HK3, HX3⟩))
    clear HS HB HB1 HS0 HX3
    have HAF := hid (al_out (x := ⟨0, [], [], P0, []⟩) (m := 0) (by omega) (al_none (by intro p hp; cases hp)))
    go_wp2_with (go_at_call 15; refine (hAlloc W0 _ h ck q fq p pq g bq bf 4200 512 tu 512 31 64 (fun _ => False) ⟨0, [], [], P0, []⟩ (HK3.out.ext (by repeat (first | (with_reducible exact Ext.refl _) | (with_reducible refine Ext.undrew ?_) | (with_reducible refine Ext.grow ?_ _) | (with_reducible refine Ext.drew ?_) | (with_reducible refine Ext.drewN ?_ _) | (with_reducible refine Ext.alloc ?_ _) | (with_reducible assumption) | ((with_reducible refine Ext.setCell ?_ ?_ _); rotate_left; (first | exact Nat.le_refl _ | ((try dsimp only); (try simp only [World.size_alloc, grow_size, World.size_setCell]); omega)))))) 0 (by omega) (HT.out.ext (HWW.out.trans (HK3.out.base.trans (by repeat (first | (with_reducible exact Ext.refl _) | (with_reducible refine Ext.undrew ?_) | (with_reducible refine Ext.grow ?_ _) | (with_reducible refine Ext.drew ?_) | (with_reducible refine Ext.drewN ?_ _) | (with_reducible refine Ext.alloc ?_ _) | (with_reducible assumption) | ((with_reducible refine Ext.setCell ?_ ?_ _); rotate_left; (first | exact Nat.le_refl _ | ((try dsimp only); (try simp only [World.size_alloc, grow_size, World.size_setCell]); omega)))))))) HAF.out.2.2.2).mono ?_; rw [HAF.out.2.2.1, HAF.out.1, HAF.out.2.1]; (try dsimp only); rintro e w5 ⟨rfl, HK5, HOz⟩)
    go_ret
    exact ⟨rfl, HWW.out.trans (HK5.out.base.trans (by repeat (first | (with_reducible exact Ext.refl _) | (with_reducible refine Ext.undrew ?_) | (with_reducible refine Ext.grow ?_ _) | (with_reducible refine Ext.drew ?_) | (with_reducible refine Ext.drewN ?_ _) | (with_reducible refine Ext.alloc ?_ _) | (with_reducible assumption) | ((with_reducible refine Ext.setCell ?_ ?_ _); rotate_left; (first | exact Nat.le_refl _ | ((try dsimp only); (try simp only [World.size_alloc, grow_size, World.size_setCell]); omega))))))⟩
  · have HGG : Hid ([(512 : Int), tu].all g16 = true ∧ (0 : Int) ≤ 512 ∧ (512 : Int) < tu ∧ tu ≤ 16777216) := hid ⟨hgt, by omega, by omega, by omega⟩
    clear hgt
    by_cases c3 : roundT a1 ≤ tu - 512
    · skip
      go_enter Tryd.func6, Tryd.ntmps6
      go_upto_region 2 with (go_at_call 8; refine (head_ _ HT.out).mono ?_; rintro e W0 ⟨rfl, hxh⟩)
      have HWW : Hid (Ext w W0) := hid hxh
      go_upto_region 3 with (go_at_call 9; refine (new_ 4200 _ (by decide) (by decide)).mono ?_; rintro e w1 ⟨p, pq, rfl, hs1, hx1, hp1, hpq1⟩)
      have HS0 := hid hs1
      have HB1 := hid hx1
      have HPQ := hid hpq1
      clear hs1 hx1 hp1 hpq1 hxh
      go_upto_region 7 with (first | (go_at_call 10; refine (root_ 512 a0 _ (by decide) (by omega)).mono ?_; rw [HTU.out]; rintro e w2 ⟨rfl, hx2⟩; have HB := hid (HB1.out.trans hx2); have HS := hid (HS0.out.ext hx2); clear hx2) | (go_at_call 11; refine (hNew W0 _ p pq 4200 512 tu 31 64 P0 HB.out HS.out HPQ.out HRI.out HGG.out (by decide) (fun _ => False) (fun _ h => h.elim)).mono ?_; rintro e w3 ⟨h, ck, q, fq, g, bq, bf, rfl, HK3, HX3⟩))
      clear HS HB HB1 HS0 HX3
      have HK4 : Hid (Hp W0 w3 h ck q fq p pq g bq bf 4200 512 tu 512 31 64 (fun _ => False) ⟨0, [], frL 512 tu, P0, []⟩) := hid (by rw [show frL 512 tu = [⟨512, tu⟩] from if_neg (by omega)]; exact HK3.out)
      clear HK3
      have HA0 := hid (al_one 0 [] P0 [] 512 tu a1 (by omega) c3)
      obtain ⟨r, hr⟩ : ∃ z, roundT a1 = z := ⟨_, rfl⟩
      obtain ⟨mk, hmk⟩ : ∃ z, max a1 1 = z := ⟨_, rfl⟩
      have HRR := hid hr
      have HMK := hid hmk
      have HAC : Hid (alC 31 ⟨0, [], frL 512 tu, P0, []⟩ a1 = ⟨true, 512, 512 + mk, 512, 31, 0⟩ ∧ alE ⟨0, [], frL 512 tu, P0, []⟩ a1 = 0 ∧ (⟨0, [], frL 512 tu, P0, []⟩ : HSt).al a1 = (⟨0, [], frL (512 + r) tu, P0, [⟨512, mk, r⟩]⟩ : HSt)) := hid ⟨by rw [HA0.out.2.2.2.2, hmk], HA0.out.2.2.2.1, by rw [HA0.out.2.2.1, hmk, hr]; rfl⟩
      have hrb : 16 ≤ r ∧ r % 16 = 0 ∧ r ≤ 4096 := by
        obtain ⟨_, r2, r3, r4, _⟩ := roundT_bd (n := a1) a1l (by omega)
        omega
      obtain ⟨hr0, hr1, hr2⟩ := hrb
      rw [hr] at c3
      have hmk0 : 1 ≤ mk ∧ mk ≤ 1024 := by omega
      obtain ⟨hm0, hm1⟩ := hmk0
      have hgr : g16 r = true := by unfold g16; exact decide_eq_true (by rw [Int.tmod_eq_emod_of_nonneg (by omega)]; exact hr1)
      have HGC : Hid (giveC 512 tu 512 r []) := hid ⟨by rw [List.all_cons, List.all_cons, hgr]; rfl, by omega, by omega, by omega, by omega, fun hk => absurd hk (by simp)⟩
      clear hr hmk hgr
      go_upto_region 10 with (go_at_call 15; refine (hAlloc W0 _ h ck q fq p pq g bq bf 4200 512 tu 512 31 64 (fun _ => False) ⟨0, [], frL 512 tu, P0, []⟩ (HK4.out.ext (by repeat (first | (with_reducible exact Ext.refl _) | (with_reducible refine Ext.undrew ?_) | (with_reducible refine Ext.grow ?_ _) | (with_reducible refine Ext.drew ?_) | (with_reducible refine Ext.drewN ?_ _) | (with_reducible refine Ext.alloc ?_ _) | (with_reducible assumption) | ((with_reducible refine Ext.setCell ?_ ?_ _); rotate_left; (first | exact Nat.le_refl _ | ((try dsimp only); (try simp only [World.size_alloc, grow_size, World.size_setCell]); omega)))))) a1 (by omega) (HT.out.ext (HWW.out.trans (HK4.out.base.trans (by repeat (first | (with_reducible exact Ext.refl _) | (with_reducible refine Ext.undrew ?_) | (with_reducible refine Ext.grow ?_ _) | (with_reducible refine Ext.drew ?_) | (with_reducible refine Ext.drewN ?_ _) | (with_reducible refine Ext.alloc ?_ _) | (with_reducible assumption) | ((with_reducible refine Ext.setCell ?_ ?_ _); rotate_left; (first | exact Nat.le_refl _ | ((try dsimp only); (try simp only [World.size_alloc, grow_size, World.size_setCell]); omega)))))))) (fun _ => rfl)).mono ?_; rw [HAC.out.1, HAC.out.2.1, HAC.out.2.2]; (try dsimp only); rintro e w5 ⟨rfl, HKz, HOz⟩)
      refine wp_gen (fun V => Hid (Hp W0 V h ck q fq p pq g bq bf 4200 512 tu 512 31 64 (fun i => False ∨ i = w5.heap.size) (⟨0, [], frL (512 + r) tu, P0, [⟨512, mk, r⟩]⟩ : HSt)) ∧ Hid (Row V w5.heap.size 0 [.bool true, .int .i64 512, .int .i64 (512 + mk), .int .i64 512, .int .i64 31, .int .i64 0])) ⟨hid (HKz.out.box _), hid (Row.new w5 _ _)⟩ ?_
      clear HKz HOz HK4
      rintro W5 ⟨HK5, HR5⟩
      generalize w5.heap.size = cb at HK5 HR5 ⊢
      go_wp2
      go_loopw [13] (fun i wr => ∃ k : Nat, (k : Int) ≤ a2 ∧ i = .int .i64 k ∧ Hid (Hp W0 wr h ck q fq p pq g bq bf 4200 512 tu 512 31 64 (fun i => False ∨ i = cb) (⟨2 * (k : Int), [], frL (512 + r) tu, P0, [⟨512, mk, r⟩]⟩ : HSt)) ∧ Hid (Row wr cb 0 [.bool true, .int .i64 512, .int .i64 (512 + mk), .int .i64 512, .int .i64 31, .int .i64 0])) (fun i _ => a2.toNat - (intOf i).toNat)
      case atStart => exact ⟨0, by omega, rfl, HK5, HR5⟩
      case round =>
        clear HK5 HR5
        obtain ⟨k, hk, rfl, HK, HR⟩ := hrel
        by_cases hlt : (k : Int) < a2
        · have HBG := hid (beg_nil (2 * (k : Int)) (frL (512 + r) tu) P0 [⟨512, mk, r⟩] 4200 (by unfold oddB; simp <;> omega))
          have HEN := hid (endd_nil (2 * (k : Int) + 1) (frL (512 + r) tu) P0 [⟨512, mk, r⟩] 4200 512 tu (by unfold oddB; simp <;> omega))
          go_upto_region 16 with (go_at_call 13; refine (hBegin W0 _ h ck q fq p pq g bq bf 4200 512 tu 512 31 64 (fun i => False ∨ i = cb) (⟨2 * (k : Int), [], frL (512 + r) tu, P0, [⟨512, mk, r⟩]⟩ : HSt) (HK.out.ext (by repeat (first | (with_reducible exact Ext.refl _) | (with_reducible refine Ext.undrew ?_) | (with_reducible refine Ext.grow ?_ _) | (with_reducible refine Ext.drew ?_) | (with_reducible refine Ext.drewN ?_ _) | (with_reducible refine Ext.alloc ?_ _) | (with_reducible assumption) | ((with_reducible refine Ext.setCell ?_ ?_ _); rotate_left; (first | exact Nat.le_refl _ | ((try dsimp only); (try simp only [World.size_alloc, grow_size, World.size_setCell]); omega)))))) (by simp) (by dsimp only; omega)).mono ?_; rw [HBG.out]; rintro e wb ⟨rfl, HKb, HOz⟩)
          have HRb := hid ((HR.out.ext (by repeat (first | (with_reducible exact Ext.refl _) | (with_reducible refine Ext.undrew ?_) | (with_reducible refine Ext.grow ?_ _) | (with_reducible refine Ext.drew ?_) | (with_reducible refine Ext.drewN ?_ _) | (with_reducible refine Ext.alloc ?_ _) | (with_reducible assumption) | ((with_reducible refine Ext.setCell ?_ ?_ _); rotate_left; (first | exact Nat.le_refl _ | ((try dsimp only); (try simp only [World.size_alloc, grow_size, World.size_setCell]); omega)))))).only HOz.out (fun e => e (.inr rfl)))
          clear HK HR HOz
          go_wp2_with (go_at_call 14; refine (hEnd W0 _ h ck q fq p pq g bq bf 4200 512 tu 512 31 64 (fun i => False ∨ i = cb) (⟨2 * (k : Int) + 1, [], frL (512 + r) tu, P0, [⟨512, mk, r⟩]⟩ : HSt) (HKb.out.ext (by repeat (first | (with_reducible exact Ext.refl _) | (with_reducible refine Ext.undrew ?_) | (with_reducible refine Ext.grow ?_ _) | (with_reducible refine Ext.drew ?_) | (with_reducible refine Ext.drewN ?_ _) | (with_reducible refine Ext.alloc ?_ _) | (with_reducible assumption) | ((with_reducible refine Ext.setCell ?_ ?_ _); rotate_left; (first | exact Nat.le_refl _ | ((try dsimp only); (try simp only [World.size_alloc, grow_size, World.size_setCell]); omega)))))) (by simp) (by dsimp only; omega)).mono ?_; rw [HEN.out]; rintro e we ⟨rfl, HKe, HOz⟩)
          have HRe := hid ((HRb.out.ext (by repeat (first | (with_reducible exact Ext.refl _) | (with_reducible refine Ext.undrew ?_) | (with_reducible refine Ext.grow ?_ _) | (with_reducible refine Ext.drew ?_) | (with_reducible refine Ext.drewN ?_ _) | (with_reducible refine Ext.alloc ?_ _) | (with_reducible assumption) | ((with_reducible refine Ext.setCell ?_ ?_ _); rotate_left; (first | exact Nat.le_refl _ | ((try dsimp only); (try simp only [World.size_alloc, grow_size, World.size_setCell]); omega)))))).only HOz.out (fun e => e (.inr rfl)))
          go_roundw
          case rel => exact ⟨k + 1, by omega, by simp [go_sem], hid (by have := HKe.out; rw [show 2 * (k : Int) + 1 + 1 = 2 * ((k + 1 : Nat) : Int) by omega] at this; exact this), HRe⟩
          case measure => simp [intOf]; omega
        · obtain rfl : a2 = (k : Int) := by omega
          rcases Nat.mod_two_eq_zero_or_one k with hpar | hpar
          · have hpm : (k : Int).tmod 2 = 0 := by rw [Int.tmod_eq_emod_of_nonneg (by omega)]; omega
            go_upto_region 20 with (fail)
            have c0 : World.cell? wr ⟨cb, 0, none⟩ = some (.bool true) := by have := HR.out.at_ 0 _ rfl; simpa using this
            have c1 : World.cell? wr ⟨cb, 1, none⟩ = some (.int .i64 512) := by have := HR.out.at_ 1 _ rfl; simpa using this
            have c2 : World.cell? wr ⟨cb, 2, none⟩ = some (.int .i64 (512 + mk)) := by have := HR.out.at_ 2 _ rfl; simpa using this
            have c3 : World.cell? wr ⟨cb, 3, none⟩ = some (.int .i64 512) := by have := HR.out.at_ 3 _ rfl; simpa using this
            have c4 : World.cell? wr ⟨cb, 4, none⟩ = some (.int .i64 31) := by have := HR.out.at_ 4 _ rfl; simpa using this
            have c5 : World.cell? wr ⟨cb, 5, none⟩ = some (.int .i64 0) := by have := HR.out.at_ 5 _ rfl; simpa using this
            have cl := HR.out.lt
            have HF : Hid (ofE (⟨(2 * (k : Int)), [], frL (512 + r) tu, P0, [⟨512, mk, r⟩]⟩ : HSt).lv ⟨true, 512, 512 + mk, 512, 31, 0⟩ = 0 ∧ (⟨(2 * (k : Int)), [], frL (512 + r) tu, P0, [⟨512, mk, r⟩]⟩ : HSt).free ⟨true, 512, 512 + mk, 512, 31, 0⟩ = (⟨(2 * (k : Int)), [(⟨512, r, (2 * (k : Int))⟩ : Hd)], frL (512 + r) tu, P0, []⟩ : HSt)) := hid (again_free (2 * (k : Int)) (frL (512 + r) tu) mk r)
            go_upto_region 21 with (go_at_call 12; refine (hFree W0 _ h ck q fq p pq g bq bf 4200 512 tu 512 31 64 (fun i => False ∨ i = cb) (⟨(2 * (k : Int)), [], frL (512 + r) tu, P0, [⟨512, mk, r⟩]⟩ : HSt) (HK.out.ext (by repeat (first | (with_reducible exact Ext.refl _) | (with_reducible refine Ext.undrew ?_) | (with_reducible refine Ext.grow ?_ _) | (with_reducible refine Ext.drew ?_) | (with_reducible refine Ext.drewN ?_ _) | (with_reducible refine Ext.alloc ?_ _) | (with_reducible assumption) | ((with_reducible refine Ext.setCell ?_ ?_ _); rotate_left; (first | exact Nat.le_refl _ | ((try dsimp only); (try simp only [World.size_alloc, grow_size, World.size_setCell]); omega)))))) true 512 (512 + mk) 512 31 0 (by omega) (by simp)).mono ?_; rw [HF.out.1, HF.out.2]; rintro e wf ⟨rfl, HKf, HOz⟩)
            have HRf := hid ((HR.out.ext (by repeat (first | (with_reducible exact Ext.refl _) | (with_reducible refine Ext.undrew ?_) | (with_reducible refine Ext.grow ?_ _) | (with_reducible refine Ext.drew ?_) | (with_reducible refine Ext.drewN ?_ _) | (with_reducible refine Ext.alloc ?_ _) | (with_reducible assumption) | ((with_reducible refine Ext.setCell ?_ ?_ _); rotate_left; (first | exact Nat.le_refl _ | ((try dsimp only); (try simp only [World.size_alloc, grow_size, World.size_setCell]); omega)))))).only HOz.out (fun e => e (.inr rfl)))
            clear HK HR HOz
            clear c0 c1 c2 c3 c4 c5 cl
            go_wp2
            go_loopw [16] (fun cc wr => ∃ (n : Nat) (lo : Int) (lv : List Lv), cc = .int .i64 n ∧ 16 * (n : Int) ≤ lo - 512 ∧ (512 + r ≤ lo ∧ lo ≤ tu ∧ (tu - lo) % 16 = 0) ∧ Hid (Hp W0 wr h ck q fq p pq g bq bf 4200 512 tu 512 31 64 (fun i => False ∨ i = cb) (⟨(2 * (k : Int)), [(⟨512, r, (2 * (k : Int))⟩ : Hd)], frL lo tu, P0, lv⟩ : HSt)) ∧ Hid (ApL lv (frL lo tu) ∧ ∀ z ∈ lv, 512 + r ≤ z.at_) ∧ Hid (Row wr cb 0 [.bool true, .int .i64 512, .int .i64 (512 + mk), .int .i64 512, .int .i64 31, .int .i64 0])) (fun cc _ => 300 - (intOf cc).toNat)
            case atStart => exact ⟨0, 512 + r, [], rfl, by omega, ⟨by omega, by omega, by omega⟩, HKf, hid ⟨fun z hz => (by cases hz), fun z hz => (by cases hz)⟩, HRf⟩
            case round =>
              clear HKf HRf
              obtain ⟨n, lo, lv, rfl, hn, ⟨hl0, hl1, hl2⟩, HK, HA, HR⟩ := hrel
              have HGD := hid (Hp_good HK.out)
              have HSM := hid (frL_sum lo tu)
              by_cases hlt : lo < tu
              · have hp0 : (0 : Int) < tu - lo := by omega
                have hn9 : n < 300 := by omega
                have HA1 := hid (al_one (2 * (k : Int)) [(⟨512, r, (2 * (k : Int))⟩ : Hd)] P0 lv lo tu 0 (by decide) (by rw [show roundT 0 = 16 from rfl]; omega))
                have HFR : Hid (alOk (⟨(2 * (k : Int)), [(⟨512, r, (2 * (k : Int))⟩ : Hd)], frL lo tu, P0, lv⟩ : HSt) 0 = true → idxL lv (alAt (⟨(2 * (k : Int)), [(⟨512, r, (2 * (k : Int))⟩ : Hd)], frL lo tu, P0, lv⟩ : HSt) 0) = none) := hid (fun e => al_fresh (x := (⟨(2 * (k : Int)), [(⟨512, r, (2 * (k : Int))⟩ : Hd)], frL lo tu, P0, lv⟩ : HSt)) HA.out.1 e)
                have HAP : Hid (ApL (lv ++ [⟨lo, max 0 1, roundT 0⟩]) (frL (lo + roundT 0) tu)) := hid (by
                  have := al_ap (x := (⟨(2 * (k : Int)), [(⟨512, r, (2 * (k : Int))⟩ : Hd)], frL lo tu, P0, lv⟩ : HSt)) HGD.out.1 HA.out.1 0
                  rw [HA1.out.2.2.1] at this
                  exact this)
                go_upto_region 23 with (go_at_call 21; refine (hLeft W0 _ h ck q fq p pq g bq bf 4200 512 tu 512 31 64 (fun i => False ∨ i = cb) (⟨(2 * (k : Int)), [(⟨512, r, (2 * (k : Int))⟩ : Hd)], frL lo tu, P0, lv⟩ : HSt) HK.out HGD.out.2.1).mono ?_; (try dsimp only); rw [HSM.out]; rintro e wl ⟨rfl, hxl⟩)
                have HKl := hid (HK.out.ext hxl)
                have HRl := hid (HR.out.ext hxl)
                clear HK HR hxl
                go_wp2_with (go_at_call 15; refine (hAlloc W0 _ h ck q fq p pq g bq bf 4200 512 tu 512 31 64 (fun i => False ∨ i = cb) (⟨(2 * (k : Int)), [(⟨512, r, (2 * (k : Int))⟩ : Hd)], frL lo tu, P0, lv⟩ : HSt) (HKl.out.ext (by repeat (first | (with_reducible exact Ext.refl _) | (with_reducible refine Ext.undrew ?_) | (with_reducible refine Ext.grow ?_ _) | (with_reducible refine Ext.drew ?_) | (with_reducible refine Ext.drewN ?_ _) | (with_reducible refine Ext.alloc ?_ _) | (with_reducible assumption) | ((with_reducible refine Ext.setCell ?_ ?_ _); rotate_left; (first | exact Nat.le_refl _ | ((try dsimp only); (try simp only [World.size_alloc, grow_size, World.size_setCell]); omega)))))) 0 (by omega) (HT.out.ext (HWW.out.trans (HKl.out.base.trans (by repeat (first | (with_reducible exact Ext.refl _) | (with_reducible refine Ext.undrew ?_) | (with_reducible refine Ext.grow ?_ _) | (with_reducible refine Ext.drew ?_) | (with_reducible refine Ext.drewN ?_ _) | (with_reducible refine Ext.alloc ?_ _) | (with_reducible assumption) | ((with_reducible refine Ext.setCell ?_ ?_ _); rotate_left; (first | exact Nat.le_refl _ | ((try dsimp only); (try simp only [World.size_alloc, grow_size, World.size_setCell]); omega)))))))) HFR.out).mono ?_; rw [HA1.out.2.2.2.2, HA1.out.2.2.2.1, HA1.out.2.2.1]; (try dsimp only); rintro e wa ⟨rfl, HKa, HOz⟩)
                have HRa := hid (HRl.out.only HOz.out (fun e => e (.inr rfl)))
                go_roundw
                case rel => exact ⟨n + 1, lo + 16, _, by simp [go_sem], by omega, ⟨by omega, by omega, by omega⟩, hid (HKa.out.ext (by repeat (first | (with_reducible exact Ext.refl _) | (with_reducible refine Ext.undrew ?_) | (with_reducible refine Ext.grow ?_ _) | (with_reducible refine Ext.drew ?_) | (with_reducible refine Ext.drewN ?_ _) | (with_reducible refine Ext.alloc ?_ _) | (with_reducible assumption) | ((with_reducible refine Ext.setCell ?_ ?_ _); rotate_left; (first | exact Nat.le_refl _ | ((try dsimp only); (try simp only [World.size_alloc, grow_size, World.size_setCell]); omega)))))), hid ⟨HAP.out, fun z hz => by
                  rcases List.mem_append.1 hz with c | c
                  · exact HA.out.2 z c
                  · obtain rfl : z = ⟨lo, max 0 1, roundT 0⟩ := by simpa using c
                    exact hl0⟩, hid (HRa.out.ext (by repeat (first | (with_reducible exact Ext.refl _) | (with_reducible refine Ext.undrew ?_) | (with_reducible refine Ext.grow ?_ _) | (with_reducible refine Ext.drew ?_) | (with_reducible refine Ext.drewN ?_ _) | (with_reducible refine Ext.alloc ?_ _) | (with_reducible assumption) | ((with_reducible refine Ext.setCell ?_ ?_ _); rotate_left; (first | exact Nat.le_refl _ | ((try dsimp only); (try simp only [World.size_alloc, grow_size, World.size_setCell]); omega))))))⟩
                case measure => simp [intOf]; omega
              · have hfr : frL lo tu = [] := if_pos (by omega)
                have HK9 : Hid (Hp W0 wr h ck q fq p pq g bq bf 4200 512 tu 512 31 64 (fun i => False ∨ i = cb) (⟨(2 * (k : Int)), [(⟨512, r, (2 * (k : Int))⟩ : Hd)], [], P0, lv⟩ : HSt)) := hid (by have := HK.out; rw [hfr] at this; exact this)
                have HLV : Hid (∀ z ∈ lv, 512 + r ≤ z.at_) := hid HA.out.2
                clear HK HA HGD HSM hfr
                go_upto_region 27 with (go_at_call 21; refine (hLeft W0 _ h ck q fq p pq g bq bf 4200 512 tu 512 31 64 (fun i => False ∨ i = cb) (⟨(2 * (k : Int)), [(⟨512, r, (2 * (k : Int))⟩ : Hd)], [], P0, lv⟩ : HSt) HK9.out (by simp)).mono ?_; rw [show sumP ([] : List Pr) = 0 from rfl]; rintro e wl ⟨rfl, hxl⟩)
                have HKl := hid (HK9.out.ext hxl)
                have HRl := hid (HR.out.ext hxl)
                clear HK9 HR hxl
                have HAF := hid (al_out (x := (⟨(2 * (k : Int)), [(⟨512, r, (2 * (k : Int))⟩ : Hd)], [], P0, lv⟩ : HSt)) (m := a1) (by omega) (al_none (by intro p hp; cases hp)))
                go_upto_region 28 with (go_at_call 15; refine (hAlloc W0 _ h ck q fq p pq g bq bf 4200 512 tu 512 31 64 (fun i => False ∨ i = cb) (⟨(2 * (k : Int)), [(⟨512, r, (2 * (k : Int))⟩ : Hd)], [], P0, lv⟩ : HSt) (HKl.out.ext (by repeat (first | (with_reducible exact Ext.refl _) | (with_reducible refine Ext.undrew ?_) | (with_reducible refine Ext.grow ?_ _) | (with_reducible refine Ext.drew ?_) | (with_reducible refine Ext.drewN ?_ _) | (with_reducible refine Ext.alloc ?_ _) | (with_reducible assumption) | ((with_reducible refine Ext.setCell ?_ ?_ _); rotate_left; (first | exact Nat.le_refl _ | ((try dsimp only); (try simp only [World.size_alloc, grow_size, World.size_setCell]); omega)))))) a1 (by omega) (HT.out.ext (HWW.out.trans (HKl.out.base.trans (by repeat (first | (with_reducible exact Ext.refl _) | (with_reducible refine Ext.undrew ?_) | (with_reducible refine Ext.grow ?_ _) | (with_reducible refine Ext.drew ?_) | (with_reducible refine Ext.drewN ?_ _) | (with_reducible refine Ext.alloc ?_ _) | (with_reducible assumption) | ((with_reducible refine Ext.setCell ?_ ?_ _); rotate_left; (first | exact Nat.le_refl _ | ((try dsimp only); (try simp only [World.size_alloc, grow_size, World.size_setCell]); omega)))))))) HAF.out.2.2.2).mono ?_; rw [HAF.out.2.2.1, HAF.out.1, HAF.out.2.1]; (try dsimp only); rintro e wg ⟨rfl, HKg, HOz⟩)
                have HRg := hid ((HRl.out.ext (by repeat (first | (with_reducible exact Ext.refl _) | (with_reducible refine Ext.undrew ?_) | (with_reducible refine Ext.grow ?_ _) | (with_reducible refine Ext.drew ?_) | (with_reducible refine Ext.drewN ?_ _) | (with_reducible refine Ext.alloc ?_ _) | (with_reducible assumption) | ((with_reducible refine Ext.setCell ?_ ?_ _); rotate_left; (first | exact Nat.le_refl _ | ((try dsimp only); (try simp only [World.size_alloc, grow_size, World.size_setCell]); omega)))))).only HOz.out (fun e => e (.inr rfl)))
                clear HKl HRl HOz
                have HAF2 := HAF
                go_upto_region 30 with (fail)
                go_upto_region 31 with (go_at_call 15; refine (hAlloc W0 _ h ck q fq p pq g bq bf 4200 512 tu 512 31 64 (fun i => False ∨ i = cb) (⟨(2 * (k : Int)), [(⟨512, r, (2 * (k : Int))⟩ : Hd)], [], P0, lv⟩ : HSt) (HKg.out.ext (by repeat (first | (with_reducible exact Ext.refl _) | (with_reducible refine Ext.undrew ?_) | (with_reducible refine Ext.grow ?_ _) | (with_reducible refine Ext.drew ?_) | (with_reducible refine Ext.drewN ?_ _) | (with_reducible refine Ext.alloc ?_ _) | (with_reducible assumption) | ((with_reducible refine Ext.setCell ?_ ?_ _); rotate_left; (first | exact Nat.le_refl _ | ((try dsimp only); (try simp only [World.size_alloc, grow_size, World.size_setCell]); omega)))))) a1 (by omega) (HT.out.ext (HWW.out.trans (HKg.out.base.trans (by repeat (first | (with_reducible exact Ext.refl _) | (with_reducible refine Ext.undrew ?_) | (with_reducible refine Ext.grow ?_ _) | (with_reducible refine Ext.drew ?_) | (with_reducible refine Ext.drewN ?_ _) | (with_reducible refine Ext.alloc ?_ _) | (with_reducible assumption) | ((with_reducible refine Ext.setCell ?_ ?_ _); rotate_left; (first | exact Nat.le_refl _ | ((try dsimp only); (try simp only [World.size_alloc, grow_size, World.size_setCell]); omega)))))))) HAF2.out.2.2.2).mono ?_; rw [HAF2.out.2.2.1, HAF2.out.1, HAF2.out.2.1]; (try dsimp only); rintro e wi ⟨rfl, HKi, HOz⟩)
                have HRi := hid ((HRg.out.ext (by repeat (first | (with_reducible exact Ext.refl _) | (with_reducible refine Ext.undrew ?_) | (with_reducible refine Ext.grow ?_ _) | (with_reducible refine Ext.drew ?_) | (with_reducible refine Ext.drewN ?_ _) | (with_reducible refine Ext.alloc ?_ _) | (with_reducible assumption) | ((with_reducible refine Ext.setCell ?_ ?_ _); rotate_left; (first | exact Nat.le_refl _ | ((try dsimp only); (try simp only [World.size_alloc, grow_size, World.size_setCell]); omega)))))).only HOz.out (fun e => e (.inr rfl)))
                clear HKg HRg HOz
                have HBG2 := hid (beg_one (2 * (k : Int)) [] P0 lv 4200 (⟨512, r, (2 * (k : Int))⟩ : Hd) (by unfold oddB; simp <;> omega))
                go_upto_region 32 with (go_at_call 13; refine (hBegin W0 _ h ck q fq p pq g bq bf 4200 512 tu 512 31 64 (fun i => False ∨ i = cb) (⟨(2 * (k : Int)), [(⟨512, r, (2 * (k : Int))⟩ : Hd)], [], P0, lv⟩ : HSt) (HKi.out.ext (by repeat (first | (with_reducible exact Ext.refl _) | (with_reducible refine Ext.undrew ?_) | (with_reducible refine Ext.grow ?_ _) | (with_reducible refine Ext.drew ?_) | (with_reducible refine Ext.drewN ?_ _) | (with_reducible refine Ext.alloc ?_ _) | (with_reducible assumption) | ((with_reducible refine Ext.setCell ?_ ?_ _); rotate_left; (first | exact Nat.le_refl _ | ((try dsimp only); (try simp only [World.size_alloc, grow_size, World.size_setCell]); omega)))))) (by simp) (by dsimp only; omega)).mono ?_; rw [HBG2.out]; rintro e wj ⟨rfl, HKj, HOz⟩)
                have HRj := hid ((HRi.out.ext (by repeat (first | (with_reducible exact Ext.refl _) | (with_reducible refine Ext.undrew ?_) | (with_reducible refine Ext.grow ?_ _) | (with_reducible refine Ext.drew ?_) | (with_reducible refine Ext.drewN ?_ _) | (with_reducible refine Ext.alloc ?_ _) | (with_reducible assumption) | ((with_reducible refine Ext.setCell ?_ ?_ _); rotate_left; (first | exact Nat.le_refl _ | ((try dsimp only); (try simp only [World.size_alloc, grow_size, World.size_setCell]); omega)))))).only HOz.out (fun e => e (.inr rfl)))
                clear HKi HRi HOz
                generalize paintAll 4200 true P0 [(⟨512, r, (2 * (k : Int))⟩ : Hd)] = P9 at HKj
                have HEN2 := hid (endd_one ((2 * (k : Int)) + 1) P9 lv 4200 512 tu (⟨512, r, (2 * (k : Int))⟩ : Hd) (by unfold oddB; simp <;> omega) (due_even _ _ _ (by omega) (by omega) (by omega)) HGC.out)
                go_upto_region 33 with (go_at_call 14; refine (hEnd W0 _ h ck q fq p pq g bq bf 4200 512 tu 512 31 64 (fun i => False ∨ i = cb) (⟨(2 * (k : Int)) + 1, [(⟨512, r, (2 * (k : Int))⟩ : Hd)], [], P9, lv⟩ : HSt) (HKj.out.ext (by repeat (first | (with_reducible exact Ext.refl _) | (with_reducible refine Ext.undrew ?_) | (with_reducible refine Ext.grow ?_ _) | (with_reducible refine Ext.drew ?_) | (with_reducible refine Ext.drewN ?_ _) | (with_reducible refine Ext.alloc ?_ _) | (with_reducible assumption) | ((with_reducible refine Ext.setCell ?_ ?_ _); rotate_left; (first | exact Nat.le_refl _ | ((try dsimp only); (try simp only [World.size_alloc, grow_size, World.size_setCell]); omega)))))) (by simp) (by dsimp only; omega)).mono ?_; rw [HEN2.out]; rintro e wk ⟨rfl, HKk, HOz⟩)
                have HRk := hid ((HRj.out.ext (by repeat (first | (with_reducible exact Ext.refl _) | (with_reducible refine Ext.undrew ?_) | (with_reducible refine Ext.grow ?_ _) | (with_reducible refine Ext.drew ?_) | (with_reducible refine Ext.drewN ?_ _) | (with_reducible refine Ext.alloc ?_ _) | (with_reducible assumption) | ((with_reducible refine Ext.setCell ?_ ?_ _); rotate_left; (first | exact Nat.le_refl _ | ((try dsimp only); (try simp only [World.size_alloc, grow_size, World.size_setCell]); omega)))))).only HOz.out (fun e => e (.inr rfl)))
                clear HKj HRj HOz
                generalize paintAll 4200 false P9 [(⟨512, r, (2 * (k : Int))⟩ : Hd)] = P8 at HKk
                have HKm : Hid (Hp W0 wk h ck q fq p pq g bq bf 4200 512 tu 512 31 64 (fun i => False ∨ i = cb) ⟨(2 * (k : Int)) + 1 + 1, [], frL 512 (512 + r), P8, lv⟩) := hid (by rw [show frL 512 (512 + r) = [⟨512, 512 + r⟩] from if_neg (by omega)]; exact HKk.out)
                have HA3 := hid (al_one ((2 * (k : Int)) + 1 + 1) [] P8 lv 512 (512 + r) a1 (by omega) (by rw [HRR.out]; omega))
                have HFR : Hid (alOk ⟨(2 * (k : Int)) + 1 + 1, [], frL 512 (512 + r), P8, lv⟩ a1 = true → idxL lv (alAt ⟨(2 * (k : Int)) + 1 + 1, [], frL 512 (512 + r), P8, lv⟩ a1) = none) := hid (fun _ => idxL_none.2 (fun z hz e => by
                  have := HLV.out z hz
                  rw [HA3.out.2.1] at e
                  omega))
                have HC3 : Hid (alC 31 ⟨(2 * (k : Int)) + 1 + 1, [], frL 512 (512 + r), P8, lv⟩ a1 = ⟨true, 512, 512 + mk, 512, 31, 0⟩) := hid (by rw [HA3.out.2.2.2.2, HMK.out])
                clear HKk
                have c0 : World.cell? wk ⟨cb, 0, none⟩ = some (.bool true) := by have := HRk.out.at_ 0 _ rfl; simpa using this
                have c1 : World.cell? wk ⟨cb, 1, none⟩ = some (.int .i64 512) := by have := HRk.out.at_ 1 _ rfl; simpa using this
                have c2 : World.cell? wk ⟨cb, 2, none⟩ = some (.int .i64 (512 + mk)) := by have := HRk.out.at_ 2 _ rfl; simpa using this
                have c3 : World.cell? wk ⟨cb, 3, none⟩ = some (.int .i64 512) := by have := HRk.out.at_ 3 _ rfl; simpa using this
                have c4 : World.cell? wk ⟨cb, 4, none⟩ = some (.int .i64 31) := by have := HRk.out.at_ 4 _ rfl; simpa using this
                have c5 : World.cell? wk ⟨cb, 5, none⟩ = some (.int .i64 0) := by have := HRk.out.at_ 5 _ rfl; simpa using this
                have cl := HRk.out.lt
                go_upto_region 34 with (go_at_call 15; refine (hAlloc W0 _ h ck q fq p pq g bq bf 4200 512 tu 512 31 64 (fun i => False ∨ i = cb) ⟨(2 * (k : Int)) + 1 + 1, [], frL 512 (512 + r), P8, lv⟩ (HKm.out.ext (by repeat (first | (with_reducible exact Ext.refl _) | (with_reducible refine Ext.undrew ?_) | (with_reducible refine Ext.grow ?_ _) | (with_reducible refine Ext.drew ?_) | (with_reducible refine Ext.drewN ?_ _) | (with_reducible refine Ext.alloc ?_ _) | (with_reducible assumption) | ((with_reducible refine Ext.setCell ?_ ?_ _); rotate_left; (first | exact Nat.le_refl _ | ((try dsimp only); (try simp only [World.size_alloc, grow_size, World.size_setCell]); omega)))))) a1 (by omega) (HT.out.ext (HWW.out.trans (HKm.out.base.trans (by repeat (first | (with_reducible exact Ext.refl _) | (with_reducible refine Ext.undrew ?_) | (with_reducible refine Ext.grow ?_ _) | (with_reducible refine Ext.drew ?_) | (with_reducible refine Ext.drewN ?_ _) | (with_reducible refine Ext.alloc ?_ _) | (with_reducible assumption) | ((with_reducible refine Ext.setCell ?_ ?_ _); rotate_left; (first | exact Nat.le_refl _ | ((try dsimp only); (try simp only [World.size_alloc, grow_size, World.size_setCell]); omega)))))))) HFR.out).mono ?_; rw [HC3.out, HA3.out.2.2.2.1, HA3.out.2.2.1]; (try dsimp only); rintro e wn ⟨rfl, HKn, HOz⟩)
                have HRn := hid (HRk.out.only HOz.out (fun e => e (.inr rfl)))
                clear c0 c1 c2 c3 c4 c5 cl
                have c0 : World.cell? wn ⟨cb, 0, none⟩ = some (.bool true) := by have := HRn.out.at_ 0 _ rfl; simpa using this
                have c1 : World.cell? wn ⟨cb, 1, none⟩ = some (.int .i64 512) := by have := HRn.out.at_ 1 _ rfl; simpa using this
                have c2 : World.cell? wn ⟨cb, 2, none⟩ = some (.int .i64 (512 + mk)) := by have := HRn.out.at_ 2 _ rfl; simpa using this
                have c3 : World.cell? wn ⟨cb, 3, none⟩ = some (.int .i64 512) := by have := HRn.out.at_ 3 _ rfl; simpa using this
                have c4 : World.cell? wn ⟨cb, 4, none⟩ = some (.int .i64 31) := by have := HRn.out.at_ 4 _ rfl; simpa using this
                have c5 : World.cell? wn ⟨cb, 5, none⟩ = some (.int .i64 0) := by have := HRn.out.at_ 5 _ rfl; simpa using this
                have cl := HRn.out.lt
                go_wp2
                go_ret
                exact ⟨rfl, HWW.out.trans (HKn.out.base.trans (by repeat (first | (with_reducible exact Ext.refl _) | (with_reducible refine Ext.undrew ?_) | (with_reducible refine Ext.grow ?_ _) | (with_reducible refine Ext.drew ?_) | (with_reducible refine Ext.drewN ?_ _) | (with_reducible refine Ext.alloc ?_ _) | (with_reducible assumption) | ((with_reducible refine Ext.setCell ?_ ?_ _); rotate_left; (first | exact Nat.le_refl _ | ((try dsimp only); (try simp only [World.size_alloc, grow_size, World.size_setCell]); omega))))))⟩
          · have hpm : (k : Int).tmod 2 = 1 := by rw [Int.tmod_eq_emod_of_nonneg (by omega)]; omega
            have HBG := hid (beg_nil (2 * (k : Int)) (frL (512 + r) tu) P0 [⟨512, mk, r⟩] 4200 (by unfold oddB; simp <;> omega))
            go_upto_region 20 with (go_at_call 13; refine (hBegin W0 _ h ck q fq p pq g bq bf 4200 512 tu 512 31 64 (fun i => False ∨ i = cb) (⟨2 * (k : Int), [], frL (512 + r) tu, P0, [⟨512, mk, r⟩]⟩ : HSt) (HK.out.ext (by repeat (first | (with_reducible exact Ext.refl _) | (with_reducible refine Ext.undrew ?_) | (with_reducible refine Ext.grow ?_ _) | (with_reducible refine Ext.drew ?_) | (with_reducible refine Ext.drewN ?_ _) | (with_reducible refine Ext.alloc ?_ _) | (with_reducible assumption) | ((with_reducible refine Ext.setCell ?_ ?_ _); rotate_left; (first | exact Nat.le_refl _ | ((try dsimp only); (try simp only [World.size_alloc, grow_size, World.size_setCell]); omega)))))) (by simp) (by dsimp only; omega)).mono ?_; rw [HBG.out]; rintro e wb ⟨rfl, HKb, HOz⟩)
            have HRb := hid ((HR.out.ext (by repeat (first | (with_reducible exact Ext.refl _) | (with_reducible refine Ext.undrew ?_) | (with_reducible refine Ext.grow ?_ _) | (with_reducible refine Ext.drew ?_) | (with_reducible refine Ext.drewN ?_ _) | (with_reducible refine Ext.alloc ?_ _) | (with_reducible assumption) | ((with_reducible refine Ext.setCell ?_ ?_ _); rotate_left; (first | exact Nat.le_refl _ | ((try dsimp only); (try simp only [World.size_alloc, grow_size, World.size_setCell]); omega)))))).only HOz.out (fun e => e (.inr rfl)))
            clear HK HR HOz
            have c0 : World.cell? wb ⟨cb, 0, none⟩ = some (.bool true) := by have := HRb.out.at_ 0 _ rfl; simpa using this
            have c1 : World.cell? wb ⟨cb, 1, none⟩ = some (.int .i64 512) := by have := HRb.out.at_ 1 _ rfl; simpa using this
            have c2 : World.cell? wb ⟨cb, 2, none⟩ = some (.int .i64 (512 + mk)) := by have := HRb.out.at_ 2 _ rfl; simpa using this
            have c3 : World.cell? wb ⟨cb, 3, none⟩ = some (.int .i64 512) := by have := HRb.out.at_ 3 _ rfl; simpa using this
            have c4 : World.cell? wb ⟨cb, 4, none⟩ = some (.int .i64 31) := by have := HRb.out.at_ 4 _ rfl; simpa using this
            have c5 : World.cell? wb ⟨cb, 5, none⟩ = some (.int .i64 0) := by have := HRb.out.at_ 5 _ rfl; simpa using this
            have cl := HRb.out.lt
            have HF : Hid (ofE (⟨(2 * (k : Int) + 1), [], frL (512 + r) tu, P0, [⟨512, mk, r⟩]⟩ : HSt).lv ⟨true, 512, 512 + mk, 512, 31, 0⟩ = 0 ∧ (⟨(2 * (k : Int) + 1), [], frL (512 + r) tu, P0, [⟨512, mk, r⟩]⟩ : HSt).free ⟨true, 512, 512 + mk, 512, 31, 0⟩ = (⟨(2 * (k : Int) + 1), [(⟨512, r, (2 * (k : Int) + 1)⟩ : Hd)], frL (512 + r) tu, P0, []⟩ : HSt)) := hid (again_free (2 * (k : Int) + 1) (frL (512 + r) tu) mk r)
            go_upto_region 21 with (go_at_call 12; refine (hFree W0 _ h ck q fq p pq g bq bf 4200 512 tu 512 31 64 (fun i => False ∨ i = cb) (⟨(2 * (k : Int) + 1), [], frL (512 + r) tu, P0, [⟨512, mk, r⟩]⟩ : HSt) (HKb.out.ext (by repeat (first | (with_reducible exact Ext.refl _) | (with_reducible refine Ext.undrew ?_) | (with_reducible refine Ext.grow ?_ _) | (with_reducible refine Ext.drew ?_) | (with_reducible refine Ext.drewN ?_ _) | (with_reducible refine Ext.alloc ?_ _) | (with_reducible assumption) | ((with_reducible refine Ext.setCell ?_ ?_ _); rotate_left; (first | exact Nat.le_refl _ | ((try dsimp only); (try simp only [World.size_alloc, grow_size, World.size_setCell]); omega)))))) true 512 (512 + mk) 512 31 0 (by omega) (by simp)).mono ?_; rw [HF.out.1, HF.out.2]; rintro e wf ⟨rfl, HKf, HOz⟩)
            have HRf := hid ((HRb.out.ext (by repeat (first | (with_reducible exact Ext.refl _) | (with_reducible refine Ext.undrew ?_) | (with_reducible refine Ext.grow ?_ _) | (with_reducible refine Ext.drew ?_) | (with_reducible refine Ext.drewN ?_ _) | (with_reducible refine Ext.alloc ?_ _) | (with_reducible assumption) | ((with_reducible refine Ext.setCell ?_ ?_ _); rotate_left; (first | exact Nat.le_refl _ | ((try dsimp only); (try simp only [World.size_alloc, grow_size, World.size_setCell]); omega)))))).only HOz.out (fun e => e (.inr rfl)))
            clear HKb HRb HOz
            clear c0 c1 c2 c3 c4 c5 cl
            go_wp2
            go_loopw [16] (fun cc wr => ∃ (n : Nat) (lo : Int) (lv : List Lv), cc = .int .i64 n ∧ 16 * (n : Int) ≤ lo - 512 ∧ (512 + r ≤ lo ∧ lo ≤ tu ∧ (tu - lo) % 16 = 0) ∧ Hid (Hp W0 wr h ck q fq p pq g bq bf 4200 512 tu 512 31 64 (fun i => False ∨ i = cb) (⟨(2 * (k : Int) + 1), [(⟨512, r, (2 * (k : Int) + 1)⟩ : Hd)], frL lo tu, P0, lv⟩ : HSt)) ∧ Hid (ApL lv (frL lo tu) ∧ ∀ z ∈ lv, 512 + r ≤ z.at_) ∧ Hid (Row wr cb 0 [.bool true, .int .i64 512, .int .i64 (512 + mk), .int .i64 512, .int .i64 31, .int .i64 0])) (fun cc _ => 300 - (intOf cc).toNat)
            case atStart => exact ⟨0, 512 + r, [], rfl, by omega, ⟨by omega, by omega, by omega⟩, HKf, hid ⟨fun z hz => (by cases hz), fun z hz => (by cases hz)⟩, HRf⟩
            case round =>
              clear HKf HRf
              obtain ⟨n, lo, lv, rfl, hn, ⟨hl0, hl1, hl2⟩, HK, HA, HR⟩ := hrel
              have HGD := hid (Hp_good HK.out)
              have HSM := hid (frL_sum lo tu)
              by_cases hlt : lo < tu
              · have hp0 : (0 : Int) < tu - lo := by omega
                have hn9 : n < 300 := by omega
                have HA1 := hid (al_one (2 * (k : Int) + 1) [(⟨512, r, (2 * (k : Int) + 1)⟩ : Hd)] P0 lv lo tu 0 (by decide) (by rw [show roundT 0 = 16 from rfl]; omega))
                have HFR : Hid (alOk (⟨(2 * (k : Int) + 1), [(⟨512, r, (2 * (k : Int) + 1)⟩ : Hd)], frL lo tu, P0, lv⟩ : HSt) 0 = true → idxL lv (alAt (⟨(2 * (k : Int) + 1), [(⟨512, r, (2 * (k : Int) + 1)⟩ : Hd)], frL lo tu, P0, lv⟩ : HSt) 0) = none) := hid (fun e => al_fresh (x := (⟨(2 * (k : Int) + 1), [(⟨512, r, (2 * (k : Int) + 1)⟩ : Hd)], frL lo tu, P0, lv⟩ : HSt)) HA.out.1 e)
                have HAP : Hid (ApL (lv ++ [⟨lo, max 0 1, roundT 0⟩]) (frL (lo + roundT 0) tu)) := hid (by
                  have := al_ap (x := (⟨(2 * (k : Int) + 1), [(⟨512, r, (2 * (k : Int) + 1)⟩ : Hd)], frL lo tu, P0, lv⟩ : HSt)) HGD.out.1 HA.out.1 0
                  rw [HA1.out.2.2.1] at this
                  exact this)
                go_upto_region 23 with (go_at_call 21; refine (hLeft W0 _ h ck q fq p pq g bq bf 4200 512 tu 512 31 64 (fun i => False ∨ i = cb) (⟨(2 * (k : Int) + 1), [(⟨512, r, (2 * (k : Int) + 1)⟩ : Hd)], frL lo tu, P0, lv⟩ : HSt) HK.out HGD.out.2.1).mono ?_; (try dsimp only); rw [HSM.out]; rintro e wl ⟨rfl, hxl⟩)
                have HKl := hid (HK.out.ext hxl)
                have HRl := hid (HR.out.ext hxl)
                clear HK HR hxl
                go_wp2_with (go_at_call 15; refine (hAlloc W0 _ h ck q fq p pq g bq bf 4200 512 tu 512 31 64 (fun i => False ∨ i = cb) (⟨(2 * (k : Int) + 1), [(⟨512, r, (2 * (k : Int) + 1)⟩ : Hd)], frL lo tu, P0, lv⟩ : HSt) (HKl.out.ext (by repeat (first | (with_reducible exact Ext.refl _) | (with_reducible refine Ext.undrew ?_) | (with_reducible refine Ext.grow ?_ _) | (with_reducible refine Ext.drew ?_) | (with_reducible refine Ext.drewN ?_ _) | (with_reducible refine Ext.alloc ?_ _) | (with_reducible assumption) | ((with_reducible refine Ext.setCell ?_ ?_ _); rotate_left; (first | exact Nat.le_refl _ | ((try dsimp only); (try simp only [World.size_alloc, grow_size, World.size_setCell]); omega)))))) 0 (by omega) (HT.out.ext (HWW.out.trans (HKl.out.base.trans (by repeat (first | (with_reducible exact Ext.refl _) | (with_reducible refine Ext.undrew ?_) | (with_reducible refine Ext.grow ?_ _) | (with_reducible refine Ext.drew ?_) | (with_reducible refine Ext.drewN ?_ _) | (with_reducible refine Ext.alloc ?_ _) | (with_reducible assumption) | ((with_reducible refine Ext.setCell ?_ ?_ _); rotate_left; (first | exact Nat.le_refl _ | ((try dsimp only); (try simp only [World.size_alloc, grow_size, World.size_setCell]); omega)))))))) HFR.out).mono ?_; rw [HA1.out.2.2.2.2, HA1.out.2.2.2.1, HA1.out.2.2.1]; (try dsimp only); rintro e wa ⟨rfl, HKa, HOz⟩)
                have HRa := hid (HRl.out.only HOz.out (fun e => e (.inr rfl)))
                go_roundw
                case rel => exact ⟨n + 1, lo + 16, _, by simp [go_sem], by omega, ⟨by omega, by omega, by omega⟩, hid (HKa.out.ext (by repeat (first | (with_reducible exact Ext.refl _) | (with_reducible refine Ext.undrew ?_) | (with_reducible refine Ext.grow ?_ _) | (with_reducible refine Ext.drew ?_) | (with_reducible refine Ext.drewN ?_ _) | (with_reducible refine Ext.alloc ?_ _) | (with_reducible assumption) | ((with_reducible refine Ext.setCell ?_ ?_ _); rotate_left; (first | exact Nat.le_refl _ | ((try dsimp only); (try simp only [World.size_alloc, grow_size, World.size_setCell]); omega)))))), hid ⟨HAP.out, fun z hz => by
                  rcases List.mem_append.1 hz with c | c
                  · exact HA.out.2 z c
                  · obtain rfl : z = ⟨lo, max 0 1, roundT 0⟩ := by simpa using c
                    exact hl0⟩, hid (HRa.out.ext (by repeat (first | (with_reducible exact Ext.refl _) | (with_reducible refine Ext.undrew ?_) | (with_reducible refine Ext.grow ?_ _) | (with_reducible refine Ext.drew ?_) | (with_reducible refine Ext.drewN ?_ _) | (with_reducible refine Ext.alloc ?_ _) | (with_reducible assumption) | ((with_reducible refine Ext.setCell ?_ ?_ _); rotate_left; (first | exact Nat.le_refl _ | ((try dsimp only); (try simp only [World.size_alloc, grow_size, World.size_setCell]); omega))))))⟩
                case measure => simp [intOf]; omega
              · have hfr : frL lo tu = [] := if_pos (by omega)
                have HK9 : Hid (Hp W0 wr h ck q fq p pq g bq bf 4200 512 tu 512 31 64 (fun i => False ∨ i = cb) (⟨(2 * (k : Int) + 1), [(⟨512, r, (2 * (k : Int) + 1)⟩ : Hd)], [], P0, lv⟩ : HSt)) := hid (by have := HK.out; rw [hfr] at this; exact this)
                have HLV : Hid (∀ z ∈ lv, 512 + r ≤ z.at_) := hid HA.out.2
                clear HK HA HGD HSM hfr
                go_upto_region 27 with (go_at_call 21; refine (hLeft W0 _ h ck q fq p pq g bq bf 4200 512 tu 512 31 64 (fun i => False ∨ i = cb) (⟨(2 * (k : Int) + 1), [(⟨512, r, (2 * (k : Int) + 1)⟩ : Hd)], [], P0, lv⟩ : HSt) HK9.out (by simp)).mono ?_; rw [show sumP ([] : List Pr) = 0 from rfl]; rintro e wl ⟨rfl, hxl⟩)
                have HKl := hid (HK9.out.ext hxl)
                have HRl := hid (HR.out.ext hxl)
                clear HK9 HR hxl
                have HAF := hid (al_out (x := (⟨(2 * (k : Int) + 1), [(⟨512, r, (2 * (k : Int) + 1)⟩ : Hd)], [], P0, lv⟩ : HSt)) (m := a1) (by omega) (al_none (by intro p hp; cases hp)))
                go_upto_region 28 with (go_at_call 15; refine (hAlloc W0 _ h ck q fq p pq g bq bf 4200 512 tu 512 31 64 (fun i => False ∨ i = cb) (⟨(2 * (k : Int) + 1), [(⟨512, r, (2 * (k : Int) + 1)⟩ : Hd)], [], P0, lv⟩ : HSt) (HKl.out.ext (by repeat (first | (with_reducible exact Ext.refl _) | (with_reducible refine Ext.undrew ?_) | (with_reducible refine Ext.grow ?_ _) | (with_reducible refine Ext.drew ?_) | (with_reducible refine Ext.drewN ?_ _) | (with_reducible refine Ext.alloc ?_ _) | (with_reducible assumption) | ((with_reducible refine Ext.setCell ?_ ?_ _); rotate_left; (first | exact Nat.le_refl _ | ((try dsimp only); (try simp only [World.size_alloc, grow_size, World.size_setCell]); omega)))))) a1 (by omega) (HT.out.ext (HWW.out.trans (HKl.out.base.trans (by repeat (first | (with_reducible exact Ext.refl _) | (with_reducible refine Ext.undrew ?_) | (with_reducible refine Ext.grow ?_ _) | (with_reducible refine Ext.drew ?_) | (with_reducible refine Ext.drewN ?_ _) | (with_reducible refine Ext.alloc ?_ _) | (with_reducible assumption) | ((with_reducible refine Ext.setCell ?_ ?_ _); rotate_left; (first | exact Nat.le_refl _ | ((try dsimp only); (try simp only [World.size_alloc, grow_size, World.size_setCell]); omega)))))))) HAF.out.2.2.2).mono ?_; rw [HAF.out.2.2.1, HAF.out.1, HAF.out.2.1]; (try dsimp only); rintro e wg ⟨rfl, HKg, HOz⟩)
                have HRg := hid ((HRl.out.ext (by repeat (first | (with_reducible exact Ext.refl _) | (with_reducible refine Ext.undrew ?_) | (with_reducible refine Ext.grow ?_ _) | (with_reducible refine Ext.drew ?_) | (with_reducible refine Ext.drewN ?_ _) | (with_reducible refine Ext.alloc ?_ _) | (with_reducible assumption) | ((with_reducible refine Ext.setCell ?_ ?_ _); rotate_left; (first | exact Nat.le_refl _ | ((try dsimp only); (try simp only [World.size_alloc, grow_size, World.size_setCell]); omega)))))).only HOz.out (fun e => e (.inr rfl)))
                clear HKl HRl HOz
                have HEN := hid (endd_not (2 * (k : Int) + 1) [] P0 lv 4200 512 tu (⟨512, r, (2 * (k : Int) + 1)⟩ : Hd) (by unfold oddB; simp <;> omega) (due_no _ _ _ (by omega) (by omega) (by omega)))
                go_upto_region 30 with (go_at_call 14; refine (hEnd W0 _ h ck q fq p pq g bq bf 4200 512 tu 512 31 64 (fun i => False ∨ i = cb) (⟨(2 * (k : Int) + 1), [(⟨512, r, (2 * (k : Int) + 1)⟩ : Hd)], [], P0, lv⟩ : HSt) (HKg.out.ext (by repeat (first | (with_reducible exact Ext.refl _) | (with_reducible refine Ext.undrew ?_) | (with_reducible refine Ext.grow ?_ _) | (with_reducible refine Ext.drew ?_) | (with_reducible refine Ext.drewN ?_ _) | (with_reducible refine Ext.alloc ?_ _) | (with_reducible assumption) | ((with_reducible refine Ext.setCell ?_ ?_ _); rotate_left; (first | exact Nat.le_refl _ | ((try dsimp only); (try simp only [World.size_alloc, grow_size, World.size_setCell]); omega)))))) (by simp) (by dsimp only; omega)).mono ?_; rw [HEN.out]; rintro e we ⟨rfl, HKe, HOz⟩)
                have HRe := hid ((HRg.out.ext (by repeat (first | (with_reducible exact Ext.refl _) | (with_reducible refine Ext.undrew ?_) | (with_reducible refine Ext.grow ?_ _) | (with_reducible refine Ext.drew ?_) | (with_reducible refine Ext.drewN ?_ _) | (with_reducible refine Ext.alloc ?_ _) | (with_reducible assumption) | ((with_reducible refine Ext.setCell ?_ ?_ _); rotate_left; (first | exact Nat.le_refl _ | ((try dsimp only); (try simp only [World.size_alloc, grow_size, World.size_setCell]); omega)))))).only HOz.out (fun e => e (.inr rfl)))
                clear HKg HRg HOz
                have HAF2 := hid (al_out (x := (⟨(2 * (k : Int) + 1 + 1), [(⟨512, r, (2 * (k : Int) + 1)⟩ : Hd)], [], P0, lv⟩ : HSt)) (m := a1) (by omega) (al_none (by intro p hp; cases hp)))
                go_upto_region 31 with (go_at_call 15; refine (hAlloc W0 _ h ck q fq p pq g bq bf 4200 512 tu 512 31 64 (fun i => False ∨ i = cb) (⟨(2 * (k : Int) + 1 + 1), [(⟨512, r, (2 * (k : Int) + 1)⟩ : Hd)], [], P0, lv⟩ : HSt) (HKe.out.ext (by repeat (first | (with_reducible exact Ext.refl _) | (with_reducible refine Ext.undrew ?_) | (with_reducible refine Ext.grow ?_ _) | (with_reducible refine Ext.drew ?_) | (with_reducible refine Ext.drewN ?_ _) | (with_reducible refine Ext.alloc ?_ _) | (with_reducible assumption) | ((with_reducible refine Ext.setCell ?_ ?_ _); rotate_left; (first | exact Nat.le_refl _ | ((try dsimp only); (try simp only [World.size_alloc, grow_size, World.size_setCell]); omega)))))) a1 (by omega) (HT.out.ext (HWW.out.trans (HKe.out.base.trans (by repeat (first | (with_reducible exact Ext.refl _) | (with_reducible refine Ext.undrew ?_) | (with_reducible refine Ext.grow ?_ _) | (with_reducible refine Ext.drew ?_) | (with_reducible refine Ext.drewN ?_ _) | (with_reducible refine Ext.alloc ?_ _) | (with_reducible assumption) | ((with_reducible refine Ext.setCell ?_ ?_ _); rotate_left; (first | exact Nat.le_refl _ | ((try dsimp only); (try simp only [World.size_alloc, grow_size, World.size_setCell]); omega)))))))) HAF2.out.2.2.2).mono ?_; rw [HAF2.out.2.2.1, HAF2.out.1, HAF2.out.2.1]; (try dsimp only); rintro e wi ⟨rfl, HKi, HOz⟩)
                have HRi := hid ((HRe.out.ext (by repeat (first | (with_reducible exact Ext.refl _) | (with_reducible refine Ext.undrew ?_) | (with_reducible refine Ext.grow ?_ _) | (with_reducible refine Ext.drew ?_) | (with_reducible refine Ext.drewN ?_ _) | (with_reducible refine Ext.alloc ?_ _) | (with_reducible assumption) | ((with_reducible refine Ext.setCell ?_ ?_ _); rotate_left; (first | exact Nat.le_refl _ | ((try dsimp only); (try simp only [World.size_alloc, grow_size, World.size_setCell]); omega)))))).only HOz.out (fun e => e (.inr rfl)))
                clear HKe HRe HOz
                have HBG2 := hid (beg_one (2 * (k : Int) + 1 + 1) [] P0 lv 4200 (⟨512, r, (2 * (k : Int) + 1)⟩ : Hd) (by unfold oddB; simp <;> omega))
                go_upto_region 32 with (go_at_call 13; refine (hBegin W0 _ h ck q fq p pq g bq bf 4200 512 tu 512 31 64 (fun i => False ∨ i = cb) (⟨(2 * (k : Int) + 1 + 1), [(⟨512, r, (2 * (k : Int) + 1)⟩ : Hd)], [], P0, lv⟩ : HSt) (HKi.out.ext (by repeat (first | (with_reducible exact Ext.refl _) | (with_reducible refine Ext.undrew ?_) | (with_reducible refine Ext.grow ?_ _) | (with_reducible refine Ext.drew ?_) | (with_reducible refine Ext.drewN ?_ _) | (with_reducible refine Ext.alloc ?_ _) | (with_reducible assumption) | ((with_reducible refine Ext.setCell ?_ ?_ _); rotate_left; (first | exact Nat.le_refl _ | ((try dsimp only); (try simp only [World.size_alloc, grow_size, World.size_setCell]); omega)))))) (by simp) (by dsimp only; omega)).mono ?_; rw [HBG2.out]; rintro e wj ⟨rfl, HKj, HOz⟩)
                have HRj := hid ((HRi.out.ext (by repeat (first | (with_reducible exact Ext.refl _) | (with_reducible refine Ext.undrew ?_) | (with_reducible refine Ext.grow ?_ _) | (with_reducible refine Ext.drew ?_) | (with_reducible refine Ext.drewN ?_ _) | (with_reducible refine Ext.alloc ?_ _) | (with_reducible assumption) | ((with_reducible refine Ext.setCell ?_ ?_ _); rotate_left; (first | exact Nat.le_refl _ | ((try dsimp only); (try simp only [World.size_alloc, grow_size, World.size_setCell]); omega)))))).only HOz.out (fun e => e (.inr rfl)))
                clear HKi HRi HOz
                generalize paintAll 4200 true P0 [(⟨512, r, (2 * (k : Int) + 1)⟩ : Hd)] = P9 at HKj
                have HEN2 := hid (endd_one ((2 * (k : Int) + 1 + 1) + 1) P9 lv 4200 512 tu (⟨512, r, (2 * (k : Int) + 1)⟩ : Hd) (by unfold oddB; simp <;> omega) (due_odd _ _ _ (by omega) (by omega) (by omega)) HGC.out)
                go_upto_region 33 with (go_at_call 14; refine (hEnd W0 _ h ck q fq p pq g bq bf 4200 512 tu 512 31 64 (fun i => False ∨ i = cb) (⟨(2 * (k : Int) + 1 + 1) + 1, [(⟨512, r, (2 * (k : Int) + 1)⟩ : Hd)], [], P9, lv⟩ : HSt) (HKj.out.ext (by repeat (first | (with_reducible exact Ext.refl _) | (with_reducible refine Ext.undrew ?_) | (with_reducible refine Ext.grow ?_ _) | (with_reducible refine Ext.drew ?_) | (with_reducible refine Ext.drewN ?_ _) | (with_reducible refine Ext.alloc ?_ _) | (with_reducible assumption) | ((with_reducible refine Ext.setCell ?_ ?_ _); rotate_left; (first | exact Nat.le_refl _ | ((try dsimp only); (try simp only [World.size_alloc, grow_size, World.size_setCell]); omega)))))) (by simp) (by dsimp only; omega)).mono ?_; rw [HEN2.out]; rintro e wk ⟨rfl, HKk, HOz⟩)
                have HRk := hid ((HRj.out.ext (by repeat (first | (with_reducible exact Ext.refl _) | (with_reducible refine Ext.undrew ?_) | (with_reducible refine Ext.grow ?_ _) | (with_reducible refine Ext.drew ?_) | (with_reducible refine Ext.drewN ?_ _) | (with_reducible refine Ext.alloc ?_ _) | (with_reducible assumption) | ((with_reducible refine Ext.setCell ?_ ?_ _); rotate_left; (first | exact Nat.le_refl _ | ((try dsimp only); (try simp only [World.size_alloc, grow_size, World.size_setCell]); omega)))))).only HOz.out (fun e => e (.inr rfl)))
                clear HKj HRj HOz
                generalize paintAll 4200 false P9 [(⟨512, r, (2 * (k : Int) + 1)⟩ : Hd)] = P8 at HKk
                have HKm : Hid (Hp W0 wk h ck q fq p pq g bq bf 4200 512 tu 512 31 64 (fun i => False ∨ i = cb) ⟨(2 * (k : Int) + 1 + 1) + 1 + 1, [], frL 512 (512 + r), P8, lv⟩) := hid (by rw [show frL 512 (512 + r) = [⟨512, 512 + r⟩] from if_neg (by omega)]; exact HKk.out)
                have HA3 := hid (al_one ((2 * (k : Int) + 1 + 1) + 1 + 1) [] P8 lv 512 (512 + r) a1 (by omega) (by rw [HRR.out]; omega))
                have HFR : Hid (alOk ⟨(2 * (k : Int) + 1 + 1) + 1 + 1, [], frL 512 (512 + r), P8, lv⟩ a1 = true → idxL lv (alAt ⟨(2 * (k : Int) + 1 + 1) + 1 + 1, [], frL 512 (512 + r), P8, lv⟩ a1) = none) := hid (fun _ => idxL_none.2 (fun z hz e => by
                  have := HLV.out z hz
                  rw [HA3.out.2.1] at e
                  omega))
                have HC3 : Hid (alC 31 ⟨(2 * (k : Int) + 1 + 1) + 1 + 1, [], frL 512 (512 + r), P8, lv⟩ a1 = ⟨true, 512, 512 + mk, 512, 31, 0⟩) := hid (by rw [HA3.out.2.2.2.2, HMK.out])
                clear HKk
                have c0 : World.cell? wk ⟨cb, 0, none⟩ = some (.bool true) := by have := HRk.out.at_ 0 _ rfl; simpa using this
                have c1 : World.cell? wk ⟨cb, 1, none⟩ = some (.int .i64 512) := by have := HRk.out.at_ 1 _ rfl; simpa using this
                have c2 : World.cell? wk ⟨cb, 2, none⟩ = some (.int .i64 (512 + mk)) := by have := HRk.out.at_ 2 _ rfl; simpa using this
                have c3 : World.cell? wk ⟨cb, 3, none⟩ = some (.int .i64 512) := by have := HRk.out.at_ 3 _ rfl; simpa using this
                have c4 : World.cell? wk ⟨cb, 4, none⟩ = some (.int .i64 31) := by have := HRk.out.at_ 4 _ rfl; simpa using this
                have c5 : World.cell? wk ⟨cb, 5, none⟩ = some (.int .i64 0) := by have := HRk.out.at_ 5 _ rfl; simpa using this
                have cl := HRk.out.lt
                go_upto_region 34 with (go_at_call 15; refine (hAlloc W0 _ h ck q fq p pq g bq bf 4200 512 tu 512 31 64 (fun i => False ∨ i = cb) ⟨(2 * (k : Int) + 1 + 1) + 1 + 1, [], frL 512 (512 + r), P8, lv⟩ (HKm.out.ext (by repeat (first | (with_reducible exact Ext.refl _) | (with_reducible refine Ext.undrew ?_) | (with_reducible refine Ext.grow ?_ _) | (with_reducible refine Ext.drew ?_) | (with_reducible refine Ext.drewN ?_ _) | (with_reducible refine Ext.alloc ?_ _) | (with_reducible assumption) | ((with_reducible refine Ext.setCell ?_ ?_ _); rotate_left; (first | exact Nat.le_refl _ | ((try dsimp only); (try simp only [World.size_alloc, grow_size, World.size_setCell]); omega)))))) a1 (by omega) (HT.out.ext (HWW.out.trans (HKm.out.base.trans (by repeat (first | (with_reducible exact Ext.refl _) | (with_reducible refine Ext.undrew ?_) | (with_reducible refine Ext.grow ?_ _) | (with_reducible refine Ext.drew ?_) | (with_reducible refine Ext.drewN ?_ _) | (with_reducible refine Ext.alloc ?_ _) | (with_reducible assumption) | ((with_reducible refine Ext.setCell ?_ ?_ _); rotate_left; (first | exact Nat.le_refl _ | ((try dsimp only); (try simp only [World.size_alloc, grow_size, World.size_setCell]); omega)))))))) HFR.out).mono ?_; rw [HC3.out, HA3.out.2.2.2.1, HA3.out.2.2.1]; (try dsimp only); rintro e wn ⟨rfl, HKn, HOz⟩)
                have HRn := hid (HRk.out.only HOz.out (fun e => e (.inr rfl)))
                clear c0 c1 c2 c3 c4 c5 cl
                have c0 : World.cell? wn ⟨cb, 0, none⟩ = some (.bool true) := by have := HRn.out.at_ 0 _ rfl; simpa using this
                have c1 : World.cell? wn ⟨cb, 1, none⟩ = some (.int .i64 512) := by have := HRn.out.at_ 1 _ rfl; simpa using this
                have c2 : World.cell? wn ⟨cb, 2, none⟩ = some (.int .i64 (512 + mk)) := by have := HRn.out.at_ 2 _ rfl; simpa using this
                have c3 : World.cell? wn ⟨cb, 3, none⟩ = some (.int .i64 512) := by have := HRn.out.at_ 3 _ rfl; simpa using this
                have c4 : World.cell? wn ⟨cb, 4, none⟩ = some (.int .i64 31) := by have := HRn.out.at_ 4 _ rfl; simpa using this
                have c5 : World.cell? wn ⟨cb, 5, none⟩ = some (.int .i64 0) := by have := HRn.out.at_ 5 _ rfl; simpa using this
                have cl := HRn.out.lt
                go_wp2
                go_ret
                exact ⟨rfl, HWW.out.trans (HKn.out.base.trans (by repeat (first | (with_reducible exact Ext.refl _) | (with_reducible refine Ext.undrew ?_) | (with_reducible refine Ext.grow ?_ _) | (with_reducible refine Ext.drew ?_) | (with_reducible refine Ext.drewN ?_ _) | (with_reducible refine Ext.alloc ?_ _) | (with_reducible assumption) | ((with_reducible refine Ext.setCell ?_ ?_ _); rotate_left; (first | exact Nat.le_refl _ | ((try dsimp only); (try simp only [World.size_alloc, grow_size, World.size_setCell]); omega))))))⟩
    · skip
      go_enter Tryd.func6, Tryd.ntmps6
      go_upto_region 2 with (go_at_call 8; refine (head_ _ HT.out).mono ?_; rintro e W0 ⟨rfl, hxh⟩)
      have HWW : Hid (Ext w W0) := hid hxh
      go_upto_region 3 with (go_at_call 9; refine (new_ 4200 _ (by decide) (by decide)).mono ?_; rintro e w1 ⟨p, pq, rfl, hs1, hx1, hp1, hpq1⟩)
      have HS0 := hid hs1
      have HB1 := hid hx1
      have HPQ := hid hpq1
      clear hs1 hx1 hp1 hpq1 hxh
      go_upto_region 7 with (first | (go_at_call 10; refine (root_ 512 a0 _ (by decide) (by omega)).mono ?_; rw [HTU.out]; rintro e w2 ⟨rfl, hx2⟩; have HB := hid (HB1.out.trans hx2); have HS := hid (HS0.out.ext hx2); clear hx2) | (go_at_call 11; refine (hNew W0 _ p pq 4200 512 tu 31 64 P0 HB.out HS.out HPQ.out HRI.out HGG.out (by decide) (fun _ => False) (fun _ h => h.elim)).mono ?_; rintro e w3 ⟨h, ck, q, fq, g, bq, bf, rfl, HK3, HX3⟩))
      clear HS HB HB1 HS0 HX3
      have HAF := hid (al_out (x := ⟨0, [], [⟨512, tu⟩], P0, []⟩) (m := a1) (by omega) (al_none (by intro p hp; obtain rfl : p = ⟨512, tu⟩ := (by simpa using hp); show tu - 512 < roundT a1; omega)))
      go_wp2_with (go_at_call 15; refine (hAlloc W0 _ h ck q fq p pq g bq bf 4200 512 tu 512 31 64 (fun _ => False) ⟨0, [], [⟨512, tu⟩], P0, []⟩ (HK3.out.ext (by repeat (first | (with_reducible exact Ext.refl _) | (with_reducible refine Ext.undrew ?_) | (with_reducible refine Ext.grow ?_ _) | (with_reducible refine Ext.drew ?_) | (with_reducible refine Ext.drewN ?_ _) | (with_reducible refine Ext.alloc ?_ _) | (with_reducible assumption) | ((with_reducible refine Ext.setCell ?_ ?_ _); rotate_left; (first | exact Nat.le_refl _ | ((try dsimp only); (try simp only [World.size_alloc, grow_size, World.size_setCell]); omega)))))) a1 (by omega) (HT.out.ext (HWW.out.trans (HK3.out.base.trans (by repeat (first | (with_reducible exact Ext.refl _) | (with_reducible refine Ext.undrew ?_) | (with_reducible refine Ext.grow ?_ _) | (with_reducible refine Ext.drew ?_) | (with_reducible refine Ext.drewN ?_ _) | (with_reducible refine Ext.alloc ?_ _) | (with_reducible assumption) | ((with_reducible refine Ext.setCell ?_ ?_ _); rotate_left; (first | exact Nat.le_refl _ | ((try dsimp only); (try simp only [World.size_alloc, grow_size, World.size_setCell]); omega)))))))) HAF.out.2.2.2).mono ?_; rw [HAF.out.2.2.1, HAF.out.1, HAF.out.2.1]; (try dsimp only); rintro e w5 ⟨rfl, HK5, HOz⟩)
      go_ret
      exact ⟨rfl, HWW.out.trans (HK5.out.base.trans (by repeat (first | (with_reducible exact Ext.refl _) | (with_reducible refine Ext.undrew ?_) | (with_reducible refine Ext.grow ?_ _) | (with_reducible refine Ext.drew ?_) | (with_reducible refine Ext.drewN ?_ _) | (with_reducible refine Ext.alloc ?_ _) | (with_reducible assumption) | ((with_reducible refine Ext.setCell ?_ ?_ _); rotate_left; (first | exact Nat.le_refl _ | ((try dsimp only); (try simp only [World.size_alloc, grow_size, World.size_setCell]); omega))))))⟩
end heapAgain

end Go.Proofs.YtoeiemeffiiidaaDoor
