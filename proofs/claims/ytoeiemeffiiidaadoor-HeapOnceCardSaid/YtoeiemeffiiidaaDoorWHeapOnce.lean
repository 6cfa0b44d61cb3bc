/- The walk of HeapOnce. -/
import Derived.Test.YtoeiemeffiiidaaDoorHepJ
namespace Go.Proofs.YtoeiemeffiiidaaDoor
set_option linter.unusedSimpArgs false
set_option linter.unusedVariables false
open Go.RowKit

open Go.Deep Go.RowKit
namespace heapOnce
set_option linter.unusedSimpArgs false
set_option linter.unusedVariables false
theorem wfi64 {n : Int} (h : (Lit.int .i64 n).wf = true) : -9223372036854775808 ≤ n ∧ n ≤ 9223372036854775807 := by
  simpa [Lit.wf, IntKind.min, IntKind.max, IntKind.signed, IntKind.bits] using h
theorem once_al (tu m : Int) (htu : 832 ≤ tu) (hm : 0 ≤ m ∧ m ≤ 255) : ∃ lf1, alC 31 (⟨0, [], [⟨512, tu⟩], P0, []⟩ : HSt) m = ⟨true, 512, 512 + max m 1, 512, 31, 0⟩ ∧ alE (⟨0, [], [⟨512, tu⟩], P0, []⟩ : HSt) m = 0 ∧ (⟨0, [], [⟨512, tu⟩], P0, []⟩ : HSt).al m = ⟨0, [], lf1, P0, [⟨512, max m 1, roundT m⟩]⟩ := by
  have hb : roundB m = true := by unfold roundB; simp; omega
  obtain ⟨p1, p2, p3, p4, p5⟩ := roundT_bd hm.1 (show m ≤ 65536 by omega)
  have hg : g16 (roundT m) = true := by
    unfold g16
    exact decide_eq_true (by rw [Int.tmod_eq_emod_of_nonneg (by omega)]; exact p4)
  have hr : roundT m ≤ 320 := by
    unfold roundT
    repeat' split
    all_goals omega
  have hf : ([⟨512, tu⟩] : List Pr).findIdx? (fits (roundT m)) = some 0 := by
    have : fits (roundT m) ⟨512, tu⟩ = true := by unfold fits Pr.len; simp only; exact decide_eq_true (by omega)
    simp [List.findIdx?_cons, this]
  have ht := takeF_yes (n := roundT m) (l := [⟨512, tu⟩]) (show 1 ≤ roundT m by omega) hg hf (by simp)
  have h1 : alOk (⟨0, [], [⟨512, tu⟩], P0, []⟩ : HSt) m = true := by unfold alOk; simp only; rw [hb, ht]; rfl
  have h2 : alAt (⟨0, [], [⟨512, tu⟩], P0, []⟩ : HSt) m = 512 := by unfold alAt; simp only; rw [ht]; rfl
  refine ⟨(takeF (roundT m) [⟨512, tu⟩]).2, ?_, ?_, ?_⟩
  · unfold alC
    rw [if_pos h1, h2]
  · unfold alE
    simp only
    rw [if_pos hb, ht]
    rfl
  · unfold HSt.al
    rw [if_pos h1, h2]
    rfl
theorem once_of (k r : Int) (c : Cap) : ofE [⟨512, k, r⟩] c = 0 ↔ (c.tag = true ∧ c.type = 0 ∧ c.base = 512 ∧ c.top = 512 + k) := by
  unfold ofE idxL
  obtain ⟨t, b, tp, a, pm, ty⟩ := c
  cases t with
  | false => simp
  | true =>
    by_cases h1 : ty = 0
    · by_cases h2 : b = 512
      · subst h2
        by_cases h3 : tp = 512 + k
        · simp [List.findIdx?_cons, h1, h3]
        · simp [List.findIdx?_cons, h1, h3]
      · have h4 : ((512 : Int) == b) = false := by simpa using fun e => h2 e.symm
        simp [List.findIdx?_cons, h1, h2, h4]
    · simp [h1]
theorem once_free0 (k r : Int) (lf1 : List Pr) (P : Nat → Bool) (c : Cap) (h : ¬ ofE [⟨512, k, r⟩] c = 0) : (⟨0, [], lf1, P, [⟨512, k, r⟩]⟩ : HSt).free c = ⟨0, [], lf1, P, [⟨512, k, r⟩]⟩ := by
  unfold HSt.free
  rw [if_neg h]
theorem once_free1 (k r : Int) (lf1 : List Pr) (P : Nat → Bool) (a pm : Int) : ofE [⟨512, k, r⟩] ⟨true, 512, 512 + k, a, pm, 0⟩ = 0 ∧ (⟨0, [], lf1, P, [⟨512, k, r⟩]⟩ : HSt).free ⟨true, 512, 512 + k, a, pm, 0⟩ = ⟨0, [⟨512, r, 0⟩], lf1, P, []⟩ := by
  have h := (once_of k r ⟨true, 512, 512 + k, a, pm, 0⟩).2 ⟨rfl, rfl, rfl, rfl⟩
  refine ⟨h, ?_⟩
  unfold HSt.free
  simp only
  rw [if_pos h]
  unfold ofB
  rw [if_pos h]
  rfl
theorem once_free2 (r : Int) (lf1 : List Pr) (P : Nat → Bool) (b tp a pm : Int) : ofE [] ⟨true, b, tp, a, pm, 0⟩ = 3 ∧ (⟨0, [⟨512, r, 0⟩], lf1, P, []⟩ : HSt).free ⟨true, b, tp, a, pm, 0⟩ = ⟨0, [⟨512, r, 0⟩], lf1, P, []⟩ := ⟨rfl, rfl⟩
theorem once_y (k r a3 : Int) (h0 : 0 ≤ a3) : ofE [⟨512, k, r⟩] ⟨true, 512, 512 + k - 1 - a3, 512, 31, 0⟩ = 43 := by
  unfold ofE idxL
  simp [List.findIdx?_cons]
  omega
theorem once_z1 (k r : Int) : ofE [⟨512, k, r⟩] ⟨true, 528, 512 + k, 512, 31, 0⟩ = 3 := rfl
theorem hp_foreign {w W W1 : World} {h ck q fq p pq g bq bf n : Nat} {fr tu ra rp full : Int} {x : HSt} {T : Nat → Prop} (k : Hp w W h ck q fq p pq g bq bf n fr tu ra rp full T x) (b : Nat) (hb : T b) (hl : w.heap.size ≤ b) (y : Only (· = b) W W1) : Hp w W1 h ck q fq p pq g bq bf n fr tu ra rp full T x := by
  obtain ⟨vq, vf, k, t⟩ := k
  obtain ⟨t1, t2, t3, t4⟩ := t b hb
  have hE : Ext w W1 := k.base.only y (by rintro i rfl; exact hl)
  have hEG : EG w W1 fq bf fr tu vf x.lf := EG.only (S := (· = b)) k.ex y hE (by rintro rfl; exact t2 (by simp)) (by rintro g e rfl; exact t4 e)
  exact ⟨vq, vf, k.only y hE (by rintro i rfl; exact ⟨t2, t3, t4⟩) hEG, t.same y.size⟩
theorem row_atc {w : World} {b : Nat} {vs : List Value} (h : Row w b 0 vs) (j : Nat) (hj : j < vs.length) (u : Value) : Row (w.setCell ⟨b, j, none⟩ u) b 0 (vs.set j u) := by
  have h0 : w.cell? ⟨b, j, none⟩ = some vs[j] := by have := h.at_ j vs[j] (by simp); simpa using this
  refine ⟨by rw [World.size_setCell]; exact h.lt, fun i v hi => ?_, fun i hi => ?_⟩
  · by_cases e : i = j
    · subst e
      rw [List.getElem?_set_self hj] at hi
      obtain rfl : u = v := by simpa using hi
      rw [Nat.zero_add]
      apply World.cell?_setCell_same
      exact h0
    · rw [List.getElem?_set_ne (by omega)] at hi
      rw [Nat.zero_add, World.cell?_setCell_other (h := show (⟨b, j, none⟩ : Addr) ≠ ⟨b, i, none⟩ from fun c => e (by injection c with c1 c2; exact c2.symm))]
      simpa using h.at_ i v hi
  · rw [World.frozen?_setCell]
    exact h.free i (by simpa using hi)
theorem once_z2 (k r : Int) : ofE [⟨512, k, r⟩] ⟨false, 512, 512 + k, 512, 31, 0⟩ = 41 := rfl
set_option maxRecDepth 100000 in
set_option maxHeartbeats 12000000 in
theorem walk (a0 : Int) (a1 : Int) (t2 : Bool) (b2 tp2 at2 pm2 ty2 : Int) (a3 : Int) (w : World) (w0 : (Lit.int .u8 a0).wf = true) (w1 : (Lit.int .u8 a1).wf = true) (wb2 : (Lit.int .i64 b2).wf = true) (wtp2 : (Lit.int .i64 tp2).wf = true) (wat2 : (Lit.int .i64 at2).wf = true) (wpm2 : (Lit.int .i64 pm2).wf = true) (wty2 : (Lit.int .i64 ty2).wf = true) (w3 : (Lit.int .u8 a3).wf = true) (hTab : Tab w) :
    Calls Tryd.prog 5 #[.int .u8 a0, .int .u8 a1, .agg #[.bool t2, .int .i64 b2, .int .i64 tp2, .int .i64 at2, .int .i64 pm2, .int .i64 ty2], .int .u8 a3] w fun e w' => e = .returned (.bool true) ∧ Ext w w' := by
  obtain ⟨a0l, a0h⟩ := wfu8 w0
  obtain ⟨a1l, a1h⟩ := wfu8 w1
  obtain ⟨a3l, a3h⟩ := wfu8 w3
  have HWB : Hid (-9223372036854775808 ≤ b2 ∧ b2 ≤ 9223372036854775807) := hid (wfi64 wb2)
  have hwt := wfi64 wtp2
  have HT := hid hTab
  obtain ⟨tu, htu⟩ : ∃ z : Int, 512 + 16 * (20 + a0) = z := ⟨_, rfl⟩
  have HTU := hid htu
  have HTB : Hid (832 ≤ tu ∧ tu ≤ 4912 ∧ tu % 16 = 0) := hid (by omega)
  have HRI : Hid (rightC ⟨true, 512, tu, 512, 31, 0⟩ = true) := hid (by
    have := HTB.out
    simp [rightC, rightB, holdsB]
    omega)
  have HGG : Hid ([(512 : Int), tu].all g16 = true ∧ (0 : Int) ≤ 512 ∧ (512 : Int) < tu ∧ tu ≤ 16777216) := hid (by
    have := HTB.out
    refine ⟨?_, by omega, by omega, by omega⟩
    have e1 : g16 512 = true := by decide
    have e2 : g16 tu = true := by
      unfold g16
      exact decide_eq_true (by rw [Int.tmod_eq_emod_of_nonneg (by omega)]; exact this.2.2)
    simp [e1, e2])
  obtain ⟨lf1, l1, l2, l3⟩ := once_al tu a1 (by have := HTB.out; omega) ⟨a1l, a1h⟩
  obtain ⟨k, hk⟩ : ∃ z, max a1 1 = z := ⟨_, rfl⟩
  obtain ⟨r, hr⟩ : ∃ z, roundT a1 = z := ⟨_, rfl⟩
  rw [hk] at l1 l3
  rw [hr] at l3
  have HAL := hid (And.intro l1 (And.intro l2 l3))
  have hk0 : 1 ≤ k := by omega
  have hk1 : k ≤ 255 := by omega
  clear l1 l2 l3 hk hr htu w0 w1 w3 wb2 wtp2 wat2 wpm2 wty2 hTab
  go_enter Tryd.func5, Tryd.ntmps5
  go_upto_region 1 with (fail)
  refine wp_gen (fun V => Hid (Row V w.heap.size 0 [.bool t2, .int .i64 b2, .int .i64 tp2, .int .i64 at2, .int .i64 pm2, .int .i64 ty2]) ∧ Hid (Ext w V)) ⟨hid (Row.new w _ _), hid (by repeat (first | (with_reducible exact Ext.refl _) | (with_reducible refine Ext.undrew ?_) | (with_reducible refine Ext.grow ?_ _) | (with_reducible refine Ext.drew ?_) | (with_reducible refine Ext.drewN ?_ _) | (with_reducible refine Ext.alloc ?_ _) | (with_reducible assumption) | ((with_reducible refine Ext.setCell ?_ ?_ _); rotate_left; (first | exact Nat.le_refl _ | ((try dsimp only); (try simp only [World.size_alloc, grow_size, World.size_setCell]); omega)))))⟩ ?_
  rintro V0 ⟨HC0, HX0⟩
  generalize w.heap.size = cb at HC0 ⊢
  go_upto_region 2 with (go_at_call 8; refine (head_ _ (HT.out.ext HX0.out)).mono ?_; rintro e W0 ⟨rfl, hxh⟩)
  have HWW : Hid (Ext w W0) := hid (HX0.out.trans hxh)
  have HCB := hid (HC0.out.ext hxh)
  clear HC0 HX0 hxh
  go_upto_region 3 with (go_at_call 9; refine (new_ 400 _ (by decide) (by decide)).mono ?_; rintro e w1 ⟨p, pq, rfl, hs1, hx1, hp1, hpq1⟩)
  have HS0 := hid hs1
  have HB1 := hid hx1
  have HPQ := hid hpq1
  have HC1 := hid (HCB.out.ext hx1)
  have HCN : Hid (¬ cb = p ∧ ¬ cb = pq) := hid (by have := HCB.out.lt; omega)
  clear hs1 hx1 hp1 hpq1
  go_upto_region 6 with (first | (go_at_call 10; refine (root_ 512 (20 + a0) _ (by decide) (by omega)).mono ?_; rw [HTU.out]; rintro e w2 ⟨rfl, hx2⟩; have HB := hid (HB1.out.trans hx2); have HS := hid (HS0.out.ext hx2); have HC2 := hid (HC1.out.ext hx2); clear hx2) | (go_at_call 11; refine (hNew W0 _ p pq 400 512 tu 31 64 P0 HB.out HS.out HPQ.out HRI.out HGG.out (by decide) (fun i => i = cb) (by rintro i rfl; have := HC2.out.lt; exact ⟨this, HCN.out.1, HCN.out.2⟩)).mono ?_; rintro e w3 ⟨h, ck, q, fq, g, bq, bf, rfl, HK3, HX3⟩))
  have HC3 := hid (HC2.out.ext HX3.out)
  clear HS HS0 HB HB1 HC1 HC2 HX3 HCB
  go_upto_region 9 with (go_at_call 15; refine (hAlloc W0 _ h ck q fq p pq g bq bf 400 512 tu 512 31 64 (fun i => i = cb) (⟨0, [], [⟨512, tu⟩], P0, []⟩ : HSt) HK3.out a1 (by omega) (HT.out.ext (HWW.out.trans HK3.out.base)) (fun _ => rfl)).mono ?_; rw [HAL.out.1, HAL.out.2.1, HAL.out.2.2]; (try dsimp only); rintro e w5 ⟨rfl, HKz, HOz⟩)
  refine wp_gen (fun V => Hid (Hp W0 V h ck q fq p pq g bq bf 400 512 tu 512 31 64 (fun i => i = cb ∨ i = w5.heap.size) (⟨0, [], lf1, P0, [⟨512, k, r⟩]⟩ : HSt)) ∧ Hid (Row V w5.heap.size 0 [.bool true, .int .i64 512, .int .i64 (512 + k), .int .i64 512, .int .i64 31, .int .i64 0]) ∧ Hid (Row V cb 0 [.bool t2, .int .i64 b2, .int .i64 tp2, .int .i64 at2, .int .i64 pm2, .int .i64 ty2])) ⟨hid (HKz.out.box _), hid (Row.new w5 _ _), hid ((HC3.out.only HOz.out (fun e => e rfl)).ext (Ext.alloc (Ext.refl _) _))⟩ ?_
  clear HKz HOz HK3 HC3
  rintro W5 ⟨HK5, HX5, HC5⟩
  generalize w5.heap.size = xb at HK5 HX5 ⊢
  have x0 : World.cell? W5 ⟨xb, 0, none⟩ = some (.bool true) := by have := HX5.out.at_ 0 _ rfl; simpa using this
  have x1 : World.cell? W5 ⟨xb, 1, none⟩ = some (.int .i64 512) := by have := HX5.out.at_ 1 _ rfl; simpa using this
  have x2 : World.cell? W5 ⟨xb, 2, none⟩ = some (.int .i64 (512 + k)) := by have := HX5.out.at_ 2 _ rfl; simpa using this
  have x3 : World.cell? W5 ⟨xb, 3, none⟩ = some (.int .i64 512) := by have := HX5.out.at_ 3 _ rfl; simpa using this
  have x4 : World.cell? W5 ⟨xb, 4, none⟩ = some (.int .i64 31) := by have := HX5.out.at_ 4 _ rfl; simpa using this
  have x5 : World.cell? W5 ⟨xb, 5, none⟩ = some (.int .i64 0) := by have := HX5.out.at_ 5 _ rfl; simpa using this
  have xl := HX5.out.lt
  go_upto_region 13 with (fail)
  refine wp_gen (fun V => Hid (Hp W0 V h ck q fq p pq g bq bf 400 512 tu 512 31 64 (fun i => i = cb ∨ i = xb) (⟨0, [], lf1, P0, [⟨512, k, r⟩]⟩ : HSt)) ∧ Hid (Row V xb 0 [.bool true, .int .i64 512, .int .i64 (512 + k), .int .i64 512, .int .i64 31, .int .i64 0]) ∧ Hid (Row V cb 0 [.bool t2, .int .i64 b2, .int .i64 tp2, .int .i64 at2, .int .i64 pm2, .int .i64 ty2]) ∧ Hid (Row V W5.heap.size 0 [.bool true, .int .i64 512, .int .i64 (512 + k - 1 - a3), .int .i64 512, .int .i64 31, .int .i64 0])) ⟨hid (HK5.out.ext (by repeat (first | (with_reducible exact Ext.refl _) | (with_reducible refine Ext.undrew ?_) | (with_reducible refine Ext.grow ?_ _) | (with_reducible refine Ext.drew ?_) | (with_reducible refine Ext.drewN ?_ _) | (with_reducible refine Ext.alloc ?_ _) | (with_reducible assumption) | ((with_reducible refine Ext.setCell ?_ ?_ _); rotate_left; (first | exact Nat.le_refl _ | ((try dsimp only); (try simp only [World.size_alloc, grow_size, World.size_setCell]); omega)))))), hid (HX5.out.ext (by repeat (first | (with_reducible exact Ext.refl _) | (with_reducible refine Ext.undrew ?_) | (with_reducible refine Ext.grow ?_ _) | (with_reducible refine Ext.drew ?_) | (with_reducible refine Ext.drewN ?_ _) | (with_reducible refine Ext.alloc ?_ _) | (with_reducible assumption) | ((with_reducible refine Ext.setCell ?_ ?_ _); rotate_left; (first | exact Nat.le_refl _ | ((try dsimp only); (try simp only [World.size_alloc, grow_size, World.size_setCell]); omega)))))), hid (HC5.out.ext (by repeat (first | (with_reducible exact Ext.refl _) | (with_reducible refine Ext.undrew ?_) | (with_reducible refine Ext.grow ?_ _) | (with_reducible refine Ext.drew ?_) | (with_reducible refine Ext.drewN ?_ _) | (with_reducible refine Ext.alloc ?_ _) | (with_reducible assumption) | ((with_reducible refine Ext.setCell ?_ ?_ _); rotate_left; (first | exact Nat.le_refl _ | ((try dsimp only); (try simp only [World.size_alloc, grow_size, World.size_setCell]); omega)))))), hid (Row.new W5 _ _)⟩ ?_
  clear HK5 HX5 HC5 x0 x1 x2 x3 x4 x5 xl
  rintro W6 ⟨HK6, HX6, HC6, HY6⟩
  generalize W5.heap.size = yb at HY6 ⊢
  have y0 : World.cell? W6 ⟨yb, 0, none⟩ = some (.bool true) := by have := HY6.out.at_ 0 _ rfl; simpa using this
  have y1 : World.cell? W6 ⟨yb, 1, none⟩ = some (.int .i64 512) := by have := HY6.out.at_ 1 _ rfl; simpa using this
  have y2 : World.cell? W6 ⟨yb, 2, none⟩ = some (.int .i64 (512 + k - 1 - a3)) := by have := HY6.out.at_ 2 _ rfl; simpa using this
  have y3 : World.cell? W6 ⟨yb, 3, none⟩ = some (.int .i64 512) := by have := HY6.out.at_ 3 _ rfl; simpa using this
  have y4 : World.cell? W6 ⟨yb, 4, none⟩ = some (.int .i64 31) := by have := HY6.out.at_ 4 _ rfl; simpa using this
  have y5 : World.cell? W6 ⟨yb, 5, none⟩ = some (.int .i64 0) := by have := HY6.out.at_ 5 _ rfl; simpa using this
  have yl := HY6.out.lt
  go_upto_region 14 with (go_at_call 12; (refine (hFree W0 _ h ck q fq p pq g bq bf 400 512 tu 512 31 64 (fun i => i = cb ∨ i = xb) (⟨0, [], lf1, P0, [⟨512, k, r⟩]⟩ : HSt) HK6.out true 512 (512 + k - 1 - a3) 512 31 0 (by omega) (by simp)).mono ?_; (try dsimp only); rw [once_y k r a3 a3l, once_free0 k r lf1 P0 _ (by rw [once_y k r a3 a3l]; decide)]; rintro e w7 ⟨rfl, HK7, HOz⟩))
  have HX7 := hid (HX6.out.only HOz.out (fun e => e (.inr rfl)))
  have HC7 := hid (HC6.out.only HOz.out (fun e => e (.inl rfl)))
  clear HK6 HX6 HC6 HY6 HOz y0 y1 y2 y3 y4 y5 yl
  have x0 : World.cell? w7 ⟨xb, 0, none⟩ = some (.bool true) := by have := HX7.out.at_ 0 _ rfl; simpa using this
  have x1 : World.cell? w7 ⟨xb, 1, none⟩ = some (.int .i64 512) := by have := HX7.out.at_ 1 _ rfl; simpa using this
  have x2 : World.cell? w7 ⟨xb, 2, none⟩ = some (.int .i64 (512 + k)) := by have := HX7.out.at_ 2 _ rfl; simpa using this
  have x3 : World.cell? w7 ⟨xb, 3, none⟩ = some (.int .i64 512) := by have := HX7.out.at_ 3 _ rfl; simpa using this
  have x4 : World.cell? w7 ⟨xb, 4, none⟩ = some (.int .i64 31) := by have := HX7.out.at_ 4 _ rfl; simpa using this
  have x5 : World.cell? w7 ⟨xb, 5, none⟩ = some (.int .i64 0) := by have := HX7.out.at_ 5 _ rfl; simpa using this
  have xl := HX7.out.lt
  go_upto_region 16 with (fail)
  have HNZ : Hid (W0.heap.size ≤ w7.heap.size ∧ ¬ xb = w7.heap.size ∧ ¬ cb = w7.heap.size) := hid ⟨HK7.out.base.size, by have := HX7.out.lt; omega, by have := HC7.out.lt; omega⟩
  refine wp_gen (fun V => Hid (Hp W0 V h ck q fq p pq g bq bf 400 512 tu 512 31 64 (fun i => (i = cb ∨ i = xb) ∨ i = w7.heap.size) (⟨0, [], lf1, P0, [⟨512, k, r⟩]⟩ : HSt)) ∧ Hid (Row V xb 0 [.bool true, .int .i64 512, .int .i64 (512 + k), .int .i64 512, .int .i64 31, .int .i64 0]) ∧ Hid (Row V cb 0 [.bool t2, .int .i64 b2, .int .i64 tp2, .int .i64 at2, .int .i64 pm2, .int .i64 ty2]) ∧ Hid (Row V w7.heap.size 0 [.bool true, .int .i64 528, .int .i64 (512 + k), .int .i64 512, .int .i64 31, .int .i64 0])) ⟨hid (HK7.out.box _), hid (HX7.out.ext (by repeat (first | (with_reducible exact Ext.refl _) | (with_reducible refine Ext.undrew ?_) | (with_reducible refine Ext.grow ?_ _) | (with_reducible refine Ext.drew ?_) | (with_reducible refine Ext.drewN ?_ _) | (with_reducible refine Ext.alloc ?_ _) | (with_reducible assumption) | ((with_reducible refine Ext.setCell ?_ ?_ _); rotate_left; (first | exact Nat.le_refl _ | ((try dsimp only); (try simp only [World.size_alloc, grow_size, World.size_setCell]); omega)))))), hid (HC7.out.ext (by repeat (first | (with_reducible exact Ext.refl _) | (with_reducible refine Ext.undrew ?_) | (with_reducible refine Ext.grow ?_ _) | (with_reducible refine Ext.drew ?_) | (with_reducible refine Ext.drewN ?_ _) | (with_reducible refine Ext.alloc ?_ _) | (with_reducible assumption) | ((with_reducible refine Ext.setCell ?_ ?_ _); rotate_left; (first | exact Nat.le_refl _ | ((try dsimp only); (try simp only [World.size_alloc, grow_size, World.size_setCell]); omega)))))), hid (Row.new w7 _ _)⟩ ?_
  clear HK7 HX7 HC7 x0 x1 x2 x3 x4 x5 xl
  rintro W7 ⟨HK7, HX7, HC7, HZ7⟩
  generalize w7.heap.size = zb at HK7 HZ7 HNZ ⊢
  have z0 : World.cell? W7 ⟨zb, 0, none⟩ = some (.bool true) := by have := HZ7.out.at_ 0 _ rfl; simpa using this
  have z1 : World.cell? W7 ⟨zb, 1, none⟩ = some (.int .i64 528) := by have := HZ7.out.at_ 1 _ rfl; simpa using this
  have z2 : World.cell? W7 ⟨zb, 2, none⟩ = some (.int .i64 (512 + k)) := by have := HZ7.out.at_ 2 _ rfl; simpa using this
  have z3 : World.cell? W7 ⟨zb, 3, none⟩ = some (.int .i64 512) := by have := HZ7.out.at_ 3 _ rfl; simpa using this
  have z4 : World.cell? W7 ⟨zb, 4, none⟩ = some (.int .i64 31) := by have := HZ7.out.at_ 4 _ rfl; simpa using this
  have z5 : World.cell? W7 ⟨zb, 5, none⟩ = some (.int .i64 0) := by have := HZ7.out.at_ 5 _ rfl; simpa using this
  have zl := HZ7.out.lt
  go_upto_region 17 with (go_at_call 12; (refine (hFree W0 _ h ck q fq p pq g bq bf 400 512 tu 512 31 64 (fun i => (i = cb ∨ i = xb) ∨ i = zb) (⟨0, [], lf1, P0, [⟨512, k, r⟩]⟩ : HSt) HK7.out true 528 (512 + k) 512 31 0 (by omega) (by simp)).mono ?_; (try dsimp only); rw [once_z1 k r, once_free0 k r lf1 P0 _ (by rw [once_z1 k r]; decide)]; rintro e w8 ⟨rfl, HK8, HOz⟩))
  have HX8 := hid (HX7.out.only HOz.out (fun e => e (.inl (.inr rfl))))
  have HC8 := hid (HC7.out.only HOz.out (fun e => e (.inl (.inl rfl))))
  have HZ8 := hid (HZ7.out.only HOz.out (fun e => e (.inr rfl)))
  clear HK7 HX7 HC7 HZ7 HOz z0 z1 z2 z3 z4 z5 zl
  have z0 : World.cell? w8 ⟨zb, 0, none⟩ = some (.bool true) := by have := HZ8.out.at_ 0 _ rfl; simpa using this
  have zf0 : World.frozen? w8 ⟨zb, 0, none⟩ = false := by have := HZ8.out.free 0 (by simp); simpa using this
  have z1 : World.cell? w8 ⟨zb, 1, none⟩ = some (.int .i64 528) := by have := HZ8.out.at_ 1 _ rfl; simpa using this
  have zf1 : World.frozen? w8 ⟨zb, 1, none⟩ = false := by have := HZ8.out.free 1 (by simp); simpa using this
  have z2 : World.cell? w8 ⟨zb, 2, none⟩ = some (.int .i64 (512 + k)) := by have := HZ8.out.at_ 2 _ rfl; simpa using this
  have zf2 : World.frozen? w8 ⟨zb, 2, none⟩ = false := by have := HZ8.out.free 2 (by simp); simpa using this
  have z3 : World.cell? w8 ⟨zb, 3, none⟩ = some (.int .i64 512) := by have := HZ8.out.at_ 3 _ rfl; simpa using this
  have zf3 : World.frozen? w8 ⟨zb, 3, none⟩ = false := by have := HZ8.out.free 3 (by simp); simpa using this
  have z4 : World.cell? w8 ⟨zb, 4, none⟩ = some (.int .i64 31) := by have := HZ8.out.at_ 4 _ rfl; simpa using this
  have zf4 : World.frozen? w8 ⟨zb, 4, none⟩ = false := by have := HZ8.out.free 4 (by simp); simpa using this
  have z5 : World.cell? w8 ⟨zb, 5, none⟩ = some (.int .i64 0) := by have := HZ8.out.at_ 5 _ rfl; simpa using this
  have zf5 : World.frozen? w8 ⟨zb, 5, none⟩ = false := by have := HZ8.out.free 5 (by simp); simpa using this
  have zl := HZ8.out.lt
  have x0 : World.cell? w8 ⟨xb, 0, none⟩ = some (.bool true) := by have := HX8.out.at_ 0 _ rfl; simpa using this
  have x1 : World.cell? w8 ⟨xb, 1, none⟩ = some (.int .i64 512) := by have := HX8.out.at_ 1 _ rfl; simpa using this
  have x2 : World.cell? w8 ⟨xb, 2, none⟩ = some (.int .i64 (512 + k)) := by have := HX8.out.at_ 2 _ rfl; simpa using this
  have x3 : World.cell? w8 ⟨xb, 3, none⟩ = some (.int .i64 512) := by have := HX8.out.at_ 3 _ rfl; simpa using this
  have x4 : World.cell? w8 ⟨xb, 4, none⟩ = some (.int .i64 31) := by have := HX8.out.at_ 4 _ rfl; simpa using this
  have x5 : World.cell? w8 ⟨xb, 5, none⟩ = some (.int .i64 0) := by have := HX8.out.at_ 5 _ rfl; simpa using this
  have xl := HX8.out.lt
  go_upto_region 19 with (fail)
  refine wp_gen (fun V => Hid (Hp W0 V h ck q fq p pq g bq bf 400 512 tu 512 31 64 (fun i => (i = cb ∨ i = xb) ∨ i = zb) (⟨0, [], lf1, P0, [⟨512, k, r⟩]⟩ : HSt)) ∧ Hid (Row V xb 0 [.bool true, .int .i64 512, .int .i64 (512 + k), .int .i64 512, .int .i64 31, .int .i64 0]) ∧ Hid (Row V cb 0 [.bool t2, .int .i64 b2, .int .i64 tp2, .int .i64 at2, .int .i64 pm2, .int .i64 ty2]) ∧ Hid (Row V zb 0 [.bool false, .int .i64 512, .int .i64 (512 + k), .int .i64 512, .int .i64 31, .int .i64 0])) ⟨hid (hp_foreign HK8.out zb (.inr rfl) HNZ.out.1 (by repeat (first | (with_reducible exact Only.refl _ _) | (with_reducible refine Only.setCell (S := (· = zb)) ?_ (.inl rfl) _)))), hid (HX8.out.only (S := (· = zb)) (by repeat (first | (with_reducible exact Only.refl _ _) | (with_reducible refine Only.setCell (S := (· = zb)) ?_ (.inl rfl) _))) HNZ.out.2.1), hid (HC8.out.only (S := (· = zb)) (by repeat (first | (with_reducible exact Only.refl _ _) | (with_reducible refine Only.setCell (S := (· = zb)) ?_ (.inl rfl) _))) HNZ.out.2.2), hid (row_atc (row_atc (row_atc (row_atc (row_atc (row_atc (row_atc HZ8.out 0 (by simp) _) 1 (by simp) _) 2 (by simp) _) 3 (by simp) _) 4 (by simp) _) 5 (by simp) _) 0 (by simp) _)⟩ ?_
  clear HK8 HX8 HC8 HZ8 x0 x1 x2 x3 x4 x5 xl z0 z1 z2 z3 z4 z5 zl zf0 zf1 zf2 zf3 zf4 zf5
  rintro W8 ⟨HK8, HX8, HC8, HZ8⟩
  have z0 : World.cell? W8 ⟨zb, 0, none⟩ = some (.bool false) := by have := HZ8.out.at_ 0 _ rfl; simpa using this
  have z1 : World.cell? W8 ⟨zb, 1, none⟩ = some (.int .i64 512) := by have := HZ8.out.at_ 1 _ rfl; simpa using this
  have z2 : World.cell? W8 ⟨zb, 2, none⟩ = some (.int .i64 (512 + k)) := by have := HZ8.out.at_ 2 _ rfl; simpa using this
  have z3 : World.cell? W8 ⟨zb, 3, none⟩ = some (.int .i64 512) := by have := HZ8.out.at_ 3 _ rfl; simpa using this
  have z4 : World.cell? W8 ⟨zb, 4, none⟩ = some (.int .i64 31) := by have := HZ8.out.at_ 4 _ rfl; simpa using this
  have z5 : World.cell? W8 ⟨zb, 5, none⟩ = some (.int .i64 0) := by have := HZ8.out.at_ 5 _ rfl; simpa using this
  have zl := HZ8.out.lt
  go_upto_region 20 with (go_at_call 12; (refine (hFree W0 _ h ck q fq p pq g bq bf 400 512 tu 512 31 64 (fun i => (i = cb ∨ i = xb) ∨ i = zb) (⟨0, [], lf1, P0, [⟨512, k, r⟩]⟩ : HSt) HK8.out false 512 (512 + k) 512 31 0 (by omega) (by simp)).mono ?_; (try dsimp only); rw [once_z2 k r, once_free0 k r lf1 P0 _ (by rw [once_z2 k r]; decide)]; rintro e w9 ⟨rfl, HK9, HOz⟩))
  have HX9 := hid (HX8.out.only HOz.out (fun e => e (.inl (.inr rfl))))
  have HC9 := hid (HC8.out.only HOz.out (fun e => e (.inl (.inl rfl))))
  clear HK8 HX8 HC8 HZ8 HOz z0 z1 z2 z3 z4 z5 zl
  have x0 : World.cell? w9 ⟨xb, 0, none⟩ = some (.bool true) := by have := HX9.out.at_ 0 _ rfl; simpa using this
  have x1 : World.cell? w9 ⟨xb, 1, none⟩ = some (.int .i64 512) := by have := HX9.out.at_ 1 _ rfl; simpa using this
  have x2 : World.cell? w9 ⟨xb, 2, none⟩ = some (.int .i64 (512 + k)) := by have := HX9.out.at_ 2 _ rfl; simpa using this
  have x3 : World.cell? w9 ⟨xb, 3, none⟩ = some (.int .i64 512) := by have := HX9.out.at_ 3 _ rfl; simpa using this
  have x4 : World.cell? w9 ⟨xb, 4, none⟩ = some (.int .i64 31) := by have := HX9.out.at_ 4 _ rfl; simpa using this
  have x5 : World.cell? w9 ⟨xb, 5, none⟩ = some (.int .i64 0) := by have := HX9.out.at_ 5 _ rfl; simpa using this
  have xl := HX9.out.lt
  have c0 : World.cell? w9 ⟨cb, 0, none⟩ = some (.bool t2) := by have := HC9.out.at_ 0 _ rfl; simpa using this
  have c1 : World.cell? w9 ⟨cb, 1, none⟩ = some (.int .i64 b2) := by have := HC9.out.at_ 1 _ rfl; simpa using this
  have c2 : World.cell? w9 ⟨cb, 2, none⟩ = some (.int .i64 tp2) := by have := HC9.out.at_ 2 _ rfl; simpa using this
  have c3 : World.cell? w9 ⟨cb, 3, none⟩ = some (.int .i64 at2) := by have := HC9.out.at_ 3 _ rfl; simpa using this
  have c4 : World.cell? w9 ⟨cb, 4, none⟩ = some (.int .i64 pm2) := by have := HC9.out.at_ 4 _ rfl; simpa using this
  have c5 : World.cell? w9 ⟨cb, 5, none⟩ = some (.int .i64 ty2) := by have := HC9.out.at_ 5 _ rfl; simpa using this
  have cl := HC9.out.lt
  cases t2
  · skip
    have hof : ¬ ofE [⟨512, k, r⟩] ⟨false, b2, tp2, at2, pm2, ty2⟩ = 0 := fun e => by
      obtain ⟨z1, z2, z3, z4⟩ := (once_of k r _).1 e
      exact absurd z1 (by simp)
    obtain ⟨er, her⟩ : ∃ e, ofE [⟨512, k, r⟩] ⟨false, b2, tp2, at2, pm2, ty2⟩ = e := ⟨_, rfl⟩
    have HOF0 : Hid (ofE [⟨512, k, r⟩] ⟨false, b2, tp2, at2, pm2, ty2⟩ = er ∧ (⟨0, [], lf1, P0, [⟨512, k, r⟩]⟩ : HSt).free ⟨false, b2, tp2, at2, pm2, ty2⟩ = (⟨0, [], lf1, P0, [⟨512, k, r⟩]⟩ : HSt)) := hid ⟨her, once_free0 k r lf1 P0 _ hof⟩
    have d0 : (er == 0) = false := by rw [← her]; simpa using hof
    clear hof her
    go_upto_region 22 with (go_at_call 12; (refine (hFree W0 _ h ck q fq p pq g bq bf 400 512 tu 512 31 64 (fun i => (i = cb ∨ i = xb) ∨ i = zb) (⟨0, [], lf1, P0, [⟨512, k, r⟩]⟩ : HSt) HK9.out false b2 tp2 at2 pm2 ty2 HWB.out (by simp)).mono ?_; (try dsimp only); rw [HOF0.out.1, HOF0.out.2]; rintro e w10 ⟨rfl, HK10, HOz⟩))
    have HX10 := hid (HX9.out.only HOz.out (fun e => e (.inl (.inr rfl))))
    clear HK9 HX9 HC9 HOz x0 x1 x2 x3 x4 x5 xl c0 c1 c2 c3 c4 c5 cl
    have x0 : World.cell? w10 ⟨xb, 0, none⟩ = some (.bool true) := by have := HX10.out.at_ 0 _ rfl; simpa using this
    have x1 : World.cell? w10 ⟨xb, 1, none⟩ = some (.int .i64 512) := by have := HX10.out.at_ 1 _ rfl; simpa using this
    have x2 : World.cell? w10 ⟨xb, 2, none⟩ = some (.int .i64 (512 + k)) := by have := HX10.out.at_ 2 _ rfl; simpa using this
    have x3 : World.cell? w10 ⟨xb, 3, none⟩ = some (.int .i64 512) := by have := HX10.out.at_ 3 _ rfl; simpa using this
    have x4 : World.cell? w10 ⟨xb, 4, none⟩ = some (.int .i64 31) := by have := HX10.out.at_ 4 _ rfl; simpa using this
    have x5 : World.cell? w10 ⟨xb, 5, none⟩ = some (.int .i64 0) := by have := HX10.out.at_ 5 _ rfl; simpa using this
    have xl := HX10.out.lt
    go_upto_region 23 with (go_at_call 12; (refine (hFree W0 _ h ck q fq p pq g bq bf 400 512 tu 512 31 64 (fun i => (i = cb ∨ i = xb) ∨ i = zb) (⟨0, [], lf1, P0, [⟨512, k, r⟩]⟩ : HSt) HK10.out true 512 (512 + k) 512 31 0 (by omega) (by simp)).mono ?_; (try dsimp only); rw [(once_free1 k r lf1 P0 512 31).1, (once_free1 k r lf1 P0 512 31).2]; rintro e w11 ⟨rfl, HK11, HOz⟩))
    have HX11 := hid (HX10.out.only HOz.out (fun e => e (.inl (.inr rfl))))
    clear HK10 HX10 HOz x0 x1 x2 x3 x4 x5 xl
    have x0 : World.cell? w11 ⟨xb, 0, none⟩ = some (.bool true) := by have := HX11.out.at_ 0 _ rfl; simpa using this
    have x1 : World.cell? w11 ⟨xb, 1, none⟩ = some (.int .i64 512) := by have := HX11.out.at_ 1 _ rfl; simpa using this
    have x2 : World.cell? w11 ⟨xb, 2, none⟩ = some (.int .i64 (512 + k)) := by have := HX11.out.at_ 2 _ rfl; simpa using this
    have x3 : World.cell? w11 ⟨xb, 3, none⟩ = some (.int .i64 512) := by have := HX11.out.at_ 3 _ rfl; simpa using this
    have x4 : World.cell? w11 ⟨xb, 4, none⟩ = some (.int .i64 31) := by have := HX11.out.at_ 4 _ rfl; simpa using this
    have x5 : World.cell? w11 ⟨xb, 5, none⟩ = some (.int .i64 0) := by have := HX11.out.at_ 5 _ rfl; simpa using this
    have xl := HX11.out.lt
    go_wp2_with (go_at_call 12; (refine (hFree W0 _ h ck q fq p pq g bq bf 400 512 tu 512 31 64 (fun i => (i = cb ∨ i = xb) ∨ i = zb) (⟨0, [⟨512, r, 0⟩], lf1, P0, []⟩ : HSt) HK11.out true 512 (512 + k) 512 31 0 (by omega) (by simp)).mono ?_; (try dsimp only); rw [(once_free2 r lf1 P0 512 (512 + k) 512 31).1, (once_free2 r lf1 P0 512 (512 + k) 512 31).2]; rintro e w12 ⟨rfl, HK12, HOz⟩))
    go_ret
    exact ⟨rfl, HWW.out.trans HK12.out.base⟩
  · by_cases e1 : ty2 = 0
    · subst e1
      by_cases e2 : b2 = 512
      · subst e2
        by_cases e3 : tp2 = 512 + k
        · subst e3
          go_upto_region 22 with (go_at_call 12; (refine (hFree W0 _ h ck q fq p pq g bq bf 400 512 tu 512 31 64 (fun i => (i = cb ∨ i = xb) ∨ i = zb) (⟨0, [], lf1, P0, [⟨512, k, r⟩]⟩ : HSt) HK9.out true 512 (512 + k) at2 pm2 0 (by omega) (by simp)).mono ?_; (try dsimp only); rw [(once_free1 k r lf1 P0 at2 pm2).1, (once_free1 k r lf1 P0 at2 pm2).2]; rintro e w10 ⟨rfl, HK10, HOz⟩))
          have HX10 := hid (HX9.out.only HOz.out (fun e => e (.inl (.inr rfl))))
          clear HK9 HX9 HC9 HOz x0 x1 x2 x3 x4 x5 xl c0 c1 c2 c3 c4 c5 cl
          have x0 : World.cell? w10 ⟨xb, 0, none⟩ = some (.bool true) := by have := HX10.out.at_ 0 _ rfl; simpa using this
          have x1 : World.cell? w10 ⟨xb, 1, none⟩ = some (.int .i64 512) := by have := HX10.out.at_ 1 _ rfl; simpa using this
          have x2 : World.cell? w10 ⟨xb, 2, none⟩ = some (.int .i64 (512 + k)) := by have := HX10.out.at_ 2 _ rfl; simpa using this
          have x3 : World.cell? w10 ⟨xb, 3, none⟩ = some (.int .i64 512) := by have := HX10.out.at_ 3 _ rfl; simpa using this
          have x4 : World.cell? w10 ⟨xb, 4, none⟩ = some (.int .i64 31) := by have := HX10.out.at_ 4 _ rfl; simpa using this
          have x5 : World.cell? w10 ⟨xb, 5, none⟩ = some (.int .i64 0) := by have := HX10.out.at_ 5 _ rfl; simpa using this
          have xl := HX10.out.lt
          go_upto_region 23 with (go_at_call 12; (refine (hFree W0 _ h ck q fq p pq g bq bf 400 512 tu 512 31 64 (fun i => (i = cb ∨ i = xb) ∨ i = zb) (⟨0, [⟨512, r, 0⟩], lf1, P0, []⟩ : HSt) HK10.out true 512 (512 + k) 512 31 0 (by omega) (by simp)).mono ?_; (try dsimp only); rw [(once_free2 r lf1 P0 512 (512 + k) 512 31).1, (once_free2 r lf1 P0 512 (512 + k) 512 31).2]; rintro e w11 ⟨rfl, HK11, HOz⟩))
          have HX11 := hid (HX10.out.only HOz.out (fun e => e (.inl (.inr rfl))))
          clear HK10 HX10 HOz x0 x1 x2 x3 x4 x5 xl
          have x0 : World.cell? w11 ⟨xb, 0, none⟩ = some (.bool true) := by have := HX11.out.at_ 0 _ rfl; simpa using this
          have x1 : World.cell? w11 ⟨xb, 1, none⟩ = some (.int .i64 512) := by have := HX11.out.at_ 1 _ rfl; simpa using this
          have x2 : World.cell? w11 ⟨xb, 2, none⟩ = some (.int .i64 (512 + k)) := by have := HX11.out.at_ 2 _ rfl; simpa using this
          have x3 : World.cell? w11 ⟨xb, 3, none⟩ = some (.int .i64 512) := by have := HX11.out.at_ 3 _ rfl; simpa using this
          have x4 : World.cell? w11 ⟨xb, 4, none⟩ = some (.int .i64 31) := by have := HX11.out.at_ 4 _ rfl; simpa using this
          have x5 : World.cell? w11 ⟨xb, 5, none⟩ = some (.int .i64 0) := by have := HX11.out.at_ 5 _ rfl; simpa using this
          have xl := HX11.out.lt
          go_wp2_with (go_at_call 12; (refine (hFree W0 _ h ck q fq p pq g bq bf 400 512 tu 512 31 64 (fun i => (i = cb ∨ i = xb) ∨ i = zb) (⟨0, [⟨512, r, 0⟩], lf1, P0, []⟩ : HSt) HK11.out true 512 (512 + k) 512 31 0 (by omega) (by simp)).mono ?_; (try dsimp only); rw [(once_free2 r lf1 P0 512 (512 + k) 512 31).1, (once_free2 r lf1 P0 512 (512 + k) 512 31).2]; rintro e w12 ⟨rfl, HK12, HOz⟩))
          go_ret
          exact ⟨rfl, HWW.out.trans HK12.out.base⟩
        · have d3 : (tp2 == 512 + k) = false := by simpa using e3
          have hof : ¬ ofE [⟨512, k, r⟩] ⟨true, 512, tp2, at2, pm2, 0⟩ = 0 := fun e => by
            obtain ⟨z1, z2, z3, z4⟩ := (once_of k r _).1 e
            exact e3 z4
          obtain ⟨er, her⟩ : ∃ e, ofE [⟨512, k, r⟩] ⟨true, 512, tp2, at2, pm2, 0⟩ = e := ⟨_, rfl⟩
          have HOF0 : Hid (ofE [⟨512, k, r⟩] ⟨true, 512, tp2, at2, pm2, 0⟩ = er ∧ (⟨0, [], lf1, P0, [⟨512, k, r⟩]⟩ : HSt).free ⟨true, 512, tp2, at2, pm2, 0⟩ = (⟨0, [], lf1, P0, [⟨512, k, r⟩]⟩ : HSt)) := hid ⟨her, once_free0 k r lf1 P0 _ hof⟩
          have d0 : (er == 0) = false := by rw [← her]; simpa using hof
          clear hof her
          go_upto_region 22 with (go_at_call 12; (refine (hFree W0 _ h ck q fq p pq g bq bf 400 512 tu 512 31 64 (fun i => (i = cb ∨ i = xb) ∨ i = zb) (⟨0, [], lf1, P0, [⟨512, k, r⟩]⟩ : HSt) HK9.out true 512 tp2 at2 pm2 0 HWB.out (by simp)).mono ?_; (try dsimp only); rw [HOF0.out.1, HOF0.out.2]; rintro e w10 ⟨rfl, HK10, HOz⟩))
          have HX10 := hid (HX9.out.only HOz.out (fun e => e (.inl (.inr rfl))))
          clear HK9 HX9 HC9 HOz x0 x1 x2 x3 x4 x5 xl c0 c1 c2 c3 c4 c5 cl
          have x0 : World.cell? w10 ⟨xb, 0, none⟩ = some (.bool true) := by have := HX10.out.at_ 0 _ rfl; simpa using this
          have x1 : World.cell? w10 ⟨xb, 1, none⟩ = some (.int .i64 512) := by have := HX10.out.at_ 1 _ rfl; simpa using this
          have x2 : World.cell? w10 ⟨xb, 2, none⟩ = some (.int .i64 (512 + k)) := by have := HX10.out.at_ 2 _ rfl; simpa using this
          have x3 : World.cell? w10 ⟨xb, 3, none⟩ = some (.int .i64 512) := by have := HX10.out.at_ 3 _ rfl; simpa using this
          have x4 : World.cell? w10 ⟨xb, 4, none⟩ = some (.int .i64 31) := by have := HX10.out.at_ 4 _ rfl; simpa using this
          have x5 : World.cell? w10 ⟨xb, 5, none⟩ = some (.int .i64 0) := by have := HX10.out.at_ 5 _ rfl; simpa using this
          have xl := HX10.out.lt
          go_upto_region 23 with (go_at_call 12; (refine (hFree W0 _ h ck q fq p pq g bq bf 400 512 tu 512 31 64 (fun i => (i = cb ∨ i = xb) ∨ i = zb) (⟨0, [], lf1, P0, [⟨512, k, r⟩]⟩ : HSt) HK10.out true 512 (512 + k) 512 31 0 (by omega) (by simp)).mono ?_; (try dsimp only); rw [(once_free1 k r lf1 P0 512 31).1, (once_free1 k r lf1 P0 512 31).2]; rintro e w11 ⟨rfl, HK11, HOz⟩))
          have HX11 := hid (HX10.out.only HOz.out (fun e => e (.inl (.inr rfl))))
          clear HK10 HX10 HOz x0 x1 x2 x3 x4 x5 xl
          have x0 : World.cell? w11 ⟨xb, 0, none⟩ = some (.bool true) := by have := HX11.out.at_ 0 _ rfl; simpa using this
          have x1 : World.cell? w11 ⟨xb, 1, none⟩ = some (.int .i64 512) := by have := HX11.out.at_ 1 _ rfl; simpa using this
          have x2 : World.cell? w11 ⟨xb, 2, none⟩ = some (.int .i64 (512 + k)) := by have := HX11.out.at_ 2 _ rfl; simpa using this
          have x3 : World.cell? w11 ⟨xb, 3, none⟩ = some (.int .i64 512) := by have := HX11.out.at_ 3 _ rfl; simpa using this
          have x4 : World.cell? w11 ⟨xb, 4, none⟩ = some (.int .i64 31) := by have := HX11.out.at_ 4 _ rfl; simpa using this
          have x5 : World.cell? w11 ⟨xb, 5, none⟩ = some (.int .i64 0) := by have := HX11.out.at_ 5 _ rfl; simpa using this
          have xl := HX11.out.lt
          go_wp2_with (go_at_call 12; (refine (hFree W0 _ h ck q fq p pq g bq bf 400 512 tu 512 31 64 (fun i => (i = cb ∨ i = xb) ∨ i = zb) (⟨0, [⟨512, r, 0⟩], lf1, P0, []⟩ : HSt) HK11.out true 512 (512 + k) 512 31 0 (by omega) (by simp)).mono ?_; (try dsimp only); rw [(once_free2 r lf1 P0 512 (512 + k) 512 31).1, (once_free2 r lf1 P0 512 (512 + k) 512 31).2]; rintro e w12 ⟨rfl, HK12, HOz⟩))
          go_ret
          exact ⟨rfl, HWW.out.trans HK12.out.base⟩
      · have d2 : (b2 == 512) = false := by simpa using e2
        have hof : ¬ ofE [⟨512, k, r⟩] ⟨true, b2, tp2, at2, pm2, 0⟩ = 0 := fun e => by
          obtain ⟨z1, z2, z3, z4⟩ := (once_of k r _).1 e
          exact e2 z3
        obtain ⟨er, her⟩ : ∃ e, ofE [⟨512, k, r⟩] ⟨true, b2, tp2, at2, pm2, 0⟩ = e := ⟨_, rfl⟩
        have HOF0 : Hid (ofE [⟨512, k, r⟩] ⟨true, b2, tp2, at2, pm2, 0⟩ = er ∧ (⟨0, [], lf1, P0, [⟨512, k, r⟩]⟩ : HSt).free ⟨true, b2, tp2, at2, pm2, 0⟩ = (⟨0, [], lf1, P0, [⟨512, k, r⟩]⟩ : HSt)) := hid ⟨her, once_free0 k r lf1 P0 _ hof⟩
        have d0 : (er == 0) = false := by rw [← her]; simpa using hof
        clear hof her
        go_upto_region 22 with (go_at_call 12; (refine (hFree W0 _ h ck q fq p pq g bq bf 400 512 tu 512 31 64 (fun i => (i = cb ∨ i = xb) ∨ i = zb) (⟨0, [], lf1, P0, [⟨512, k, r⟩]⟩ : HSt) HK9.out true b2 tp2 at2 pm2 0 HWB.out (by simp)).mono ?_; (try dsimp only); rw [HOF0.out.1, HOF0.out.2]; rintro e w10 ⟨rfl, HK10, HOz⟩))
        have HX10 := hid (HX9.out.only HOz.out (fun e => e (.inl (.inr rfl))))
        clear HK9 HX9 HC9 HOz x0 x1 x2 x3 x4 x5 xl c0 c1 c2 c3 c4 c5 cl
        have x0 : World.cell? w10 ⟨xb, 0, none⟩ = some (.bool true) := by have := HX10.out.at_ 0 _ rfl; simpa using this
        have x1 : World.cell? w10 ⟨xb, 1, none⟩ = some (.int .i64 512) := by have := HX10.out.at_ 1 _ rfl; simpa using this
        have x2 : World.cell? w10 ⟨xb, 2, none⟩ = some (.int .i64 (512 + k)) := by have := HX10.out.at_ 2 _ rfl; simpa using this
        have x3 : World.cell? w10 ⟨xb, 3, none⟩ = some (.int .i64 512) := by have := HX10.out.at_ 3 _ rfl; simpa using this
        have x4 : World.cell? w10 ⟨xb, 4, none⟩ = some (.int .i64 31) := by have := HX10.out.at_ 4 _ rfl; simpa using this
        have x5 : World.cell? w10 ⟨xb, 5, none⟩ = some (.int .i64 0) := by have := HX10.out.at_ 5 _ rfl; simpa using this
        have xl := HX10.out.lt
        go_upto_region 23 with (go_at_call 12; (refine (hFree W0 _ h ck q fq p pq g bq bf 400 512 tu 512 31 64 (fun i => (i = cb ∨ i = xb) ∨ i = zb) (⟨0, [], lf1, P0, [⟨512, k, r⟩]⟩ : HSt) HK10.out true 512 (512 + k) 512 31 0 (by omega) (by simp)).mono ?_; (try dsimp only); rw [(once_free1 k r lf1 P0 512 31).1, (once_free1 k r lf1 P0 512 31).2]; rintro e w11 ⟨rfl, HK11, HOz⟩))
        have HX11 := hid (HX10.out.only HOz.out (fun e => e (.inl (.inr rfl))))
        clear HK10 HX10 HOz x0 x1 x2 x3 x4 x5 xl
        have x0 : World.cell? w11 ⟨xb, 0, none⟩ = some (.bool true) := by have := HX11.out.at_ 0 _ rfl; simpa using this
        have x1 : World.cell? w11 ⟨xb, 1, none⟩ = some (.int .i64 512) := by have := HX11.out.at_ 1 _ rfl; simpa using this
        have x2 : World.cell? w11 ⟨xb, 2, none⟩ = some (.int .i64 (512 + k)) := by have := HX11.out.at_ 2 _ rfl; simpa using this
        have x3 : World.cell? w11 ⟨xb, 3, none⟩ = some (.int .i64 512) := by have := HX11.out.at_ 3 _ rfl; simpa using this
        have x4 : World.cell? w11 ⟨xb, 4, none⟩ = some (.int .i64 31) := by have := HX11.out.at_ 4 _ rfl; simpa using this
        have x5 : World.cell? w11 ⟨xb, 5, none⟩ = some (.int .i64 0) := by have := HX11.out.at_ 5 _ rfl; simpa using this
        have xl := HX11.out.lt
        go_wp2_with (go_at_call 12; (refine (hFree W0 _ h ck q fq p pq g bq bf 400 512 tu 512 31 64 (fun i => (i = cb ∨ i = xb) ∨ i = zb) (⟨0, [⟨512, r, 0⟩], lf1, P0, []⟩ : HSt) HK11.out true 512 (512 + k) 512 31 0 (by omega) (by simp)).mono ?_; (try dsimp only); rw [(once_free2 r lf1 P0 512 (512 + k) 512 31).1, (once_free2 r lf1 P0 512 (512 + k) 512 31).2]; rintro e w12 ⟨rfl, HK12, HOz⟩))
        go_ret
        exact ⟨rfl, HWW.out.trans HK12.out.base⟩
    · have d1 : (ty2 == 0) = false := by simpa using e1
      have hof : ¬ ofE [⟨512, k, r⟩] ⟨true, b2, tp2, at2, pm2, ty2⟩ = 0 := fun e => by
        obtain ⟨z1, z2, z3, z4⟩ := (once_of k r _).1 e
        exact e1 z2
      obtain ⟨er, her⟩ : ∃ e, ofE [⟨512, k, r⟩] ⟨true, b2, tp2, at2, pm2, ty2⟩ = e := ⟨_, rfl⟩
      have HOF0 : Hid (ofE [⟨512, k, r⟩] ⟨true, b2, tp2, at2, pm2, ty2⟩ = er ∧ (⟨0, [], lf1, P0, [⟨512, k, r⟩]⟩ : HSt).free ⟨true, b2, tp2, at2, pm2, ty2⟩ = (⟨0, [], lf1, P0, [⟨512, k, r⟩]⟩ : HSt)) := hid ⟨her, once_free0 k r lf1 P0 _ hof⟩
      have d0 : (er == 0) = false := by rw [← her]; simpa using hof
      clear hof her
      go_upto_region 22 with (go_at_call 12; (refine (hFree W0 _ h ck q fq p pq g bq bf 400 512 tu 512 31 64 (fun i => (i = cb ∨ i = xb) ∨ i = zb) (⟨0, [], lf1, P0, [⟨512, k, r⟩]⟩ : HSt) HK9.out true b2 tp2 at2 pm2 ty2 HWB.out (by simp)).mono ?_; (try dsimp only); rw [HOF0.out.1, HOF0.out.2]; rintro e w10 ⟨rfl, HK10, HOz⟩))
      have HX10 := hid (HX9.out.only HOz.out (fun e => e (.inl (.inr rfl))))
      clear HK9 HX9 HC9 HOz x0 x1 x2 x3 x4 x5 xl c0 c1 c2 c3 c4 c5 cl
      have x0 : World.cell? w10 ⟨xb, 0, none⟩ = some (.bool true) := by have := HX10.out.at_ 0 _ rfl; simpa using this
      have x1 : World.cell? w10 ⟨xb, 1, none⟩ = some (.int .i64 512) := by have := HX10.out.at_ 1 _ rfl; simpa using this
      have x2 : World.cell? w10 ⟨xb, 2, none⟩ = some (.int .i64 (512 + k)) := by have := HX10.out.at_ 2 _ rfl; simpa using this
      have x3 : World.cell? w10 ⟨xb, 3, none⟩ = some (.int .i64 512) := by have := HX10.out.at_ 3 _ rfl; simpa using this
      have x4 : World.cell? w10 ⟨xb, 4, none⟩ = some (.int .i64 31) := by have := HX10.out.at_ 4 _ rfl; simpa using this
      have x5 : World.cell? w10 ⟨xb, 5, none⟩ = some (.int .i64 0) := by have := HX10.out.at_ 5 _ rfl; simpa using this
      have xl := HX10.out.lt
      go_upto_region 23 with (go_at_call 12; (refine (hFree W0 _ h ck q fq p pq g bq bf 400 512 tu 512 31 64 (fun i => (i = cb ∨ i = xb) ∨ i = zb) (⟨0, [], lf1, P0, [⟨512, k, r⟩]⟩ : HSt) HK10.out true 512 (512 + k) 512 31 0 (by omega) (by simp)).mono ?_; (try dsimp only); rw [(once_free1 k r lf1 P0 512 31).1, (once_free1 k r lf1 P0 512 31).2]; rintro e w11 ⟨rfl, HK11, HOz⟩))
      have HX11 := hid (HX10.out.only HOz.out (fun e => e (.inl (.inr rfl))))
      clear HK10 HX10 HOz x0 x1 x2 x3 x4 x5 xl
      have x0 : World.cell? w11 ⟨xb, 0, none⟩ = some (.bool true) := by have := HX11.out.at_ 0 _ rfl; simpa using this
      have x1 : World.cell? w11 ⟨xb, 1, none⟩ = some (.int .i64 512) := by have := HX11.out.at_ 1 _ rfl; simpa using this
      have x2 : World.cell? w11 ⟨xb, 2, none⟩ = some (.int .i64 (512 + k)) := by have := HX11.out.at_ 2 _ rfl; simpa using this
      have x3 : World.cell? w11 ⟨xb, 3, none⟩ = some (.int .i64 512) := by have := HX11.out.at_ 3 _ rfl; simpa using this
      have x4 : World.cell? w11 ⟨xb, 4, none⟩ = some (.int .i64 31) := by have := HX11.out.at_ 4 _ rfl; simpa using this
      have x5 : World.cell? w11 ⟨xb, 5, none⟩ = some (.int .i64 0) := by have := HX11.out.at_ 5 _ rfl; simpa using this
      have xl := HX11.out.lt
      go_wp2_with (go_at_call 12; (refine (hFree W0 _ h ck q fq p pq g bq bf 400 512 tu 512 31 64 (fun i => (i = cb ∨ i = xb) ∨ i = zb) (⟨0, [⟨512, r, 0⟩], lf1, P0, []⟩ : HSt) HK11.out true 512 (512 + k) 512 31 0 (by omega) (by simp)).mono ?_; (try dsimp only); rw [(once_free2 r lf1 P0 512 (512 + k) 512 31).1, (once_free2 r lf1 P0 512 (512 + k) 512 31).2]; rintro e w12 ⟨rfl, HK12, HOz⟩))
      go_ret
      exact ⟨rfl, HWW.out.trans HK12.out.base⟩
end heapOnce

end Go.Proofs.YtoeiemeffiiidaaDoor
