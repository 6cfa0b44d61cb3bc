/- Layer 14: New. -/
import Derived.Test.YtoeiemeffiiidaaDoorHepE
namespace Go.Proofs.YtoeiemeffiiidaaDoor
set_option linter.unusedSimpArgs false
set_option linter.unusedVariables false
open Go.RowKit

theorem rangeOf {w : World} {b o : Nat} {l : List Value} (k : Row w b 0 l) (m : List Value) (hm : ∀ j v, m[j]? = some v → l[o + j]? = some v) : w.rangeAt b o m := fun j v hj => by
  have := k.at_ (o + j) v (hm j v hj)
  simpa using this
theorem HpB.make {w W : World} {h ck q fq p pq g bq bf n : Nat} {fr tu ra rp full : Int} {vf : Value} {lf : List Pr} {P : Nat → Bool} (hb : Ext w W) (hr : Row W h 0 [.pointer (some ⟨ck, 0, none⟩), .pointer (some ⟨q, 0, none⟩), .bool true, .int .i64 fr, .int .i64 tu, .int .i64 ra, .int .i64 rp, .int .i64 0, .pointer (some ⟨fq, 0, none⟩), .pointer (some ⟨p, 0, none⟩), .map (some g)])
    (hc : Clk W ck 0) (hq : Qs W q bq full (sumL []) (.slice none 0 0) []) (he : EG w W fq bf fr tu vf lf) (hs : Sh W p pq n P) (hm : MapAt W g []) (lo : w.heap.size ≤ ck ∧ w.heap.size ≤ bq ∧ w.heap.size ≤ pq ∧ w.heap.size ≤ g) (nd : [h, ck, q, fq, p, pq, g].Nodup) (rf : ∀ b, vf.ownBlock = some b → b ∉ [h, ck, q, fq, p, pq, g]) :
    HpB w W h ck q fq p pq g bq bf n fr tu ra rp full (.slice none 0 0) vf ⟨0, [], lf, P, []⟩ := by
  have c : ∀ j v, [.pointer (some ⟨ck, 0, none⟩), .pointer (some ⟨q, 0, none⟩), .bool true, .int .i64 fr, .int .i64 tu, .int .i64 ra, .int .i64 rp, .int .i64 0, .pointer (some ⟨fq, 0, none⟩), .pointer (some ⟨p, 0, none⟩), .map (some g)][j]? = some v → W.cell? ⟨h, j, none⟩ = some v := fun j v hj => by have := hr.at_ j v hj; simpa using this
  refine ⟨hb, hr.lt, c 0 _ rfl, c 1 _ rfl, ?_, c 8 _ rfl, c 9 _ rfl, c 10 _ rfl, hc, hq, he, hs, hm, lo, nd, fun b e => (by cases e), rf, ⟨fun z hz => (by cases hz), goodL.nil, ⟨Int.le_refl _, (by show (0 : Int) ≤ 100000; decide)⟩, fun z hz => (by cases hz)⟩⟩
  refine rangeOf hr _ (fun j v hj => ?_)
  match j, hj with
  | 0, hj => exact hj
  | 1, hj => exact hj
  | 2, hj => exact hj
  | 3, hj => exact hj
  | 4, hj => exact hj
  | 5, hj => exact hj
  | j + 6, hj => simp at hj
theorem wp_makeMap {o : Oper} {a : Act} {w : World} {K : Act → World → Prop} {Q : Exit → Act → World → Prop} (ho : o.op = .makeMap 67 none) (hK : K (a.put o.dst (.map (some w.heap.size))) (w.alloc (.map #[] 0))) : o.wp Tryd.prog a w K Q := by
  unfold Oper.wp execOp
  simp only [ho]
  simp [go_sem]
  exact hK
theorem MapAt.new (w : World) : MapAt (w.alloc (.map #[] 0)) w.heap.size [] := ⟨[], 0, rfl, by simp, by simp, by simpa using heap_alloc_new w _⟩
def HNewIs (w W : World) (p pq n : Nat) (fr tu rp full : Int) (P : Nat → Bool) (T : Nat → Prop) (e : Ending) (W' : World) : Prop := ∃ h ck q fq g bq bf, e = .returned (.pointer (some ⟨h, 0, none⟩)) ∧ Hid (Hp w W' h ck q fq p pq g bq bf n fr tu fr rp full T ⟨0, [], [⟨fr, tu⟩], P, []⟩) ∧ Hid (Ext W W')
set_option maxRecDepth 100000 in
set_option maxHeartbeats 4000000 in
theorem hNew (w W : World) (p pq n : Nat) (fr tu rp full : Int) (P : Nat → Bool) (hb : Ext w W) (hs : Sh W p pq n P) (hpq : w.heap.size ≤ pq) (hR : rightC ⟨true, fr, tu, fr, rp, 0⟩ = true) (hG : [fr, tu].all g16 = true ∧ 0 ≤ fr ∧ fr < tu ∧ tu ≤ 16777216) (hfu : 1 ≤ full ∧ full ≤ 16777216) (T : Nat → Prop) (hT : ∀ i, T i → i < W.heap.size ∧ ¬ i = p ∧ ¬ i = pq) :
    Calls Tryd.prog 11 #[.agg #[.bool true, .int .i64 fr, .int .i64 tu, .int .i64 fr, .int .i64 rp, .int .i64 0], .pointer (some ⟨p, 0, none⟩), .int .i64 full] W fun e W' => HNewIs w W p pq n fr tu rp full P T e W' := by
  have HTT := hid hT
  clear hT
  have HB := hid hb
  have HS := hid hs
  have HPQ := hid hpq
  have HR := hid hR
  have HG := hid hG
  have HFU := hid hfu
  clear hb hs hpq hR hG hfu
  go_enter Tryd.func11, Tryd.ntmps11
  go_upto_region 3 with (go_at_call 27; refine (capRight true fr tu fr rp 0 _).mono ?_; rw [HR.out]; rintro e w1 ⟨rfl, hy⟩; obtain ⟨d, rfl⟩ := hy.grown; clear hy)
  refine wp_gen (fun V => Hid (Ext W V) ∧ Hid (Row V W.heap.size 0 [.bool true, .int .i64 fr, .int .i64 tu, .int .i64 fr, .int .i64 rp, .int .i64 0])) ⟨hid (by repeat (first | (with_reducible exact Ext.refl _) | (with_reducible refine Ext.undrew ?_) | (with_reducible refine Ext.grow ?_ _) | (with_reducible refine Ext.drew ?_) | (with_reducible refine Ext.drewN ?_ _) | (with_reducible refine Ext.alloc ?_ _) | (with_reducible assumption) | ((with_reducible refine Ext.setCell ?_ ?_ _); rotate_left; (first | exact Nat.le_refl _ | ((try dsimp only); (try simp only [World.size_alloc, grow_size, World.size_setCell]); omega))))), hid (by first | exact (Row.new W _ _).ext (by repeat (first | (with_reducible exact Ext.refl _) | (with_reducible refine Ext.undrew ?_) | (with_reducible refine Ext.grow ?_ _) | (with_reducible refine Ext.drew ?_) | (with_reducible refine Ext.drewN ?_ _) | (with_reducible refine Ext.alloc ?_ _) | (with_reducible assumption) | ((with_reducible refine Ext.setCell ?_ ?_ _); rotate_left; (first | exact Nat.le_refl _ | ((try dsimp only); (try simp only [World.size_alloc, grow_size, World.size_setCell]); omega))))) | (have := (Row.new W #[.bool true, .int .i64 fr, .int .i64 tu, .int .i64 fr, .int .i64 rp, .int .i64 0] 27).ext (Ext.grow (Ext.refl _) d); exact this))⟩ ?_
  rintro W1 ⟨HX1, HB1⟩
  obtain ⟨rb, hrb⟩ : ∃ z, W.heap.size = z := ⟨_, rfl⟩
  rw [hrb] at HB1 ⊢
  clear hrb
  have r0 : World.cell? W1 ⟨rb, 0, none⟩ = some (.bool true) := by have := HB1.out.at_ 0 _ rfl; simpa using this
  have rf0 : World.frozen? W1 ⟨rb, 0, none⟩ = false := by have := HB1.out.free 0 (by simp); simpa using this
  have r1 : World.cell? W1 ⟨rb, 1, none⟩ = some (.int .i64 fr) := by have := HB1.out.at_ 1 _ rfl; simpa using this
  have rf1 : World.frozen? W1 ⟨rb, 1, none⟩ = false := by have := HB1.out.free 1 (by simp); simpa using this
  have r2 : World.cell? W1 ⟨rb, 2, none⟩ = some (.int .i64 tu) := by have := HB1.out.at_ 2 _ rfl; simpa using this
  have rf2 : World.frozen? W1 ⟨rb, 2, none⟩ = false := by have := HB1.out.free 2 (by simp); simpa using this
  have r3 : World.cell? W1 ⟨rb, 3, none⟩ = some (.int .i64 fr) := by have := HB1.out.at_ 3 _ rfl; simpa using this
  have rf3 : World.frozen? W1 ⟨rb, 3, none⟩ = false := by have := HB1.out.free 3 (by simp); simpa using this
  have r4 : World.cell? W1 ⟨rb, 4, none⟩ = some (.int .i64 rp) := by have := HB1.out.at_ 4 _ rfl; simpa using this
  have rf4 : World.frozen? W1 ⟨rb, 4, none⟩ = false := by have := HB1.out.free 4 (by simp); simpa using this
  have r5 : World.cell? W1 ⟨rb, 5, none⟩ = some (.int .i64 0) := by have := HB1.out.at_ 5 _ rfl; simpa using this
  have rf5 : World.frozen? W1 ⟨rb, 5, none⟩ = false := by have := HB1.out.free 5 (by simp); simpa using this
  have rl := HB1.out.lt
  go_upto_region 6 with (first | (go_at_call 28; refine (enew_ fr tu _ HG.out.1 HG.out.2.1 HG.out.2.2.1 HG.out.2.2.2).mono ?_; rintro e w2 ⟨fq, vf, rfl, hfq, hx2, hF2⟩) | (go_at_call 29; refine (qnew_ full _ HFU.out.1 HFU.out.2).mono ?_; rintro e w3 ⟨q, rfl, hq3, hx3, hQ3⟩))
  have HX3 : Hid (Ext W1 w3) := hid (hx2.trans hx3)
  have HB3 := hid (HB1.out.ext HX3.out)
  clear r0 rf0 r1 rf1 r2 rf2 r3 rf3 r4 rf4 r5 rf5 rl
  have r0 : World.cell? w3 ⟨rb, 0, none⟩ = some (.bool true) := by have := HB3.out.at_ 0 _ rfl; simpa using this
  have rf0 : World.frozen? w3 ⟨rb, 0, none⟩ = false := by have := HB3.out.free 0 (by simp); simpa using this
  have r1 : World.cell? w3 ⟨rb, 1, none⟩ = some (.int .i64 fr) := by have := HB3.out.at_ 1 _ rfl; simpa using this
  have rf1 : World.frozen? w3 ⟨rb, 1, none⟩ = false := by have := HB3.out.free 1 (by simp); simpa using this
  have r2 : World.cell? w3 ⟨rb, 2, none⟩ = some (.int .i64 tu) := by have := HB3.out.at_ 2 _ rfl; simpa using this
  have rf2 : World.frozen? w3 ⟨rb, 2, none⟩ = false := by have := HB3.out.free 2 (by simp); simpa using this
  have r3 : World.cell? w3 ⟨rb, 3, none⟩ = some (.int .i64 fr) := by have := HB3.out.at_ 3 _ rfl; simpa using this
  have rf3 : World.frozen? w3 ⟨rb, 3, none⟩ = false := by have := HB3.out.free 3 (by simp); simpa using this
  have r4 : World.cell? w3 ⟨rb, 4, none⟩ = some (.int .i64 rp) := by have := HB3.out.at_ 4 _ rfl; simpa using this
  have rf4 : World.frozen? w3 ⟨rb, 4, none⟩ = false := by have := HB3.out.free 4 (by simp); simpa using this
  have r5 : World.cell? w3 ⟨rb, 5, none⟩ = some (.int .i64 0) := by have := HB3.out.at_ 5 _ rfl; simpa using this
  have rf5 : World.frozen? w3 ⟨rb, 5, none⟩ = false := by have := HB3.out.free 5 (by simp); simpa using this
  have rl := HB3.out.lt
  have hlt : fq < w3.heap.size ∧ q < w3.heap.size ∧ p < w3.heap.size ∧ pq < w3.heap.size := ⟨Nat.lt_of_lt_of_le hF2.1 hx3.size, hQ3.1, Nat.lt_of_lt_of_le (HS.out.ext (HX1.out.trans HX3.out)).ltp (Nat.le_refl _), Nat.lt_of_lt_of_le (HS.out.ext (HX1.out.trans HX3.out)).ltq (Nat.le_refl _)⟩
  have HLT := hid hlt
  have HN1 : Hid (p < W1.heap.size ∧ pq < W1.heap.size ∧ W1.heap.size ≤ fq ∧ fq < w2.heap.size ∧ w2.heap.size ≤ q ∧ ¬ p = pq) := hid ⟨(HS.out.ext HX1.out).ltp, (HS.out.ext HX1.out).ltq, hfq, hF2.1, hq3, HS.out.np⟩
  have HF3 : Hid (Fr w3 fq W1.heap.size fr tu vf [⟨fr, tu⟩]) := hid (hF2.ext hx3)
  have HQ3 := hid hQ3
  have HVF : Hid (∀ b, vf.ownBlock = some b → W1.heap.size ≤ b ∧ b < w2.heap.size ∧ ¬ b = fq) := hid (fun b e => ⟨(hF2.2.2.2.1.lt b e).1, (hF2.2.2.2.1.lt b e).2, hF2.2.2.2.2.2 b e⟩)
  have HS3 := hid (HS.out.ext (HX1.out.trans HX3.out))
  have HXW : Hid (Ext w w3) := hid (HB.out.trans (HX1.out.trans HX3.out))
  have HW1 : Hid (w.heap.size ≤ W1.heap.size ∧ W1.heap.size ≤ w2.heap.size ∧ w2.heap.size ≤ w3.heap.size) := hid ⟨Nat.le_trans HB.out.size HX1.out.size, hx2.size, hx3.size⟩
  have HXX := hid HX3.out
  have HXA := hid HX1.out
  have HGO : Hid (Good fr tu [⟨fr, tu⟩]) := hid (Good.one HG.out.2.2.1)
  clear hx2 hx3 hF2 hQ3 hlt hfq hq3 HX1 HX3 HB1 HS HB
  refine wp_region_step (.rd 1 (.rd 2 (.rd 3 (.rd 4 (.br 0 (.ac 5 (.rd 6 (.rd 7 (.ac 8 (.rd 9 .done))))) 5 (.ac 0 (.rd 6 (.rd 7 (.ac 8 (.rd 9 .done)))))))))) (by kernel_rfl) (by kernel_rfl) (fun _ _ d _ _ h => by cases d <;> exact h) (by simp only [Ord.map, nthOp, List.append]; rfl) ?_
  intro d0
  repeat' (first | (refine step_read (by rfl) (fun K hK => ?_); go_big_quiet_op; refine hK _ ?_; clear hK K) | (refine step_act (by rfl) (fun K hK => ?_); go_wp2_with (first | (go_at_call 30; refine (new _).mono ?_; rintro e w9 ⟨ck, rfl, hy9, hck, hclk⟩)); refine ⟨_, (by repeat (first | (with_reducible exact Ext.refl _) | (with_reducible refine Ext.undrew ?_) | (with_reducible refine Ext.grow ?_ _) | (with_reducible refine Ext.drew ?_) | (with_reducible refine Ext.drewN ?_ _) | (with_reducible refine Ext.alloc ?_ _) | (with_reducible assumption) | ((with_reducible refine Ext.setCell ?_ ?_ _); rotate_left; (first | exact Nat.le_refl _ | ((try dsimp only); (try simp only [World.size_alloc, grow_size, World.size_setCell]); omega))))), Ext.refl _, ?_⟩) | (refine step_act (by rfl) (fun K hK => ?_); refine wp_makeMap rfl ?_; refine hK _ _ ⟨_, Ext.alloc (Ext.refl _) _, Ext.refl _, ?_⟩; clear hK K; simp only [Act.put, List.setIfInBounds_toArray, List.set_cons_zero, List.set_cons_succ]) | refine step_br ?_ ?_)
  all_goals refine step_nil ?_

  · have hX := ((Ext.grow (Ext.refl w3) d0).trans hy9)
    have hX2 : Ext w9 _ := (Ext.alloc (Ext.alloc (Ext.refl w9) (.map #[] 0)) (.cells #[.pointer (some ⟨ck, 0, none⟩), .pointer (some ⟨q, 0, none⟩), .bool true, .int .i64 fr, .int .i64 tu, .int .i64 fr, .int .i64 rp, .int .i64 0, .pointer (some ⟨fq, 0, none⟩), .pointer (some ⟨p, 0, none⟩), .map (some w9.heap.size)] 71))
    have e1 := hck
    have e2 := hclk.1
    have e3 := HN1.out
    have e4 := HW1.out
    have e5 := HLT.out
    have e6 := hX.size
    have e7 := HPQ.out
    have e8 : w3.heap.size + d0.n ≤ w9.heap.size := by have := hy9.size; (try simp only [World.size_alloc, grow_size] at this); omega
    skip
    simp only [World.size_alloc, grow_size] at e1
    have hFf := ((HF3.out.ext hX).ext hX2)
    have hK : HpB w _ (w9.heap.size + 1) ck q fq p pq w9.heap.size w2.heap.size W1.heap.size n fr tu fr rp full (.slice none 0 0) vf ⟨0, [], [⟨fr, tu⟩], P, []⟩ :=
      HpB.make ((HXW.out.trans hX).trans hX2) (by have := Row.new (w9.alloc (.map #[] 0)) #[.pointer (some ⟨ck, 0, none⟩), .pointer (some ⟨q, 0, none⟩), .bool true, .int .i64 fr, .int .i64 tu, .int .i64 fr, .int .i64 rp, .int .i64 0, .pointer (some ⟨fq, 0, none⟩), .pointer (some ⟨p, 0, none⟩), .map (some w9.heap.size)] 71; simpa only [World.size_alloc] using this)
        ⟨Nat.lt_of_lt_of_le hclk.1 hX2.size, (hX2.cells ck _ hclk.1).trans hclk.2.1, (hX2.frozens ck _ hclk.1).trans hclk.2.2⟩ ((HQ3.out.ext hX).ext hX2) ⟨⟨hFf, (HXW.out.trans hX).trans hX2, by omega⟩, HGO.out, HG.out.2.1, HG.out.2.2.2⟩ ((HS3.out.ext hX).ext hX2) ((MapAt.new w9).ext (Ext.alloc (Ext.refl _) _)) ⟨by omega, by omega, by omega, by omega⟩
        (by simp only [List.nodup_cons, List.mem_cons, not_or, List.not_mem_nil, not_false_eq_true, and_true, List.nodup_nil]; omega) (fun b e hm => by have := HVF.out b e; simp only [List.mem_cons, List.not_mem_nil, or_false] at hm; omega)
    have HFT : FrT T _ [(w9.heap.size + 1), ck, q, fq, p, pq, w9.heap.size] (.slice none 0 0) vf := fun i hi => (by
      obtain ⟨t1, t2, t3⟩ := HTT.out i hi
      have t4 := HXA.out.size
      have t5 := hX2.size
      refine ⟨(by omega), ?_, (fun e => (by cases e)), (fun e => (by have := HVF.out i e; omega))⟩
      simp only [List.mem_cons, List.not_mem_nil, or_false]
      omega)
    have HKK : Hid (Hp w _ (w9.heap.size + 1) ck q fq p pq w9.heap.size w2.heap.size W1.heap.size n fr tu fr rp full T ⟨0, [], [⟨fr, tu⟩], P, []⟩) := hid ⟨_, _, hK, HFT.same (Nat.le_trans HXA.out.size (Nat.le_trans HXX.out.size (Nat.le_trans hX.size hX2.size)))⟩
    have HXF := hid ((HXX.out.trans hX).trans hX2)
    have HXG := hid (HXA.out.trans HXF.out)
    clear hK HFT hX hX2 hFf e1 e2 e3 e4 e5 e6 e7 e8 hy9 hck hclk
    go_wp2
    go_ret
    exact ⟨_, _, _, _, _, _, _, rfl, HKK, HXG⟩
  · have hX := ((Ext.alloc (Ext.grow (Ext.refl w3) d0) (.map #[] 0)).trans hy9)
    have hX2 : Ext w9 _ := (Ext.alloc (Ext.refl w9) (.cells #[.pointer (some ⟨ck, 0, none⟩), .pointer (some ⟨q, 0, none⟩), .bool true, .int .i64 fr, .int .i64 tu, .int .i64 fr, .int .i64 rp, .int .i64 0, .pointer (some ⟨fq, 0, none⟩), .pointer (some ⟨p, 0, none⟩), .map (some (w3.heap.size + d0.n))] 71))
    have e1 := hck
    have e2 := hclk.1
    have e3 := HN1.out
    have e4 := HW1.out
    have e5 := HLT.out
    have e6 := hX.size
    have e7 := HPQ.out
    have e8 : w3.heap.size + d0.n ≤ w9.heap.size := by have := hy9.size; (try simp only [World.size_alloc, grow_size] at this); omega
    have e9 : w3.heap.size + d0.n < w9.heap.size := by have := hy9.size; simp only [World.size_alloc, grow_size] at this; omega
    simp only [World.size_alloc, grow_size] at e1
    have hFf := ((HF3.out.ext hX).ext hX2)
    have hK : HpB w _ w9.heap.size ck q fq p pq (w3.heap.size + d0.n) w2.heap.size W1.heap.size n fr tu fr rp full (.slice none 0 0) vf ⟨0, [], [⟨fr, tu⟩], P, []⟩ :=
      HpB.make ((HXW.out.trans hX).trans hX2) (by have := Row.new w9 #[.pointer (some ⟨ck, 0, none⟩), .pointer (some ⟨q, 0, none⟩), .bool true, .int .i64 fr, .int .i64 tu, .int .i64 fr, .int .i64 rp, .int .i64 0, .pointer (some ⟨fq, 0, none⟩), .pointer (some ⟨p, 0, none⟩), .map (some (w3.heap.size + d0.n))] 71; simpa only [World.size_alloc] using this)
        ⟨Nat.lt_of_lt_of_le hclk.1 hX2.size, (hX2.cells ck _ hclk.1).trans hclk.2.1, (hX2.frozens ck _ hclk.1).trans hclk.2.2⟩ ((HQ3.out.ext hX).ext hX2) ⟨⟨hFf, (HXW.out.trans hX).trans hX2, by omega⟩, HGO.out, HG.out.2.1, HG.out.2.2.2⟩ ((HS3.out.ext hX).ext hX2) (by have := ((MapAt.new (Go.Proofs.YtoeiemeffiiidaaDoor.grow w3 d0)).ext (hy9.trans (Ext.alloc (Ext.refl w9) (.cells #[.pointer (some ⟨ck, 0, none⟩), .pointer (some ⟨q, 0, none⟩), .bool true, .int .i64 fr, .int .i64 tu, .int .i64 fr, .int .i64 rp, .int .i64 0, .pointer (some ⟨fq, 0, none⟩), .pointer (some ⟨p, 0, none⟩), .map (some (w3.heap.size + d0.n))] 71)))); simpa only [grow_size] using this) ⟨by omega, by omega, by omega, by omega⟩
        (by simp only [List.nodup_cons, List.mem_cons, not_or, List.not_mem_nil, not_false_eq_true, and_true, List.nodup_nil]; omega) (fun b e hm => by have := HVF.out b e; simp only [List.mem_cons, List.not_mem_nil, or_false] at hm; omega)
    have HFT : FrT T _ [w9.heap.size, ck, q, fq, p, pq, (w3.heap.size + d0.n)] (.slice none 0 0) vf := fun i hi => (by
      obtain ⟨t1, t2, t3⟩ := HTT.out i hi
      have t4 := HXA.out.size
      have t5 := hX2.size
      refine ⟨(by omega), ?_, (fun e => (by cases e)), (fun e => (by have := HVF.out i e; omega))⟩
      simp only [List.mem_cons, List.not_mem_nil, or_false]
      omega)
    have HKK : Hid (Hp w _ w9.heap.size ck q fq p pq (w3.heap.size + d0.n) w2.heap.size W1.heap.size n fr tu fr rp full T ⟨0, [], [⟨fr, tu⟩], P, []⟩) := hid ⟨_, _, hK, HFT.same (Nat.le_trans HXA.out.size (Nat.le_trans HXX.out.size (Nat.le_trans hX.size hX2.size)))⟩
    have HXF := hid ((HXX.out.trans hX).trans hX2)
    have HXG := hid (HXA.out.trans HXF.out)
    clear hK HFT hX hX2 hFf e1 e2 e3 e4 e5 e6 e7 e8 hy9 hck hclk
    go_wp2
    go_ret
    exact ⟨_, _, _, _, _, _, _, rfl, HKK, HXG⟩

end Go.Proofs.YtoeiemeffiiidaaDoor
