/- Layer 14: End. -/
import Derived.Test.YtoeiemeffiiidaaDoorHepG
namespace Go.Proofs.YtoeiemeffiiidaaDoor
set_option linter.unusedSimpArgs false
set_option linter.unusedVariables false
open Go.RowKit

open Classical in
/-- What giving one back makes of what is free. -/
noncomputable def giveS (fr tu : Int) (lf : List Pr) (z : Hd) : List Pr := if giveC fr tu z.at_ z.n lf then giveL lf (kOf z.at_ lf) ⟨z.at_, z.at_ + z.n⟩ else lf
noncomputable def giveAll (fr tu : Int) (lf : List Pr) (l : List Hd) : List Pr := l.foldl (giveS fr tu) lf
theorem giveAll_snoc (fr tu : Int) (lf : List Pr) (l : List Hd) (z : Hd) : giveAll fr tu lf (l ++ [z]) = giveS fr tu (giveAll fr tu lf l) z := by simp [giveAll]
noncomputable def HSt.endd (n : Nat) (fr tu : Int) (x : HSt) : HSt := if oddB x.t = true then ⟨x.t + 1, x.lq.drop (x.lq.takeWhile (dueB (x.t + 1))).length, giveAll fr tu x.lf (x.lq.takeWhile (dueB (x.t + 1))), paintAll n false x.P (x.lq.takeWhile (dueB (x.t + 1))), x.lv⟩ else x
def GiveIs (w0 w : World) (q base : Nat) (fr tu : Int) (v : Value) (l' : List Pr) (e : Ending) (w' : World) : Prop := ∃ (b : Bool) (v' : Value), e = .returned (.bool b) ∧ Hid (EG w0 w' q base fr tu v' l') ∧ Hid (Only (tch q v) w w') ∧ Hid (∀ g, v'.ownBlock = some g → v.ownBlock = some g ∨ w.heap.size ≤ g)
theorem oGiveS (w0 : World) (q base : Nat) (fr tu : Int) (v : Value) (l : List Pr) (W : World) (h : EG w0 W q base fr tu v l) (z : Hd) : Calls Tryd.prog 39 #[.pointer (some ⟨q, 0, none⟩), .int .i64 z.at_, .int .i64 z.n] W fun e w' => GiveIs w0 W q base fr tu v (giveS fr tu l z) e w' := by
  by_cases c : giveC fr tu z.at_ z.n l
  · refine (oGive w0 q base fr tu v l W h z.at_ z.n c).mono ?_
    rintro e w' ⟨v', rfl, h1, h2, h3⟩
    exact ⟨true, v', rfl, by unfold giveS; rw [if_pos c]; exact h1, h2, h3⟩
  · refine (oGiveNo w0 q base fr tu v l W h z.at_ z.n c).mono ?_
    rintro e w' ⟨v', rfl, h1, h2, h3⟩
    exact ⟨false, v', rfl, by unfold giveS; rw [if_neg c]; exact h1, h2, h3⟩
set_option maxRecDepth 100000 in
set_option maxHeartbeats 4000000 in
theorem hEnd (w W : World) (h ck q fq p pq g bq bf n : Nat) (fr tu ra rp full : Int) (T : Nat → Prop) (x : HSt) (k : Hp w W h ck q fq p pq g bq bf n fr tu ra rp full T x) (hll : x.lq.length ≤ 900) (htt : x.t ≤ 99990) : Calls Tryd.prog 14 #[.pointer (some ⟨h, 0, none⟩)] W fun e W' => e = .returned (.bool (oddB x.t)) ∧ Hid (Hp w W' h ck q fq p pq g bq bf n fr tu ra rp full T (x.endd n fr tu)) ∧ Hid (Only (fun i => ¬ T i) W W') := by
  obtain ⟨vq, vf, k, hT⟩ := k
  have HT9 := hid hT
  clear hT
  have HK := hid k
  have c0 := k.c0
  have c1 := k.c1
  have hl := k.hl
  obtain ⟨ht0, ht1⟩ := k.okl.2.2.1
  have HLL := hid hll
  have HNH : Hid (¬ h = ck) := hid k.ne.1.1
  have nh := HNH.out
  clear k hll
  obtain ⟨od, hod⟩ : ∃ b, oddB x.t = b := ⟨_, rfl⟩
  have HOD := hid hod
  rw [hod]
  clear hod
  cases od with
  | false =>
    have het : endT x.t = x.t := by
      unfold endT
      rw [if_neg (fun e => by have := (oddB_iff x.t).2 e; rw [HOD.out] at this; cases this)]
    have HET := hid het
    go_enter Tryd.func14, Tryd.ntmps14
    go_wp2_with (go_at_call 37; refine (end_ ck x.t _ HK.out.clk ht0 ht1).mono ?_; rw [HOD.out, HET.out]; rintro e w1 ⟨rfl, d9, rfl⟩; have hcs := clk_set (u := x.t) HK.out.clk d9)
    go_ret
    exact ⟨rfl, hid ⟨vq, vf, by
      have h9 := HK.out.setClk (u := x.t) hcs.1 hcs.2 (by omega)
      unfold HSt.endd
      rw [if_neg (by rw [HOD.out]; simp)]
      exact h9, HT9.out.same hcs.2.size⟩, hid (hcs.2.offT (by rintro i rfl ht; exact (HT9.out _ ht).2.1 (by simp)))⟩
  | true =>
    have het : endT x.t = x.t + 1 := by
      unfold endT
      rw [if_pos ((oddB_iff x.t).1 HOD.out)]
    have HET := hid het
    obtain ⟨tk, htk⟩ : ∃ l, x.lq.takeWhile (dueB (x.t + 1)) = l := ⟨_, rfl⟩
    obtain ⟨rest, hrest⟩ : ∃ l, x.lq.drop tk.length = l := ⟨_, rfl⟩
    have HEND : Hid (x.endd n fr tu = ⟨x.t + 1, rest, giveAll fr tu x.lf tk, paintAll n false x.P tk, x.lv⟩) := hid (by unfold HSt.endd; rw [if_pos HOD.out, htk, hrest])
    have HTKE := hid htk
    have HRE := hid hrest
    obtain ⟨m, hm⟩ : ∃ m, tk.length = m := ⟨_, rfl⟩
    have HLM := hid hm
    have hm9 : m ≤ 900 := by rw [← hm, ← htk]; exact Nat.le_trans (List.takeWhile_sublist _).length_le HLL.out
    clear het htk hrest hm
    go_enter Tryd.func14, Tryd.ntmps14
    go_upto_region 3 with (go_at_call 37; refine (end_ ck x.t _ HK.out.clk ht0 ht1).mono ?_; rw [HOD.out, HET.out]; rintro e w1 ⟨rfl, d9, rfl⟩; have hcs := clk_set (u := x.t + 1) HK.out.clk d9)
    have HK1 := hid (HK.out.setClk (u := x.t + 1) hcs.1 hcs.2 (by omega))
    have HON : Hid (Only (fun i => ¬ T i) W (Go.Proofs.YtoeiemeffiiidaaDoor.grow (W.setCell ⟨ck, 0, none⟩ (.int .i64 (x.t + 1))) d9)) := hid (hcs.2.offT (by rintro i rfl ht; exact (HT9.out _ ht).2.1 (by simp)))
    generalize Go.Proofs.YtoeiemeffiiidaaDoor.grow (W.setCell ⟨ck, 0, none⟩ (.int .i64 (x.t + 1))) d9 = W1 at HK1 HON ⊢
    clear hcs c0 c1 hl
    have c0 := HK1.out.c0
    have c1 := HK1.out.c1
    have hl := HK1.out.hl
    have nq : ¬ h = q := HK1.out.ne.1.2.1
    refine wp_region_turn (q := q) (.rd 0 (.rd 1 (.rd 2 (.rd 3 (.rd 4 (.rd 5 (.rd 6 (.rd 7 (.rd 8 (.rd 9 (.rd 13 (.ac 10 (.ac 11 (.rd 12 .done)))))))))))))) (by kernel_rfl) (by kernel_rfl) (fun _ _ d _ _ h => by cases d <;> exact h) (by simp only [Ord.map, nthOp, List.append]; rfl) ?_
    intro d1
    have HK2 := hid (HK1.out.ext (Ext.grow (Ext.refl W1) d1))
    repeat (refine turn_read (by rfl) (fun K hK => ?_); go_big_quiet_op; refine hK _ ?_; clear hK K)
    have ht2 : (0 : Int) ≤ x.t + 1 ∧ x.t + 1 ≤ 100000 := by omega
    refine turn_act (by rfl) (fun K hK => ?_)
    go_wp2_with (go_at_call 33; refine (now ck (x.t + 1) _ HK2.out.clk ht2.1 ht2.2).mono ?_; rintro e w1 ⟨rfl, rfl⟩)
    refine ⟨_, Only.refl _ _, Only.refl _ _, ?_⟩
    refine turn_act (by rfl) (fun K hK => ?_)
    go_wp2_with (go_at_call 38; refine (qdueT q bq full vq x.lq _ HK2.out.qs HK2.out.okl.2.1 (by have := HLL.out; omega) (x.t + 1) tk rest HTKE.out HRE.out).mono ?_; rw [HLM.out]; rintro e W3 ⟨A2, c2, v2, rfl, hq3, hr3, ho3, hv3, hf3⟩)
    refine ⟨_, Only.refl _ _, ho3, ?_⟩
    repeat (refine turn_read (by rfl) (fun K hK => ?_); go_big_quiet_op; refine hK _ ?_; clear hK K)
    refine turn_nil ?_
    have HM9 : Hid (∀ z ∈ tk, z ∈ x.lq) := hid (fun z hz => by rw [← HTKE.out] at hz; exact (List.takeWhile_sublist _).subset hz)
    have HD9 : Hid (∀ z ∈ rest, z ∈ x.lq) := hid (fun z hz => by rw [← HRE.out] at hz; exact List.mem_of_mem_drop hz)
    have HZO : Hid (∀ z ∈ tk, (0 ≤ z.at_ ∧ z.at_ ≤ 16777216 ∧ 0 ≤ z.n ∧ z.n ≤ 16777216)) := hid (fun z hz => ⟨(HK2.out.okl.2.2.2 z (HM9.out z hz)).2.1, (HK2.out.okl.2.2.2 z (HM9.out z hz)).2.2, ((HK2.out.okl.2.1 z (HM9.out z hz)).1).1, ((HK2.out.okl.2.1 z (HM9.out z hz)).1).2⟩)
    have HK3 : Hid (HpB w W3 h ck q fq p pq g bq bf n fr tu ra rp full v2 vf ⟨x.t + 1, rest, giveAll fr tu x.lf (tk.take 0), paintAll n false x.P (tk.take 0), x.lv⟩) := hid (HK2.out.setQs (lq' := rest) hq3.out (Only.trans (S := tch q vq) (Only.refl _ _) ho3 (fun i e => .inl (.inl e))) (fun b e => .inl (hv3 b e)) (fun z hz => HK2.out.okl.2.1 z (HD9.out z hz)) (fun z hz => HK2.out.okl.2.2.2 z (HD9.out z hz)))
    have HA3 : Hid (∀ b o, A2 = some ⟨b, o, none⟩ → ¬ vf.ownBlock = some b ∧ (0 < tk.length → b < W3.heap.size) ∧ ¬ b = pq ∧ ¬ b = fq) := hid (fun b o e => by
      have h1 := hf3.out b o e
      have k := HK2.out
      have h2 := k.sh.ltq
      have h3 := k.ex.1.1.1
      refine ⟨fun c => ?_, ?_, by omega, by omega⟩
      · have := (k.ex.1.1.2.2.2.1.lt b c).2; omega
      · intro h0
        obtain ⟨b', o', e', hb', _⟩ := hr3.out h0
        rw [e] at e'
        cases e'
        exact hb')
    have HON3 : Hid (Only (fun i => ¬ T i) W W3) := hid ((HON.out.transExt (Ext.grow (Ext.refl W1) d1)).trans' (ho3.offT (by rintro i rfl ht; exact (HT9.out _ ht).2.1 (by simp))))
    have HF9 : Hid (FrT T W3 [h, ck, q, fq, p, pq, g] v2 vf) := hid ((HT9.out.same (HON.out.transExt (Ext.grow (Ext.refl W1) d1)).size).upd ho3.size (fun b e => .inl (hv3 b e)) (fun _ e => .inl e))
    clear HK1 HK2 hq3 ho3 hv3 hf3 c0 c1 hl nq ht2 HK
    try simp only [Act.put, List.setIfInBounds_toArray, List.set_cons_zero, List.set_cons_succ]
    go_wp2
    go_loopw [25] (fun i wr => ∃ (k : Nat) (vg : Value), k ≤ m ∧ i = .int .i64 k ∧ Hid (HpB w wr h ck q fq p pq g bq bf n fr tu ra rp full v2 vg ⟨x.t + 1, rest, giveAll fr tu x.lf (tk.take k), paintAll n false x.P (tk.take k), x.lv⟩) ∧ Hid (RdH wr A2 tk) ∧ Hid (∀ b o, A2 = some ⟨b, o, none⟩ → ¬ vg.ownBlock = some b ∧ (0 < tk.length → b < wr.heap.size) ∧ ¬ b = pq ∧ ¬ b = fq) ∧ Hid (Only (fun i => ¬ T i) W wr) ∧ Hid (FrT T wr [h, ck, q, fq, p, pq, g] v2 vg)) (fun i _ => m - (intOf i).toNat)
    case atStart => exact ⟨0, vf, Nat.zero_le _, rfl, HK3, hr3, HA3, HON3, HF9⟩
    case round =>
      clear HK3 hr3 HA3 HON3 HF9
      obtain ⟨k, vg, hk, rfl, HKr, HRr, HAP, HOr, HFr⟩ := hrel
      have hk0 : (0 : Int) ≤ (k : Int) := by omega
      by_cases hlt : k < m
      · have hk1 : (k : Int) < (m : Int) := by omega
        have hkl : k < tk.length := by rw [HLM.out]; exact hlt
        obtain ⟨z, hz⟩ : ∃ z, tk[k] = z := ⟨_, rfl⟩
        have HZM : Hid (z ∈ tk) := hid (by rw [← hz]; exact List.getElem_mem hkl)
        have HTK : Hid (tk.take (k + 1) = tk.take k ++ [z]) := hid (by rw [List.take_succ_eq_append_getElem hkl, hz])
        have HT0 : Hid (0 < tk.length) := hid (by omega)
        obtain ⟨b0, o0, rfl, hb0, d0c, d1c, d2c⟩ := HRr.out.three hkl
        rw [hz] at d0c d1c d2c
        clear hz
        have hzb := HZO.out z HZM.out
        obtain ⟨z1, z2, z3, z4⟩ := hzb
        go_upto_region 6 with (fail)
        refine wp_gen (fun V => Hid (HpB w V h ck q fq p pq g bq bf n fr tu ra rp full v2 vg ⟨x.t + 1, rest, giveAll fr tu x.lf (tk.take k), paintAll n false x.P (tk.take k), x.lv⟩) ∧ Hid (Row V wr.heap.size 0 [.int .i64 z.at_, .int .i64 z.n, .int .i64 z.time]) ∧ Hid (Ext wr V)) ⟨hid (HKr.out.ext (by repeat (first | (with_reducible exact Ext.refl _) | (with_reducible refine Ext.undrew ?_) | (with_reducible refine Ext.grow ?_ _) | (with_reducible refine Ext.drew ?_) | (with_reducible refine Ext.drewN ?_ _) | (with_reducible refine Ext.alloc ?_ _) | (with_reducible assumption) | ((with_reducible refine Ext.setCell ?_ ?_ _); rotate_left; (first | exact Nat.le_refl _ | ((try dsimp only); (try simp only [World.size_alloc, grow_size, World.size_setCell]); omega)))))), hid (Row.new wr _ _), hid (by repeat (first | (with_reducible exact Ext.refl _) | (with_reducible refine Ext.undrew ?_) | (with_reducible refine Ext.grow ?_ _) | (with_reducible refine Ext.drew ?_) | (with_reducible refine Ext.drewN ?_ _) | (with_reducible refine Ext.alloc ?_ _) | (with_reducible assumption) | ((with_reducible refine Ext.setCell ?_ ?_ _); rotate_left; (first | exact Nat.le_refl _ | ((try dsimp only); (try simp only [World.size_alloc, grow_size, World.size_setCell]); omega)))))⟩ ?_
        rintro V ⟨HKV, HZV, HXV⟩
        have HZL : Hid (wr.heap.size ∉ [h, ck, q, fq, p, pq, g] ∧ ¬ vg.ownBlock = some wr.heap.size) := hid (by
          have k := HKr.out
          refine ⟨fun hi => ?_, fun e => ?_⟩
          · simp only [List.mem_cons, List.not_mem_nil, or_false] at hi
            have e1 := k.hl
            have e2 := k.clk.1
            have e3 := k.qs.1
            have e4 := k.ex.1.1.1
            have e5 := k.sh.ltp
            have e6 := k.sh.ltq
            have e7 := k.mp.lt
            omega
          · have := (k.ex.1.1.2.2.2.1.lt _ e).2; omega)
        clear d0c d1c d2c hb0
        generalize wr.heap.size = zb at HZV HZL ⊢
        have hl := HKV.out.hl
        have c9 := HKV.out.c9
        have n1 : ¬ h = pq := HKV.out.ne.1.2.2.2.2.1
        have n2 : ¬ zb = pq := fun e => HZL.out.1 (by simp [e])
        have y0 : World.cell? V ⟨zb, 0, none⟩ = some (.int .i64 z.at_) := by have := HZV.out.at_ 0 _ rfl; simpa using this
        have y1 : World.cell? V ⟨zb, 1, none⟩ = some (.int .i64 z.n) := by have := HZV.out.at_ 1 _ rfl; simpa using this
        have y2 : World.cell? V ⟨zb, 2, none⟩ = some (.int .i64 z.time) := by have := HZV.out.at_ 2 _ rfl; simpa using this
        have yl := HZV.out.lt
        refine wp_region_turn (q := pq) (.rd 0 (.rd 1 (.rd 2 (.rd 3 (.rd 4 (.rd 5 (.rd 6 (.rd 7 (.rd 8 (.rd 9 (.rd 10 (.rd 11 (.ac 12 .done))))))))))))) (by kernel_rfl) (by kernel_rfl) (fun _ _ d _ _ h => by cases d <;> exact h) (by simp only [Ord.map, nthOp, List.append]; rfl) ?_
        intro d5
        have hxg : Ext V (Go.Proofs.YtoeiemeffiiidaaDoor.grow V d5) := Ext.grow (Ext.refl _) d5
        have HKg := hid (HKV.out.ext hxg)
        repeat (refine turn_read (by rfl) (fun K hK => ?_); go_big_quiet_op; refine hK _ ?_; clear hK K)
        refine turn_act (by rfl) (fun K hK => ?_)
        go_wp2_with (go_at_call 36; refine (paint_any HKg.out.sh z.at_ (z.at_ + z.n) false).mono ?_; rintro e W6 ⟨rfl, hs6, ho6⟩)
        refine ⟨_, Only.refl _ _, ho6, ?_⟩
        refine turn_nil ?_
        have HK6 : Hid (HpB w W6 h ck q fq p pq g bq bf n fr tu ra rp full v2 vg ⟨x.t + 1, rest, giveAll fr tu x.lf (tk.take k), paintAll n false x.P (tk.take (k + 1)), x.lv⟩) := hid (by
          rw [HTK.out, paintAll_snoc]
          exact HKg.out.setSh hs6 ho6)
        have HR6 : Hid (RdH W6 (some ⟨b0, o0, none⟩) tk) := hid (((HRr.out.ext HXV.out).ext hxg).only ho6 (fun b o e => by cases e; exact (HAP.out b0 o0 rfl).2.2.1))
        have HZ6 := hid ((HZV.out.ext hxg).only ho6 n2)
        have HA6 : Hid (∀ b o, (some ⟨b0, o0, none⟩ : Option Addr) = some ⟨b, o, none⟩ → ¬ vg.ownBlock = some b ∧ (0 < tk.length → b < W6.heap.size) ∧ ¬ b = pq ∧ ¬ b = fq) := hid (fun b o e => by have h1 := HAP.out b o e; have h2 := HXV.out.size; have h3 := hxg.size; have h4 := ho6.size; exact ⟨h1.1, fun h0 => by have := h1.2.1 h0; omega, h1.2.2⟩)
        have HO6 := hid (((HOr.out.transExt HXV.out).transExt hxg).trans' (ho6.offT (by rintro i rfl ht; exact (HT9.out _ ht).2.1 (by simp))))
        have HF6 : Hid (FrT T W6 [h, ck, q, fq, p, pq, g] v2 vg) := hid (HFr.out.same (Nat.le_trans HXV.out.size (Nat.le_trans hxg.size ho6.size)))
        clear HOr HFr HKV HZV HXV HKr HRr HKg hs6 ho6 hxg hl c9 n1 n2 y0 y1 y2 yl HAP
        try simp only [Act.put, List.setIfInBounds_toArray, List.set_cons_zero, List.set_cons_succ]
        go_upto_region 7 with (fail)
        have HSQ : Hid (¬ tch fq vg h ∧ ¬ tch fq vg zb) := hid ⟨by rintro (c | c); exact HK6.out.ne.1.2.2.1 c; exact HK6.out.rf h c (by simp), by rintro (c | c); exact HZL.out.1 (by simp [c]); exact HZL.out.2 c⟩
        refine wp_region_only (S := tch fq vg) (.rd 0 (.rd 1 (.rd 2 (.rd 3 (.rd 4 (.rd 5 (.rd 6 (.rd 7 (.rd 8 (.ac 9 .done)))))))))) (by kernel_rfl) (by kernel_rfl) (fun _ _ d _ _ h => by cases d <;> exact h) (by simp only [Ord.map, nthOp, List.append]; rfl) ?_
        intro d7
        have HK8 := hid (HK6.out.ext (Ext.grow (Ext.refl W6) d7))
        have HZ8 := hid (HZ6.out.ext (Ext.grow (Ext.refl W6) d7))
        have HR8 := hid (HR6.out.ext (Ext.grow (Ext.refl W6) d7))
        have HA8 : Hid (∀ b o, (some ⟨b0, o0, none⟩ : Option Addr) = some ⟨b, o, none⟩ → ¬ vg.ownBlock = some b ∧ (0 < tk.length → b < (Go.Proofs.YtoeiemeffiiidaaDoor.grow W6 d7).heap.size) ∧ ¬ b = pq ∧ ¬ b = fq) := hid (fun b o e => by have h1 := HA6.out b o e; have h2 := (Ext.grow (Ext.refl W6) d7).size; exact ⟨h1.1, fun h0 => by have := h1.2.1 h0; omega, h1.2.2⟩)
        have HO8 := hid (HO6.out.transExt (Ext.grow (Ext.refl W6) d7))
        have HF8 : Hid (FrT T (Go.Proofs.YtoeiemeffiiidaaDoor.grow W6 d7) [h, ck, q, fq, p, pq, g] v2 vg) := hid (HF6.out.same (Ext.grow (Ext.refl W6) d7).size)
        generalize Go.Proofs.YtoeiemeffiiidaaDoor.grow W6 d7 = W8 at HK8 HZ8 HR8 HA8 HO8 HF8 ⊢
        have hnx := HSQ.out
        repeat' (first | (refine only_read (by rfl) (fun K hK => ?_); refine quiet_runD 43 rfl (.pointer (some ⟨h, 0, none⟩)) (fun w => by kernel_rfl) ?_; refine hK _ ?_; clear hK K; simp only [Act.put, List.setIfInBounds_toArray, List.set_cons_zero, List.set_cons_succ]) | (refine only_read (by rfl) (fun K hK => ?_); refine quiet_runD 44 rfl (.pointer (some ⟨h, 0, none⟩)) (fun w => by kernel_rfl) ?_; refine hK _ ?_; clear hK K; simp only [Act.put, List.setIfInBounds_toArray, List.set_cons_zero, List.set_cons_succ]) | (refine only_read (by rfl) (fun K hK => ?_); refine quiet_runD 45 rfl (.pointer (some ⟨h, 8, none⟩)) (fun w => by kernel_rfl) ?_; refine hK _ ?_; clear hK K; simp only [Act.put, List.setIfInBounds_toArray, List.set_cons_zero, List.set_cons_succ]) | (refine only_read (by rfl) (fun K hK => ?_); refine quiet_runD 47 rfl (.pointer (some ⟨zb, 0, none⟩)) (fun w => by kernel_rfl) ?_; refine hK _ ?_; clear hK K; simp only [Act.put, List.setIfInBounds_toArray, List.set_cons_zero, List.set_cons_succ]) | (refine only_read (by rfl) (fun K hK => ?_); refine quiet_runD 49 rfl (.pointer (some ⟨zb, 1, none⟩)) (fun w => by kernel_rfl) ?_; refine hK _ ?_; clear hK K; simp only [Act.put, List.setIfInBounds_toArray, List.set_cons_zero, List.set_cons_succ]) | (refine only_read (by rfl) (fun K hK => ?_); refine quiet_load1 61 (.tmp 45) rfl h 8 rfl (.pointer (some ⟨fq, 0, none⟩)) _ (fun w' hw' => (hw'.cells h 8 HK8.out.hl hnx.1).trans HK8.out.c8) Tryd.underlying61 rfl ?_; refine hK _ ?_; clear hK K; simp only [Act.put, List.setIfInBounds_toArray, List.set_cons_zero, List.set_cons_succ]) | (refine only_read (by rfl) (fun K hK => ?_); refine quiet_load1 3 (.tmp 47) rfl zb 0 rfl (.int .i64 z.at_) _ (fun w' hw' => (by have := (HZ8.out.only hw' hnx.2).at_ 0 _ rfl; simpa using this)) Tryd.underlying3 rfl ?_; refine hK _ ?_; clear hK K; simp only [Act.put, List.setIfInBounds_toArray, List.set_cons_zero, List.set_cons_succ]) | (refine only_read (by rfl) (fun K hK => ?_); refine quiet_load1 3 (.tmp 49) rfl zb 1 rfl (.int .i64 z.n) _ (fun w' hw' => (by have := (HZ8.out.only hw' hnx.2).at_ 1 _ rfl; simpa using this)) Tryd.underlying3 rfl ?_; refine hK _ ?_; clear hK K; simp only [Act.put, List.setIfInBounds_toArray, List.set_cons_zero, List.set_cons_succ]) | (refine only_read (by rfl) (fun K hK => ?_); go_big_quiet_op; refine hK _ ?_; clear hK K))
        refine only_act (by rfl) (fun K hK => ?_)
        go_wp2_with (go_at_call 39; refine (oGiveS w fq bf fr tu vg _ _ HK8.out.ex z).mono ?_; rintro e W9 ⟨bb, v9, rfl, hx9, ho9, hv9⟩)
        refine ⟨_, Only.refl _ _, ho9.out, ?_⟩
        refine only_nil ?_
        have HK9 : Hid (HpB w W9 h ck q fq p pq g bq bf n fr tu ra rp full v2 v9 ⟨x.t + 1, rest, giveAll fr tu x.lf (tk.take (k + 1)), paintAll n false x.P (tk.take (k + 1)), x.lv⟩) := hid (by
          have h9 := HK8.out.setEx hx9.out ho9.out hv9.out
          have e9 : giveAll fr tu x.lf (tk.take (k + 1)) = giveS fr tu (giveAll fr tu x.lf (tk.take k)) z := by rw [HTK.out, giveAll_snoc]
          rw [e9]
          exact h9)
        have HR9 : Hid (RdH W9 (some ⟨b0, o0, none⟩) tk) := hid (HR8.out.only ho9.out (fun b o e => by have h1 := HA8.out b o e; rintro (c | c); exact h1.2.2.2 c; exact h1.1 c))
        have HA9 : Hid (∀ b o, (some ⟨b0, o0, none⟩ : Option Addr) = some ⟨b, o, none⟩ → ¬ v9.ownBlock = some b ∧ (0 < tk.length → b < W9.heap.size) ∧ ¬ b = pq ∧ ¬ b = fq) := hid (fun b o e => by
          have h1 := HA8.out b o e
          have h2 := ho9.out.size
          refine ⟨fun c => ?_, fun h0 => by have := h1.2.1 h0; omega, h1.2.2⟩
          rcases hv9.out b c with c | c
          · exact h1.1 c
          · have := h1.2.1 HT0.out; omega)
        have HO9 := hid (HO8.out.trans' (ho9.out.offT (by rintro i (c | c) ht; exact (HT9.out i ht).2.1 (by simp [c]); exact (HF8.out i ht).2.2.2 c)))
        have HF9 := hid (HF8.out.upd ho9.out.size (fun _ e => .inl e) hv9.out)
        clear HO6 HF6 HO8 HF8 HK6 HZ6 HR6 HA6 HK8 HZ8 HR8 HA8 hx9 ho9 hv9 hnx HSQ HZL
        go_wp2
        go_roundw
        case rel => exact ⟨k + 1, v9, by omega, by go_num, HK9, HR9, HA9, HO9, HF9⟩
        case measure => simp [intOf]; omega
      · obtain rfl : m = k := by omega
        have hk1 : ¬ (m : Int) < (m : Int) := by omega
        have HKF : Hid (HpB w wr h ck q fq p pq g bq bf n fr tu ra rp full v2 vg ⟨x.t + 1, rest, giveAll fr tu x.lf tk, paintAll n false x.P tk, x.lv⟩) := hid (by
          have h9 := HKr.out
          rw [List.take_of_length_le (by rw [HLM.out]; exact Nat.le_refl _)] at h9
          exact h9)
        go_wp2
        go_ret
        exact ⟨rfl, hid ⟨v2, vg, by rw [HEND.out]; exact HKF.out, HFr.out⟩, HOr⟩

end Go.Proofs.YtoeiemeffiiidaaDoor
