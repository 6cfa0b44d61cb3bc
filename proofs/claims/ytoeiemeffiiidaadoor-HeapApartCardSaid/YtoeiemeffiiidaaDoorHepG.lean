/- Layer 14: Begin. -/
import Derived.Test.YtoeiemeffiiidaaDoorHepF
namespace Go.Proofs.YtoeiemeffiiidaaDoor
set_option linter.unusedSimpArgs false
set_option linter.unusedVariables false
open Go.RowKit

def paintAll (n : Nat) (b : Bool) (P : Nat → Bool) (l : List Hd) : Nat → Bool := l.foldl (fun P z => paintP n P z.at_ (z.at_ + z.n) b) P
theorem paintAll_snoc (n : Nat) (b : Bool) (P : Nat → Bool) (l : List Hd) (z : Hd) : paintAll n b P (l ++ [z]) = paintP n (paintAll n b P l) z.at_ (z.at_ + z.n) b := by simp [paintAll]
def HSt.beg (n : Nat) (x : HSt) : HSt := if oddB x.t = true then x else { x with t := x.t + 1, P := paintAll n true x.P x.lq }
theorem clk_set {w : World} {c : Nat} {t u : Int} (k : Clk w c t) (d : Delta) : Clk (Go.Proofs.YtoeiemeffiiidaaDoor.grow (w.setCell ⟨c, 0, none⟩ (.int .i64 u)) d) c u ∧ Only (· = c) w (Go.Proofs.YtoeiemeffiiidaaDoor.grow (w.setCell ⟨c, 0, none⟩ (.int .i64 u)) d) := by
  have y : Only (· = c) w (Go.Proofs.YtoeiemeffiiidaaDoor.grow (w.setCell ⟨c, 0, none⟩ (.int .i64 u)) d) := (Only.setCell (S := (· = c)) (Only.refl _ _) (.inl rfl) _).transExt (Ext.grow (Ext.refl _) d)
  have hx := Ext.grow (Ext.refl (w.setCell ⟨c, 0, none⟩ (.int .i64 u))) d
  have hl : c < (w.setCell ⟨c, 0, none⟩ (.int .i64 u)).heap.size := by rw [World.size_setCell]; exact k.1
  refine ⟨⟨Nat.lt_of_lt_of_le k.1 y.size, ?_, ?_⟩, y⟩
  · rw [hx.cells c 0 hl, cell_setCell_self, k.2.1]
    rfl
  · rw [hx.frozens c 0 hl, World.frozen?_setCell]
    exact k.2.2
set_option maxRecDepth 100000 in
set_option maxHeartbeats 4000000 in
theorem hBegin (w W : World) (h ck q fq p pq g bq bf n : Nat) (fr tu ra rp full : Int) (T : Nat → Prop) (x : HSt) (k : Hp w W h ck q fq p pq g bq bf n fr tu ra rp full T x) (hll : x.lq.length ≤ 900) (htt : x.t ≤ 99990) : Calls Tryd.prog 13 #[.pointer (some ⟨h, 0, none⟩)] W fun e W' => e = .returned (.bool (!oddB x.t)) ∧ Hid (Hp w W' h ck q fq p pq g bq bf n fr tu ra rp full T (x.beg n)) ∧ Hid (Only (fun i => ¬ T i) W W') := by
  obtain ⟨vq, vf, k, hT⟩ := k
  have HT9 := hid hT
  clear hT
  have HK := hid k
  have c0 := k.c0
  have c1 := k.c1
  have hl := k.hl
  obtain ⟨ht0, ht1⟩ := k.okl.2.2.1
  have HLL := hid hll
  have HNH : Hid (¬ h = ck) := hid k.ne.1.1
  have nh := HNH.out
  clear k hll
  obtain ⟨od, hod⟩ : ∃ b, oddB x.t = b := ⟨_, rfl⟩
  have HOD := hid hod
  rw [hod]
  clear hod
  cases od with
  | true =>
    go_enter Tryd.func13, Tryd.ntmps13
    go_wp2_with (go_at_call 34; refine (begin_ ck x.t _ HK.out.clk ht0 ht1).mono ?_; rw [HOD.out]; rintro e w1 ⟨rfl, d9, rfl⟩; have hcs := clk_set (u := beginT x.t) HK.out.clk d9)
    go_ret
    exact ⟨rfl, hid ⟨vq, vf, by
      have h9 := HK.out.setClk (u := beginT x.t) hcs.1 hcs.2 (by rw [beginT_odd HOD.out]; omega)
      unfold HSt.beg
      rw [if_pos HOD.out]
      rw [beginT_odd HOD.out] at h9 ⊢
      exact h9, HT9.out.same hcs.2.size⟩, hid (hcs.2.offT (by rintro i rfl ht; exact (HT9.out _ ht).2.1 (by simp)))⟩
  | false =>
    have hbt : beginT x.t = x.t + 1 := by
      unfold beginT
      have : ¬ x.t % 2 = 1 := fun e => by have := (oddB_iff x.t).2 e; rw [HOD.out] at this; cases this
      rw [if_pos (by omega)]
    have HBT := hid hbt
    have HBEG : Hid (x.beg n = ⟨(x.t + 1), x.lq, x.lf, (paintAll n true x.P x.lq), x.lv⟩) := hid (by unfold HSt.beg; rw [if_neg (by rw [HOD.out]; simp)])
    clear hbt
    obtain ⟨m, hm⟩ : ∃ m, x.lq.length = m := ⟨_, rfl⟩
    have HLM := hid hm
    have hm9 : m ≤ 900 := by rw [← hm]; exact HLL.out
    clear hm
    go_enter Tryd.func13, Tryd.ntmps13
    go_upto_region 3 with (go_at_call 34; refine (begin_ ck x.t _ HK.out.clk ht0 ht1).mono ?_; rw [HOD.out, HBT.out]; rintro e w1 ⟨rfl, d9, rfl⟩; have hcs := clk_set (u := x.t + 1) HK.out.clk d9)
    have HK1 := hid (HK.out.setClk (u := x.t + 1) hcs.1 hcs.2 (by omega))
    have HON : Hid (Only (fun i => ¬ T i) W (Go.Proofs.YtoeiemeffiiidaaDoor.grow (W.setCell ⟨ck, 0, none⟩ (.int .i64 (x.t + 1))) d9)) := hid (hcs.2.offT (by rintro i rfl ht; exact (HT9.out _ ht).2.1 (by simp)))
    generalize Go.Proofs.YtoeiemeffiiidaaDoor.grow (W.setCell ⟨ck, 0, none⟩ (.int .i64 (x.t + 1))) d9 = W1 at HK1 HON ⊢
    clear hcs c0 c1 hl
    have c1 := HK1.out.c1
    have hl := HK1.out.hl
    go_upto_region 4 with (go_at_call 35; refine (qall_ q bq full (sumL x.lq) vq x.lq _ HK1.out.qs (by have := HLL.out; omega)).mono ?_; rintro e w2 ⟨v2, rfl, hv2, hx2⟩; have ho2 := ownsAt_of hv2.out; obtain ⟨A2, c2, rfl, _, _⟩ := ho2.shape; have HO2 := hid ho2; clear ho2 hv2; rw [HLM.out])
    have HAP : Hid (∀ b o, A2 = some ⟨b, o, none⟩ → ¬ b = pq) := hid (fun b o e => by have e1 := (HO2.out.lt b (by rw [e]; rfl)).1; have e2 := HK1.out.sh.ltq; omega)
    have HR2 : Hid (RdH w2 A2 x.lq) := hid (by have h9 := HO2.out; rw [HLM.out] at h9; exact h9.rdH HLM.out)
    have HZO : Hid (∀ z ∈ x.lq, (0 ≤ z.at_ ∧ z.at_ ≤ 16777216 ∧ 0 ≤ z.n ∧ z.n ≤ 16777216)) := hid (fun z hz => ⟨(HK1.out.okl.2.2.2 z hz).2.1, (HK1.out.okl.2.2.2 z hz).2.2, ((HK1.out.okl.2.1 z hz).1).1, ((HK1.out.okl.2.1 z hz).1).2⟩)
    have HK2 : Hid (HpB w w2 h ck q fq p pq g bq bf n fr tu ra rp full vq vf ⟨(x.t + 1), x.lq, x.lf, (paintAll n true x.P (x.lq.take 0)), x.lv⟩) := hid (HK1.out.ext hx2)
    have HON2 := hid (HON.out.transExt hx2)
    clear HK1 HO2 hx2 c1 hl HK
    go_loopw [19] (fun i wr => ∃ k : Nat, k ≤ m ∧ i = .int .i64 k ∧ Hid (HpB w wr h ck q fq p pq g bq bf n fr tu ra rp full vq vf ⟨(x.t + 1), x.lq, x.lf, (paintAll n true x.P (x.lq.take k)), x.lv⟩) ∧ Hid (RdH wr A2 x.lq) ∧ Hid (Only (fun i => ¬ T i) W wr)) (fun i _ => m - (intOf i).toNat)
    case atStart => exact ⟨0, Nat.zero_le _, rfl, HK2, HR2, HON2⟩
    case round =>
      clear HK2 HR2 HON2
      obtain ⟨k, hk, rfl, HKr, HRr, HOr⟩ := hrel
      have hk0 : (0 : Int) ≤ (k : Int) := by omega
      by_cases hlt : k < m
      · have hk1 : (k : Int) < (m : Int) := by omega
        have hkl : k < x.lq.length := by rw [HLM.out]; exact hlt
        obtain ⟨z, hz⟩ : ∃ z, x.lq[k] = z := ⟨_, rfl⟩
        have HZM : Hid (z ∈ x.lq) := hid (by rw [← hz]; exact List.getElem_mem hkl)
        have HTK : Hid (x.lq.take (k + 1) = x.lq.take k ++ [z]) := hid (by rw [List.take_succ_eq_append_getElem hkl, hz])
        obtain ⟨b0, o0, rfl, hb0, d0c, d1c, d2c⟩ := HRr.out.three hkl
        rw [hz] at d0c d1c d2c
        clear hz
        have hzb := HZO.out z HZM.out
        obtain ⟨z1, z2, z3, z4⟩ := hzb
        go_upto_region 6 with (fail)
        refine wp_gen (fun V => Hid (HpB w V h ck q fq p pq g bq bf n fr tu ra rp full vq vf ⟨(x.t + 1), x.lq, x.lf, (paintAll n true x.P (x.lq.take k)), x.lv⟩) ∧ Hid (Row V wr.heap.size 0 [.int .i64 z.at_, .int .i64 z.n, .int .i64 z.time]) ∧ Hid (Ext wr V)) ⟨hid (HKr.out.ext (by repeat (first | (with_reducible exact Ext.refl _) | (with_reducible refine Ext.undrew ?_) | (with_reducible refine Ext.grow ?_ _) | (with_reducible refine Ext.drew ?_) | (with_reducible refine Ext.drewN ?_ _) | (with_reducible refine Ext.alloc ?_ _) | (with_reducible assumption) | ((with_reducible refine Ext.setCell ?_ ?_ _); rotate_left; (first | exact Nat.le_refl _ | ((try dsimp only); (try simp only [World.size_alloc, grow_size, World.size_setCell]); omega)))))), hid (Row.new wr _ _), hid (by repeat (first | (with_reducible exact Ext.refl _) | (with_reducible refine Ext.undrew ?_) | (with_reducible refine Ext.grow ?_ _) | (with_reducible refine Ext.drew ?_) | (with_reducible refine Ext.drewN ?_ _) | (with_reducible refine Ext.alloc ?_ _) | (with_reducible assumption) | ((with_reducible refine Ext.setCell ?_ ?_ _); rotate_left; (first | exact Nat.le_refl _ | ((try dsimp only); (try simp only [World.size_alloc, grow_size, World.size_setCell]); omega)))))⟩ ?_
        rintro V ⟨HKV, HZV, HXV⟩
        have HZL : Hid (wr.heap.size ∉ [h, ck, q, fq, p, pq, g] ∧ ¬ vq.ownBlock = some wr.heap.size ∧ ¬ vf.ownBlock = some wr.heap.size) := hid (by
          have k := HKr.out
          refine ⟨fun hi => ?_, fun e => ?_, fun e => ?_⟩
          · simp only [List.mem_cons, List.not_mem_nil, or_false] at hi
            have e1 := k.hl
            have e2 := k.clk.1
            have e3 := k.qs.1
            have e4 := k.ex.1.1.1
            have e5 := k.sh.ltp
            have e6 := k.sh.ltq
            have e7 := k.mp.lt
            omega
          · have := (k.qs.2.2.2.1.lt _ e).2; omega
          · have := (k.ex.1.1.2.2.2.1.lt _ e).2; omega)
        clear d0c d1c d2c hb0
        generalize wr.heap.size = zb at HZV HZL ⊢
        have hl := HKV.out.hl
        have c9 := HKV.out.c9
        have n1 : ¬ h = pq := HKV.out.ne.1.2.2.2.2.1
        have n2 : ¬ zb = pq := fun e => HZL.out.1 (by simp [e])
        have y0 : World.cell? V ⟨zb, 0, none⟩ = some (.int .i64 z.at_) := by have := HZV.out.at_ 0 _ rfl; simpa using this
        have y1 : World.cell? V ⟨zb, 1, none⟩ = some (.int .i64 z.n) := by have := HZV.out.at_ 1 _ rfl; simpa using this
        have y2 : World.cell? V ⟨zb, 2, none⟩ = some (.int .i64 z.time) := by have := HZV.out.at_ 2 _ rfl; simpa using this
        have yl := HZV.out.lt
        refine wp_region_turn (q := pq) (.rd 0 (.rd 1 (.rd 2 (.rd 3 (.rd 4 (.rd 5 (.rd 6 (.rd 7 (.rd 8 (.rd 9 (.rd 10 (.rd 11 (.ac 12 .done))))))))))))) (by kernel_rfl) (by kernel_rfl) (fun _ _ d _ _ h => by cases d <;> exact h) (by simp only [Ord.map, nthOp, List.append]; rfl) ?_
        intro d5
        have hxg : Ext V (Go.Proofs.YtoeiemeffiiidaaDoor.grow V d5) := Ext.grow (Ext.refl _) d5
        have HKg := hid (HKV.out.ext hxg)
        repeat (refine turn_read (by rfl) (fun K hK => ?_); go_big_quiet_op; refine hK _ ?_; clear hK K)
        refine turn_act (by rfl) (fun K hK => ?_)
        go_wp2_with (go_at_call 36; refine (paint_any HKg.out.sh z.at_ (z.at_ + z.n) true).mono ?_; rintro e W6 ⟨rfl, hs6, ho6⟩)
        refine ⟨_, Only.refl _ _, ho6, ?_⟩
        refine turn_nil ?_
        have HK6 : Hid (HpB w W6 h ck q fq p pq g bq bf n fr tu ra rp full vq vf ⟨(x.t + 1), x.lq, x.lf, (paintAll n true x.P (x.lq.take (k + 1))), x.lv⟩) := hid (by
          rw [HTK.out, paintAll_snoc]
          exact HKg.out.setSh hs6 ho6)
        have HR6 : Hid (RdH W6 (some ⟨b0, o0, none⟩) x.lq) := hid (((HRr.out.ext HXV.out).ext hxg).only ho6 (fun b o e => by cases e; exact HAP.out b0 o0 rfl))
        have HO6 := hid (((HOr.out.transExt HXV.out).transExt hxg).trans' (ho6.offT (by rintro i rfl ht; exact (HT9.out _ ht).2.1 (by simp))))
        clear HOr HKV HZV HXV HKr HRr HKg hs6 ho6 hxg hl c9 n1 n2 y0 y1 y2 yl HZL
        go_wp2
        go_roundw
        case rel => exact ⟨k + 1, by omega, by go_num, HK6, HR6, HO6⟩
        case measure => simp [intOf]; omega
      · obtain rfl : m = k := by omega
        have hk1 : ¬ (m : Int) < (m : Int) := by omega
        have HKF : Hid (HpB w wr h ck q fq p pq g bq bf n fr tu ra rp full vq vf ⟨(x.t + 1), x.lq, x.lf, (paintAll n true x.P x.lq), x.lv⟩) := hid (by
          have h9 := HKr.out
          rw [List.take_of_length_le (by rw [HLM.out]; exact Nat.le_refl _)] at h9
          exact h9)
        go_wp2
        go_ret
        exact ⟨rfl, hid ⟨vq, vf, by rw [HBEG.out]; exact HKF.out, HT9.out.same HOr.out.size⟩, HOr⟩

end Go.Proofs.YtoeiemeffiiidaaDoor
