/- The walk of QuarAll. -/
import Derived.Test.YtlbemgkdpagoiaaQuaP
namespace Go.Proofs.Ytlbemgkdpagoiaa
set_option linter.unusedSimpArgs false
set_option linter.unusedVariables false
open Go.RowKit

open Go.Deep Go.RowKit
namespace quarAll
set_option maxRecDepth 100000 in
set_option maxHeartbeats 8000000 in
theorem walk (A0 : Option Addr) (cap0 : Nat) (zs0 : List QOp) (w : World) (wl0 : zs0.length ≤ maxLen) (hs0 : SlAtN w A0 5 (zs0.map QOp.cells)) (wz0 : ∀ z ∈ zs0, z.good) :
    Calls Try.prog 7 #[.slice A0 zs0.length cap0] w fun e w' => e = .returned (.bool true) ∧ Ext w w' := by
  unfold maxLen at wl0
  by_cases hlen : zs0.length ≤ 300
  · have HSL := hid hs0
    have hli : ¬ (300 : Int) < (zs0.length : Int) := by omega
    clear hs0 wz0
    go_enter Try.func7, Try.ntmps7
    go_upto_region 2 with (go_at_call 8; refine Calls.mono (head_ _) ?_; rintro e wh ⟨rfl, hxh⟩)
    go_upto_region 3 with (go_at_call 9; refine (qnew_ 100 _ (by decide) (by decide)).mono ?_; rintro e w1 ⟨q, rfl, hwq, hxn, hq1⟩)
    have hwbase : w.heap.size ≤ wh.heap.size := hxh.size
    have HE := hid (hxh.trans hxn)
    have HQ1 : Hid (Qs w1 q wh.heap.size 100 (sumL []) (.slice none 0 0) []) := hid hq1
    have hwb1 : w.heap.size ≤ w1.heap.size := HE.out.size
    clear hxh hxn hq1
    generalize wh.heap.size = base at HQ1 hwq hwbase
    obtain ⟨base2, hb2⟩ : ∃ x, w1.heap.size = x := ⟨_, rfl⟩
    have hb2' : base2 ≤ w1.heap.size := Nat.le_of_eq hb2.symm
    rw [hb2] at hwb1
    clear hb2
    obtain ⟨i0, z0, hi0, hz0, hz1, hz2, hz3⟩ := held_info
    have HI0 := hid hi0
    have HZ0 := hid hz0
    clear hi0 hz0
    go_wp2
    go_loopw [5, 6] (fun va i wr => ∃ (k : Nat) (l : List Hd) (v : Value), k ≤ zs0.length ∧ i = .int .i64 k ∧ l.length ≤ k ∧ Hid (goodL l) ∧ Hid (Qs wr q base 100 (sumL l) v l) ∧ Hid (ownsAt wr base2 29 3 va l.length (hdList l)) ∧ Hid (Apt q v va) ∧ Hid (Ext w wr) ∧ base2 ≤ wr.heap.size) (fun _ i _ => zs0.length - (intOf i).toNat)
    case atStart => exact ⟨0, [], _, Nat.zero_le _, rfl, Nat.zero_le _, hid goodL.nil, HQ1, hid (ownsAt_nil _ _ _ _), hid (Apt.nil _ _), HE, hb2'⟩
    case round =>
      clear HQ1 HE
      obtain ⟨k, l, v, hk, rfl, hlk, HG, HQ, HA, HP, HE, hbs⟩ := hrel
      by_cases hlt : k < zs0.length
      · obtain ⟨z, hz⟩ : ∃ z, zs0[k] = z := ⟨_, rfl⟩
        obtain ⟨b0, o, rfl, hb0, hop⟩ := QOp.facts HSL.out hlt z hz
        have HOP := hid (rg_ext hop hb0 HE.out)
        clear hop hz
        have hk1 : (k : Int) < (zs0.length : Int) := by omega
        have hk0 : k + 1 ≤ zs0.length := by omega
        have hk3 : (0 : Int) ≤ (k : Int) := by omega
        have hl3 : l.length ≤ 300 := by omega
        go_upto_region 11 with (with_reducible refine wpList_load_mid rfl 29 (.tmp 33) rfl b0 (o + k * 5 + 1) rfl [.int .i64 z.h.at_, .int .i64 z.h.n, .int .i64 z.h.time] _ (QOp.held HOP.out) Try.underlying29 rfl (by kernel_rfl) ?_)
        refine wp_gen (fun W => Hid (Ext wr W) ∧ Hid (Row W wr.heap.size 0 [.int .i64 z.h.at_, .int .i64 z.h.n, .int .i64 (if 1099511627776 < (if z.h.time < 0 then 0 else z.h.time) then 1099511627776 else if z.h.time < 0 then 0 else z.h.time)])) ⟨hid ?he, hid ?hr⟩ ?_
        case he => exact Ext.alloc (Ext.refl wr) _
        case hr => exact Row.new wr #[.int .i64 z.h.at_, .int .i64 z.h.n, .int .i64 (if 1099511627776 < (if z.h.time < 0 then 0 else z.h.time) then 1099511627776 else if z.h.time < 0 then 0 else z.h.time)] _
        rintro W1 ⟨hx1, hR1⟩
        have HQ1 := hid (HQ.out.ext hx1.out)
        have HA1 := hid (HA.out.ext hx1.out)
        have HE1 := hid (HE.out.trans hx1.out)
        have hbo := hR1.out.lt
        replace hbs : base2 ≤ W1.heap.size := Nat.le_trans hbs hx1.out.size
        have HB1 := hid hR1.out.range
        have hbt : ¬ tch q v wr.heap.size := by
          rintro (h | h)
          · have := HQ.out.1; omega
          · have := (HQ.out.2.2.2.1.lt _ h).2; omega
        obtain ⟨hh, hha, hhn, hht⟩ : ∃ hh : Hd, hh.at_ = z.h.at_ ∧ hh.n = z.h.n ∧ hh.time = (if 1099511627776 < (if z.h.time < 0 then 0 else z.h.time) then 1099511627776 else if z.h.time < 0 then 0 else z.h.time) := ⟨⟨z.h.at_, z.h.n, if 1099511627776 < (if z.h.time < 0 then 0 else z.h.time) then 1099511627776 else if z.h.time < 0 then 0 else z.h.time⟩, rfl, rfl, rfl⟩
        rw [← hha, ← hhn, ← hht] at HB1
        clear HQ HA HE hx1 HOP hR1 hha hhn hht
        generalize wr.heap.size = bo at HB1 hbo hbt ⊢
        cases hok : okQ l hh with
        | false =>
          go_wp2_with (first | (with_reducible refine wpList_load_mid rfl 29 (.tmp 7) rfl bo 0 rfl [.int .i64 hh.at_, .int .i64 hh.n, .int .i64 hh.time] _ (HB1.out) Try.underlying29 rfl (by kernel_rfl) ?_) | (go_at_call 14; refine (qput_no q base 100 _ _ _ _ HQ1.out (by omega) hh hok).mono ?_; rintro e w2 ⟨rfl, hx2⟩))
          go_roundw
          case rel => exact ⟨k + 1, l, v, hk0, by go_num, by omega, HG, hid (HQ1.out.ext hx2), hid (HA1.out.ext hx2), HP, hid (HE1.out.trans hx2), Nat.le_trans hbs hx2.size⟩
          case measure => simp [intOf]; omega
        | true =>
          have hg2 := HG.out.put hok
          go_upto_region 12 with (first | (with_reducible refine wpList_load_mid rfl 29 (.tmp 7) rfl bo 0 rfl [.int .i64 hh.at_, .int .i64 hh.n, .int .i64 hh.time] _ (HB1.out) Try.underlying29 rfl (by kernel_rfl) ?_) | (go_at_call 14; refine (qputT q base 100 v l _ HQ1.out HG.out (by omega) hh hok).mono ?_; rintro e w2 ⟨v2, rfl, HQ2, ho2, hv2⟩))
          have HE2 := hid (HQ1.out.extOf HE1.out hwbase ho2)
          have HA2 := hid (HA1.out.only ho2 HP.out.not)
          have HP2 := hid (HP.out.put HA1.out hv2)
          have hbs2 : base2 ≤ w2.heap.size := Nat.le_trans hbs ho2.size
          replace HB1 := hid (rg_only HB1.out hbo ho2 hbt)
          clear HQ1 HA1 HP HE1 ho2 hv2 hbt
          go_wp2_with (first | (with_reducible refine wpList_load_mid rfl 29 (.tmp 7) rfl bo 0 rfl [.int .i64 hh.at_, .int .i64 hh.n, .int .i64 hh.time] _ (HB1.out) Try.underlying29 rfl (by kernel_rfl) ?_) | (at_builtin; refine wpList_plain rfl fun K hK => ?_; refine wp_append_at _ _ _ 33 rfl base2 29 i0 z0 3 24 Try.underlying33 HI0.out HZ0.out hz2 hz3 hz1 (by decide) _ _ _ rfl (HA2.out.ext (Ext.alloc (Ext.refl _) _)) ⟨w2.heap.size, 0, none⟩ 1 1 [.int .i64 hh.at_, .int .i64 hh.n, .int .i64 hh.time] rfl rfl (fun j u hj => by rw [Addr.add_lit]; exact (Row.new w2 _ _).range j u hj) (hd_one hh) (by unfold maxLen; omega) (by omega) (by simp; omega) (by omega) ?_; intro v3 w3 hown3 hgrow3 hat3; refine hK _ _ ?_; clear hK K))
          have HA2' := HA2.out.ext (Ext.alloc (Ext.refl w2) (.cells #[.int .i64 hh.at_, .int .i64 hh.n, .int .i64 hh.time] 29))
          have HQ3 := hid ((HQ2.out.ext (Ext.alloc (Ext.refl w2) (.cells #[.int .i64 hh.at_, .int .i64 hh.n, .int .i64 hh.time] 29))).byApp HP2.out hgrow3)
          have HP3 := hid (HP2.out.app (HQ2.out.ext (Ext.alloc (Ext.refl w2) (.cells #[.int .i64 hh.at_, .int .i64 hh.n, .int .i64 hh.time] 29))) hat3)
          have HE3 := hid (Ext.byApp (Ext.alloc HE2.out _) HA2' hwb1 hgrow3)
          have hbs3 : base2 ≤ w3.heap.size := by have := hgrow3.size; simp at this; omega
          go_roundw
          case rel => exact ⟨k + 1, l ++ [hh], v2, hk0, by go_num, by rw [List.length_append]; simp; omega, hid hg2, HQ3, hid (by rw [List.length_append, hdList_append, hdList_one]; exact hown3), HP3, HE3, hbs3⟩
          case measure => simp [intOf]; omega
      · obtain rfl : k = zs0.length := by omega
        have hk1 : ¬ (zs0.length : Int) < (zs0.length : Int) := by omega
        have hl3 : l.length ≤ 300 := by omega
        obtain ⟨Aa, ca, rfl, _, _⟩ := HA.out.shape
        go_upto_region 13 with (fail)
        go_upto_region 14 with (first | (go_at_call 22; refine (qallT q base 100 v l _ HQ.out HG.out (by omega)).mono ?_; rintro e w2 ⟨A2, c2, rfl, HR2, hx2⟩) | (go_at_call 11; refine (hsame_ A2 Aa l.length c2 ca l _ rfl HR2.out ((HA.out.ext hx2).rdH rfl) (by omega)).mono ?_; rintro e w3 ⟨rfl, hx3⟩))
        have hx23 := hx2.trans hx3
        have HQ3 := hid (HQ.out.ext hx23)
        have HA3 := hid (HA.out.ext hx23)
        have HE3 := hid (HE.out.trans hx23)
        clear HQ HA HE HR2 hx2 hx3 hx23
        go_upto_region 15 with (go_at_call 12; refine (qdueT q base 100 v l _ HQ3.out HG.out (by omega) 1125899906842624 l [] (due_all l) (List.drop_length)).mono ?_; rintro e w4 ⟨A4, c4, v4, rfl, HQ4, HR4, ho4, _, _⟩)
        have HE4 := hid (HQ3.out.extOf HE3.out hwbase ho4.tch)
        have HA4 := hid (HA3.out.only ho4 (fun g hg => (HP.out g hg).1))
        have HZ4 : Hid (Qs w4 q base 100 0 v4 []) := HQ4
        clear HQ3 HA3 HE3 ho4 HQ4
        go_wp2_with (first | (go_at_call 11; refine (hsame_ A4 Aa l.length c4 ca l _ rfl HR4.out (HA4.out.rdH rfl) (by omega)).mono ?_; rintro e w5 ⟨rfl, hx5⟩; have HZ5 := hid (HZ4.out.ext hx5); have HE5 := hid (HE4.out.trans hx5)) | (go_at_call 18; with_reducible refine (qmany_ q base 100 0 _ [] _ HZ5.out).mono ?_; rintro e w9 ⟨rfl, rfl⟩) | (go_at_call 16; with_reducible refine (qbytes_ q base 100 0 _ [] _ HZ5.out).mono ?_; rintro e w9 ⟨rfl, rfl⟩) | (go_at_call 20; with_reducible refine (qfull_ q base 100 0 _ [] _ HZ5.out).mono ?_; rintro e w6 ⟨rfl, hx6⟩; have HQ6 : Hid (Qs w6 q base 100 (sumL []) v4 []) := hid (by rw [show sumL [] = 0 from rfl]; exact HZ5.out.ext hx6); have HE6 := hid (HE5.out.trans hx6)) | (go_at_call 12; refine (qdueT q base 100 _ [] _ HQ6.out goodL.nil (by decide) 1125899906842624 [] [] rfl rfl).mono ?_; rintro e w7 ⟨A7, c7, v7, rfl, _, _, ho7, _, _⟩))
        go_ret
        exact ⟨rfl, HQ6.out.extOf HE6.out hwbase ho7.tch⟩
  · have hli : (300 : Int) < (zs0.length : Int) := by omega
    clear hs0 wz0
    go_enter Try.func7, Try.ntmps7
    go_wp2_with (first | (go_at_call 8; refine Calls.mono (head_ _) ?_; rintro e wh ⟨rfl, hxh⟩) | (go_at_call 9; refine (qnew_ 100 _ (by decide) (by decide)).mono ?_; rintro e w1 ⟨q, rfl, hwq, hxn, hq1⟩))
    go_ret
    exact ⟨rfl, hxh.trans hxn⟩
end quarAll

end Go.Proofs.Ytlbemgkdpagoiaa
