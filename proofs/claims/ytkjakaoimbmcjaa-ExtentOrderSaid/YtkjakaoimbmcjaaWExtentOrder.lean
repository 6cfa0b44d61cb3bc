/- The walk of ExtentOrder. -/
import Derived.Test.YtkjakaoimbmcjaaExtX
namespace Go.Proofs.Ytkjakaoimbmcjaa
set_option linter.unusedSimpArgs false
set_option linter.unusedVariables false
open Go.RowKit

open Go.Deep Go.RowKit
namespace extentOrder
set_option maxRecDepth 100000 in
set_option maxHeartbeats 8000000 in
theorem walk (A0 : Option Addr) (cap0 : Nat) (zs0 : List Int) (A1 : Option Addr) (cap1 : Nat) (zs1 : List Bool) (w : World) (wl0 : zs0.length ≤ maxLen) (hs0 : SlAt w A0 (zs0.map (Value.int .u8))) (wz0 : ∀ z ∈ zs0, (Lit.int .u8 z).wf = true) (wl1 : zs1.length ≤ maxLen) (hs1 : SlAt w A1 (zs1.map Value.bool)) :
    Calls Try.prog 7 #[.slice A0 zs0.length cap0, .slice A1 zs1.length cap1] w fun e w' => e = .returned (.bool true) ∧ Ext w w' := by
  unfold maxLen at wl0 wl1
  by_cases hlen : zs0.length ≤ 30
  · have hli : ¬ (30 : Int) < (zs0.length : Int) := by omega
    have HSL := hid hs0
    have HSK := hid hs1
    have HWZ := hid wz0
    clear hs0 hs1 wz0
    obtain ⟨i0, z0, hi0, hz0, hz1, hz2, hz3, _⟩ := pr_info
    have HI0 := hid hi0
    have HZ0 := hid hz0
    clear hi0 hz0
    go_enter Try.func7, Try.ntmps7
    go_upto_region 2 with (go_at_call 8; refine Calls.mono (head_ _) ?_; rintro e wh ⟨rfl, hxh⟩)
    go_upto_region 3 with (go_at_call 9; refine (yNew 0 4096 _ (by decide) (by decide) (by decide) (by decide) (by decide)).mono ?_; rintro e w1 ⟨q, v1, rfl, HF1⟩)
    go_upto_region 4 with (go_at_call 9; refine (yNew 0 4096 _ (by decide) (by decide) (by decide) (by decide) (by decide)).mono ?_; rintro e w2 ⟨r, v2, rfl, HG1⟩)
    have HB0 := hid (FG.new (HF1.out.start hxh hxh.size) HG1.out)
    clear HF1 HG1 hxh
    generalize wh.heap.size = base at HB0
    generalize w1.heap.size = rb at HB0
    obtain ⟨bh, hbh⟩ : ∃ x, w2.heap.size = x := ⟨_, rfl⟩
    rw [hbh] at HB0
    clear hbh
    have HIS := hid (OI.start (fr := 0) (to := 4096) (by decide) (by decide))
    go_wp2
    go_loopw [8, 9] (fun vh i wr => ∃ (k : Nat) (vf vg : Value) (l h : List Pr), k ≤ zs0.length ∧ i = .int .i64 k ∧ h.length ≤ k ∧ Hid (FG w wr q base 0 4096 vf l r rb vg l bh vh h) ∧ Hid (OI 0 4096 l h)) (fun _ i _ => zs0.length - (intOf i).toNat)
    case atStart => exact ⟨0, _, _, _, [], Nat.zero_le _, rfl, Nat.zero_le _, HB0, HIS⟩
    case round =>
      clear HB0 HIS
      obtain ⟨k, vf, vg, l, h, hk, rfl, hh, HB, HI⟩ := hrel
      by_cases hlt : k < zs0.length
      · obtain ⟨z, hz⟩ : ∃ z, zs0[k] = z := ⟨_, rfl⟩
        obtain ⟨b0, o0, rfl, hb0, hc0⟩ := HSL.out (by simp; omega)
        have hck0 := hc0 k (by simpa using hlt)
        simp only [List.getElem_map, hz] at hck0
        have hcz : wr.cell? ⟨b0, o0 + k, none⟩ = some (.int .u8 z) := (HB.out.ex.cells b0 _ hb0).trans hck0
        have hzw : 0 ≤ z ∧ z ≤ 255 := by have := HWZ.out z (by rw [← hz]; exact List.getElem_mem hlt); simpa [Lit.wf, IntKind.min, IntKind.max, IntKind.signed, IntKind.bits] using this
        clear hck0 hc0 hz
        have hk1 : (k : Int) < (zs0.length : Int) := by omega
        have hk0 : k + 1 ≤ zs0.length := by omega
        have hk3 : (0 : Int) ≤ (k : Int) := by omega
        go_upto_region 11 with (fail)
        obtain ⟨n, hn⟩ : ∃ n, 16 * (1 + z % 8) = n := ⟨_, rfl⟩
        rw [hn]
        obtain ⟨⟨⟨xa, xb⟩, l2⟩, ht⟩ : ∃ t, takeF n l = t := ⟨_, rfl⟩
        have hn0 : 1 ≤ n ∧ n ≤ 1000 := by
          omega
        clear hn hcz hzw
        go_upto_region 12 with (go_at_call 11; with_reducible refine (fTake w q base 0 4096 _ _ r rb _ _ bh _ _ _ HB.out n xa xb l2 ht).mono ?_; rintro e w3 ⟨v3, rfl, HB3, HO3⟩)
        go_upto_region 13 with (go_at_call 11; with_reducible refine (ggTake w q base 0 4096 _ _ r rb _ _ bh _ _ _ HB3.out n xa xb l2 ht).mono ?_; rintro e w4 ⟨v4, rfl, HB4, HO4⟩)
        go_upto_region 15 with (fail)
        cases xb with
        | false =>
          obtain rfl : l2 = l := takeF_same ht
          go_wp2
          go_roundw
          case rel => exact ⟨k + 1, _, _, _, _, hk0, by go_num, (by omega), HB4, HI⟩
          case measure => simp [intOf]; omega
        | true =>
          by_cases hkeep : k < zs1.length
          · obtain ⟨b1, o1, rfl, hb1, hc1⟩ := HSK.out (by simp; omega)
            have hck := hc1 k (by simpa using hkeep)
            simp only [List.getElem_map] at hck
            have hck4 : w4.cell? ⟨b1, o1 + k, none⟩ = some (.bool zs1[k]) := (HB4.out.ex.cells b1 _ hb1).trans hck
            have hkeep1 : ¬ (zs1.length : Int) ≤ (k : Int) := by omega
            have hkeep2 : (k : Int) < (zs1.length : Int) := by omega
            clear hck hc1
            cases hkb : zs1[k] with
            | false =>
              rw [hkb] at hck4
              go_wp2_with (at_builtin; refine wpList_plain rfl fun K hK => ?_; refine wp_append_at _ _ _ 35 rfl bh 38 i0 z0 2 16 Try.underlying35 HI0.out HZ0.out hz2 hz3 hz1 (by decide) _ _ _ rfl (HB4.out.f.hh.ext (Ext.alloc (Ext.refl _) _)) ⟨w4.heap.size, 0, none⟩ 1 1 (Pr.cells ⟨xa, n⟩) rfl rfl (fun j u hj => by rw [Addr.add_lit]; exact (Row.new w4 _ _).range j u hj) (pr_one ⟨xa, n⟩) (by unfold maxLen; omega) (by omega) (by have := HB4.out.f.bs; simp; omega) (by omega) ?_; intro v5 w5 hown5 hgrow5 hat5; refine hK _ _ ?_; clear hK K)
              have HB5 : Hid (FG w w5 q base 0 4096 v3 l2 r rb v4 l2 bh v5 (h ++ [⟨xa, n⟩])) := hid ((HB4.out.ext (Ext.alloc (Ext.refl _) _)).app (by rw [prList_append, prList_one, List.length_append]; exact hown5) hgrow5 hat5)
              go_roundw
              case rel => exact ⟨k + 1, _, _, _, _, hk0, by go_num, (by rw [List.length_append]; simp; omega), HB5, hid (HI.out.add HB.out.f.hf.2.1 ht)⟩
              case measure => simp [intOf]; omega
            | true =>
              rw [hkb] at hck4
              go_wp2
              go_roundw
              case rel => exact ⟨k + 1, _, _, _, _, hk0, by go_num, (by omega), HB4, hid (HI.out.skip HB.out.f.hf.2.1 ht)⟩
              case measure => simp [intOf]; omega
          · have hkeep1 : (zs1.length : Int) ≤ (k : Int) := by omega
            go_wp2_with (at_builtin; refine wpList_plain rfl fun K hK => ?_; refine wp_append_at _ _ _ 35 rfl bh 38 i0 z0 2 16 Try.underlying35 HI0.out HZ0.out hz2 hz3 hz1 (by decide) _ _ _ rfl (HB4.out.f.hh.ext (Ext.alloc (Ext.refl _) _)) ⟨w4.heap.size, 0, none⟩ 1 1 (Pr.cells ⟨xa, n⟩) rfl rfl (fun j u hj => by rw [Addr.add_lit]; exact (Row.new w4 _ _).range j u hj) (pr_one ⟨xa, n⟩) (by unfold maxLen; omega) (by omega) (by have := HB4.out.f.bs; simp; omega) (by omega) ?_; intro v5 w5 hown5 hgrow5 hat5; refine hK _ _ ?_; clear hK K)
            have HB5 : Hid (FG w w5 q base 0 4096 v3 l2 r rb v4 l2 bh v5 (h ++ [⟨xa, n⟩])) := hid ((HB4.out.ext (Ext.alloc (Ext.refl _) _)).app (by rw [prList_append, prList_one, List.length_append]; exact hown5) hgrow5 hat5)
            go_roundw
            case rel => exact ⟨k + 1, _, _, _, _, hk0, by go_num, (by rw [List.length_append]; simp; omega), HB5, hid (HI.out.add HB.out.f.hf.2.1 ht)⟩
            case measure => simp [intOf]; omega
      · obtain rfl : k = zs0.length := by omega
        have hk1 : ¬ (zs0.length : Int) < (zs0.length : Int) := by omega
        have HF0 : Hid (Bk l (h.map sp) l (fun i => i < 0)) := hid (Bk.start _ _ _ fun i _ hc => absurd hc (Nat.not_lt_zero i))
        have HG0 : Hid (Bk l (h.map sp) l (fun i => (h.map sp).length ≤ i + 0)) := hid (Bk.start _ _ _ fun i hi hc => by omega)
        go_wp2
        go_loopw [15] (fun i wr => ∃ (j : Nat) (vf vg : Value) (lf lg : List Pr), j ≤ h.length ∧ i = .int .i64 j ∧ Hid (FG w wr q base 0 4096 vf lf r rb vg lg bh u8 h) ∧ Hid (Bk l (h.map sp) lf (fun i => i < j)) ∧ Hid (Bk l (h.map sp) lg (fun i => (h.map sp).length ≤ i + j))) (fun i _ => h.length - (intOf i).toNat)
        case atStart => exact ⟨0, _, _, _, _, Nat.zero_le _, rfl, HB, HF0, HG0⟩
        case round =>
          clear HB HF0 HG0
          obtain ⟨j, vf, vg, lf, lg, hj, rfl, HB, HF, HG⟩ := hrel
          obtain ⟨A, c, rfl, _, _⟩ := HB.out.f.hh.shape
          by_cases hjl : j < h.length
          · have hj1 : (j : Int) < (h.length : Int) := by omega
            have hj0 : j + 1 ≤ h.length := by omega
            have hj3 : (0 : Int) ≤ (j : Int) := by omega
            obtain ⟨kk, hkk⟩ : ∃ kk, h.length = j + 1 + kk := ⟨h.length - j - 1, by omega⟩
            have hkl : kk < h.length := by omega
            obtain ⟨g, o, rfl, hg0, d0, d1⟩ := (HB.out.f.hh.rdP rfl).two hjl
            obtain ⟨g', o', hgo, _, e0, e1⟩ := (HB.out.f.hh.rdP rfl).two hkl
            obtain ⟨rfl, rfl⟩ : g = g' ∧ o = o' := by simpa using hgo
            clear hgo
            have hng : ¬ nvh (Value.slice (some ⟨g, o, none⟩) h.length c) g := fun e => e rfl
            obtain ⟨at1, ha1⟩ : ∃ x, (h[j]).lo = x := ⟨_, rfl⟩
            obtain ⟨n1, hn1⟩ : ∃ x, (h[j]).hi = x := ⟨_, rfl⟩
            obtain ⟨at2, ha2⟩ : ∃ x, (h[kk]).lo = x := ⟨_, rfl⟩
            obtain ⟨n2, hn2⟩ : ∃ x, (h[kk]).hi = x := ⟨_, rfl⟩
            have hjm : j < (h.map sp).length := by simpa using hjl
            have hkm : kk < (h.map sp).length := by simpa using hkl
            have hp1 : (h.map sp)[j] = ⟨at1, at1 + n1⟩ := by rw [sp_at hjl hjm, ha1, hn1]
            have hp2 : (h.map sp)[kk] = ⟨at2, at2 + n2⟩ := by rw [sp_at hkl hkm, ha2, hn2]
            rw [ha1] at d0
            rw [hn1] at d1
            rw [ha2] at e0
            rw [hn2] at e1
            have hc1 := HF.out.can HB.out.f.hf.2.1 HI.out.held hjm (Nat.lt_irrefl _) hp1
            have hc2 := HG.out.can HB.out.g.hf.2.1 HI.out.held hkm (by simp; omega) hp2
            have HF' := hid (HF.out.next (P' := fun i => i < j + 1) HB.out.f.hf.2.1 hc1 hjm hp1 (fun i _ => by omega))
            have HG' := hid (HG.out.next (P' := fun i => (h.map sp).length ≤ i + (j + 1)) HB.out.g.hf.2.1 hc2 hkm hp2 (fun i _ => by simp; omega))
            clear ha1 ha2 hn1 hn2 hp1 hp2 HF HG hjm hkm
            have hsub : (h.length : Int) - 1 - (j : Int) = (kk : Int) := by omega
            clear hkk
            go_upto_region 21 with (fail)
            try rw [hsub]
            refine wp_region_only (S := nvh (Value.slice (some ⟨g, o, none⟩) h.length c)) (.rd 0 (.rd 1 (.rd 2 (.rd 3 (.rd 4 (.rd 5 (.rd 6 (.rd 7 (.rd 8 (.rd 9 (.rd 10 (.ac 11 (.rd 12 (.rd 13 (.rd 14 (.rd 15 (.rd 16 (.rd 17 (.rd 18 (.rd 19 (.rd 20 (.rd 21 (.rd 22 (.rd 23 (.rd 24 (.ac 25 (.rd 26 (.rd 27 .done)))))))))))))))))))))))))))) (by kernel_rfl) (by kernel_rfl) (fun _ _ d _ _ h => by cases d <;> exact h) (by simp only [Ord.map, nthOp, List.append]; rfl) ?_
            intro d0'
            have hx0 : Ext wr (Go.Proofs.Ytkjakaoimbmcjaa.grow wr d0') := Ext.grow (Ext.refl _) d0'
            have HB1 := hid (HB.out.ext hx0)
            replace d0 := (hx0.cells g _ hg0).trans d0
            replace d1 := (hx0.cells g _ hg0).trans d1
            replace e0 := (hx0.cells g _ hg0).trans e0
            replace e1 := (hx0.cells g _ hg0).trans e1
            replace hg0 := Nat.lt_of_lt_of_le hg0 hx0.size
            generalize Go.Proofs.Ytkjakaoimbmcjaa.grow wr d0' = W2 at HB1 hg0 d0 d1 e0 e1 ⊢
            clear HB hx0
            repeat' (first | (refine only_read (by rfl) (fun K hK => ?_); (refine quiet_index 35 _ _ rfl ⟨g, o, none⟩ h.length c j 2 rfl rfl hjl (by kernel_rfl) (fun w => by kernel_rfl) ?_; rw [Addr.add_lit]); refine hK _ ?_; clear hK K; simp only [Act.put, List.setIfInBounds_toArray, List.set_cons_zero, List.set_cons_succ]) | (refine only_read (by rfl) (fun K hK => ?_); refine quiet_runD 109 rfl (.pointer (some ⟨g, o + j * 2 + 0, none⟩)) (fun w => by kernel_rfl) ?_; refine hK _ ?_; clear hK K; simp only [Act.put, List.setIfInBounds_toArray, List.set_cons_zero, List.set_cons_succ]) | (refine only_read (by rfl) (fun K hK => ?_); refine quiet_runD 114 rfl (.pointer (some ⟨g, o + j * 2 + 1, none⟩)) (fun w => by kernel_rfl) ?_; refine hK _ ?_; clear hK K; simp only [Act.put, List.setIfInBounds_toArray, List.set_cons_zero, List.set_cons_succ]) | (refine only_read (by rfl) (fun K hK => ?_); refine quiet_load1 3 _ rfl g (o + j * 2 + 0) rfl (.int .i64 at1) _ (fun w' hw' => (hw'.cells g _ hg0 hng).trans d0) Try.underlying3 rfl ?_; refine hK _ ?_; clear hK K; simp only [Act.put, List.setIfInBounds_toArray, List.set_cons_zero, List.set_cons_succ]) | (refine only_read (by rfl) (fun K hK => ?_); refine quiet_load1 3 _ rfl g (o + j * 2 + 1) rfl (.int .i64 n1) _ (fun w' hw' => (hw'.cells g _ hg0 hng).trans d1) Try.underlying3 rfl ?_; refine hK _ ?_; clear hK K; simp only [Act.put, List.setIfInBounds_toArray, List.set_cons_zero, List.set_cons_succ]) | (refine only_read (by rfl) (fun K hK => ?_); go_big_quiet_op; refine hK _ ?_; clear hK K))
            refine only_act (by rfl) (fun K hK => ?_)
            go_wp2_with (go_at_call 13; refine (fGive w q base 0 4096 _ _ r rb _ _ bh _ _ _ HB1.out at1 n1 hc1).mono ?_; rintro e w3 ⟨v3, rfl, HB3, HO3⟩)
            refine ⟨_, Only.refl _ _, HO3.out, ?_⟩
            repeat' (first | (refine only_read (by rfl) (fun K hK => ?_); refine quiet_runD 117 rfl (.bool false) (fun w => by kernel_rfl) ?_; refine hK _ ?_; clear hK K; simp only [Act.put, List.setIfInBounds_toArray, List.set_cons_zero, List.set_cons_succ]) | (refine only_read (by rfl) (fun K hK => ?_); (refine quiet_index 35 _ _ rfl ⟨g, o, none⟩ h.length c kk 2 rfl rfl hkl (by kernel_rfl) (fun w => by kernel_rfl) ?_; rw [Addr.add_lit]); refine hK _ ?_; clear hK K; simp only [Act.put, List.setIfInBounds_toArray, List.set_cons_zero, List.set_cons_succ]) | (refine only_read (by rfl) (fun K hK => ?_); refine quiet_runD 123 rfl (.pointer (some ⟨g, o + kk * 2 + 0, none⟩)) (fun w => by kernel_rfl) ?_; refine hK _ ?_; clear hK K; simp only [Act.put, List.setIfInBounds_toArray, List.set_cons_zero, List.set_cons_succ]) | (refine only_read (by rfl) (fun K hK => ?_); refine quiet_runD 128 rfl (.pointer (some ⟨g, o + kk * 2 + 1, none⟩)) (fun w => by kernel_rfl) ?_; refine hK _ ?_; clear hK K; simp only [Act.put, List.setIfInBounds_toArray, List.set_cons_zero, List.set_cons_succ]) | (refine only_read (by rfl) (fun K hK => ?_); refine quiet_load1 3 _ rfl g (o + kk * 2 + 0) rfl (.int .i64 at2) _ (fun w' hw' => (hw'.cells g _ hg0 hng).trans e0) Try.underlying3 rfl ?_; refine hK _ ?_; clear hK K; simp only [Act.put, List.setIfInBounds_toArray, List.set_cons_zero, List.set_cons_succ]) | (refine only_read (by rfl) (fun K hK => ?_); refine quiet_load1 3 _ rfl g (o + kk * 2 + 1) rfl (.int .i64 n2) _ (fun w' hw' => (hw'.cells g _ hg0 hng).trans e1) Try.underlying3 rfl ?_; refine hK _ ?_; clear hK K; simp only [Act.put, List.setIfInBounds_toArray, List.set_cons_zero, List.set_cons_succ]) | (refine only_read (by rfl) (fun K hK => ?_); go_big_quiet_op; refine hK _ ?_; clear hK K))
            refine only_act (by rfl) (fun K hK => ?_)
            go_wp2_with (go_at_call 13; refine (ggGive w q base 0 4096 _ _ r rb _ _ bh _ _ _ HB3.out at2 n2 hc2).mono ?_; rintro e w4 ⟨v4, rfl, HB4, HO4⟩)
            refine ⟨_, Only.refl _ _, Only.trans' HO3.out HO4.out, ?_⟩
            repeat' (first | (refine only_read (by rfl) (fun K hK => ?_); refine quiet_runD 131 rfl (.bool false) (fun w => by kernel_rfl) ?_; refine hK _ ?_; clear hK K; simp only [Act.put, List.setIfInBounds_toArray, List.set_cons_zero, List.set_cons_succ]) | (refine only_read (by rfl) (fun K hK => ?_); refine quiet_runD 132 rfl (.bool false) (fun w => by kernel_rfl) ?_; refine hK _ ?_; clear hK K; simp only [Act.put, List.setIfInBounds_toArray, List.set_cons_zero, List.set_cons_succ]) | (refine only_read (by rfl) (fun K hK => ?_); go_big_quiet_op; refine hK _ ?_; clear hK K))
            refine only_nil ?_
            clear HB1 HB3 HO3 HO4
            go_wp2
            go_roundw
            case rel => exact ⟨j + 1, _, _, _, _, hj0, by go_num, HB4, HF', HG'⟩
            case measure => simp [intOf]; omega
          · obtain rfl : j = h.length := by omega
            have hj1 : ¬ (h.length : Int) < (h.length : Int) := by omega
            obtain rfl : lf = lg := HF.out.whole HG.out HB.out.f.hf.2.1 HB.out.g.hf.2.1 (fun i hi => by simpa using hi) (fun i hi => by simp)
            have hlf6 : lf.length ≤ 1000000 := by
              rcases good_len lf 0 HB.out.f.hf.2.1 with c | c
              · rw [c]; simp
              · omega
            go_wp2_with (first | (go_at_call 20; with_reducible refine (fRuns w q base 0 4096 _ _ r rb _ _ bh _ _ _ HB.out hlf6).mono ?_; rintro e w5 ⟨A5, c5, rfl, HR5, HB5, HX5, HN5⟩) | (go_at_call 20; with_reducible refine (ggRuns w q base 0 4096 _ _ r rb _ _ bh _ _ _ HB5.out hlf6).mono ?_; rintro e w6 ⟨A6, c6, rfl, HR6, HB6, HX6, HN6⟩) | (go_at_call 19; refine (esame_ A5 A6 lf.length c5 c6 lf _ (HR5.out.ext HX6.out) HR6.out rfl (by omega)).mono ?_; rintro e w7 ⟨rfl, hx7⟩; have HB7 := hid (HB6.out.ext hx7)) | (go_at_call 15; with_reducible refine (fAll w q base 0 4096 _ _ r rb _ _ bh _ _ _ HB7.out).mono ?_; rintro e w8 ⟨rfl, HB8, HX8⟩) | (go_at_call 15; with_reducible refine (ggAll w q base 0 4096 _ _ r rb _ _ bh _ _ _ HB8.out).mono ?_; rintro e w9 ⟨rfl, HB9, HX9⟩))
            go_ret
            exact ⟨rfl, HB9.out.ex⟩
  · have hli : (30 : Int) < (zs0.length : Int) := by omega
    go_enter Try.func7, Try.ntmps7
    go_upto_region 2 with (go_at_call 8; refine Calls.mono (head_ _) ?_; rintro e wh ⟨rfl, hxh⟩)
    go_upto_region 3 with (go_at_call 9; refine (yNew 0 4096 _ (by decide) (by decide) (by decide) (by decide) (by decide)).mono ?_; rintro e w1 ⟨q, v1, rfl, HF1⟩)
    go_upto_region 4 with (go_at_call 9; refine (yNew 0 4096 _ (by decide) (by decide) (by decide) (by decide) (by decide)).mono ?_; rintro e w2 ⟨r, v2, rfl, HG1⟩)
    go_wp2
    go_ret
    exact ⟨rfl, (hxh.trans HF1.out.1.2.1).trans HG1.out.1.2.1⟩
end extentOrder

end Go.Proofs.Ytkjakaoimbmcjaa
