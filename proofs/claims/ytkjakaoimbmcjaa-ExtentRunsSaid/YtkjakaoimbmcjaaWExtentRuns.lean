/- The walk of ExtentRuns. -/
import Derived.Test.YtkjakaoimbmcjaaExtX
namespace Go.Proofs.Ytkjakaoimbmcjaa
set_option linter.unusedSimpArgs false
set_option linter.unusedVariables false
open Go.RowKit

open Go.Deep Go.RowKit
namespace extentRuns
set_option maxRecDepth 100000 in
set_option maxHeartbeats 8000000 in
theorem walk (a0 : Int) (A1 : Option Addr) (cap1 : Nat) (zs1 : List Int) (a2 : Int) (w : World) (w0 : (Lit.int .u8 a0).wf = true) (wl1 : zs1.length ≤ maxLen) (hs1 : SlAt w A1 (zs1.map (Value.int .u8))) (wz1 : ∀ z ∈ zs1, (Lit.int .u8 z).wf = true) (w2 : (Lit.int .u8 a2).wf = true) :
    Calls Try.prog 5 #[.int .u8 a0, .slice A1 zs1.length cap1, .int .u8 a2] w fun e w' => e = .returned (.bool true) ∧ Ext w w' := by
  unfold maxLen at wl1
  have ha0' : 0 ≤ a0 ∧ a0 ≤ 255 := by simpa [Lit.wf, IntKind.min, IntKind.max, IntKind.signed, IntKind.bits] using w0
  have ha2' : 0 ≤ a2 ∧ a2 ≤ 255 := by simpa [Lit.wf, IntKind.min, IntKind.max, IntKind.signed, IntKind.bits] using w2
  obtain ⟨ha0, ha0h⟩ := ha0'
  obtain ⟨ha2, ha2h⟩ := ha2'
  clear w0 w2
  by_cases hlen : zs1.length ≤ 200
  · have hli : ¬ (200 : Int) < (zs1.length : Int) := by omega
    have HSL := hid hs1
    have HWZ := hid wz1
    clear hs1 wz1
    obtain ⟨i0, z0, hi0, hz0, hz1, hz2, hz3, _⟩ := pr_info
    have HI0 := hid hi0
    have HZ0 := hid hz0
    clear hi0 hz0
    go_enter Try.func5, Try.ntmps5
    go_upto_region 3 with (go_at_call 8; refine Calls.mono (head_ _) ?_; rintro e wh ⟨rfl, hxh⟩)
    obtain ⟨size, hsz⟩ : ∃ x, 16 * (1 + a0) = x := ⟨_, rfl⟩
    have hs0' : (0 : Int) < size := by omega
    have hs9 : size ≤ 4096 := by omega
    have hs1' : size ≤ 16777216 := by omega
    have hsg : g16 size = true := by rw [← hsz]; exact g16_mul _
    rw [hsz]
    clear hsz
    go_upto_region 4 with (go_at_call 9; with_reducible refine (yNew 0 size _ (by decide) hs0' hs1' (by decide) hsg).mono ?_; rintro e w1 ⟨q, v1, rfl, HF1⟩)
    have HB0 := hid (FH.new (HF1.out.start hxh hxh.size))
    clear HF1 hxh
    generalize wh.heap.size = base at HB0
    obtain ⟨bh, hbh⟩ : ∃ x, w1.heap.size = x := ⟨_, rfl⟩
    rw [hbh] at HB0
    clear hbh
    have HIS := hid (OI.start (fr := 0) (to := size) (by decide) hsg)
    have HAS : Hid (∀ y, 0 ≤ y → y < size → inL y [Pr.mk 0 size] ∨ inL y (([] : List Pr).map sp)) := hid (fun y h0 h1 => .inl ⟨_, List.mem_singleton.2 rfl, h0, h1⟩)
    go_wp2
    go_loopw [10, 11] (fun vh i wr => ∃ (k : Nat) (v : Value) (l h : List Pr), k ≤ zs1.length ∧ i = .int .i64 k ∧ h.length ≤ k ∧ Hid (FH w wr q base 0 size v l bh vh h) ∧ Hid (OI 0 size l h) ∧ Hid (∀ y, 0 ≤ y → y < size → inL y l ∨ inL y (h.map sp))) (fun _ i _ => zs1.length - (intOf i).toNat)
    case atStart => exact ⟨0, _, _, [], Nat.zero_le _, rfl, Nat.zero_le _, HB0, HIS, HAS⟩
    case round =>
      clear HB0 HIS HAS
      obtain ⟨k, v, l, h, hk, rfl, hh, HB, HI, HA⟩ := hrel
      by_cases hlt : k < zs1.length
      · obtain ⟨z, hz⟩ : ∃ z, zs1[k] = z := ⟨_, rfl⟩
        obtain ⟨b0, o0, rfl, hb0, hc0⟩ := HSL.out (by simp; omega)
        have hck0 := hc0 k (by simpa using hlt)
        simp only [List.getElem_map, hz] at hck0
        have hcz : wr.cell? ⟨b0, o0 + k, none⟩ = some (.int .u8 z) := (HB.out.ex.cells b0 _ hb0).trans hck0
        have hzw : 0 ≤ z ∧ z ≤ 255 := by have := HWZ.out z (by rw [← hz]; exact List.getElem_mem hlt); simpa [Lit.wf, IntKind.min, IntKind.max, IntKind.signed, IntKind.bits] using this
        clear hck0 hc0 hz
        have hk1 : (k : Int) < (zs1.length : Int) := by omega
        have hk0 : k + 1 ≤ zs1.length := by omega
        have hk3 : (0 : Int) ≤ (k : Int) := by omega
        go_upto_region 11 with (fail)
        obtain ⟨n, hn⟩ : ∃ n, 16 * (1 + z % 8) = n := ⟨_, rfl⟩
        rw [hn]
        obtain ⟨⟨⟨xa, xb⟩, l2⟩, ht⟩ : ∃ t, takeF n l = t := ⟨_, rfl⟩
        have hn0 : 1 ≤ n ∧ n ≤ 1000 := by omega
        clear hn hcz hzw
        go_upto_region 12 with (go_at_call 11; with_reducible refine (hTake w q base 0 size _ _ bh _ _ _ HB.out n xa xb l2 ht).mono ?_; rintro e w4 ⟨v4, rfl, HB4, HO4⟩)
        cases xb with
        | false =>
          obtain rfl : l2 = l := takeF_same ht
          obtain rfl : xa = 0 := takeF_zero ht
          by_cases hfit : n ≤ size
          · go_wp2
            go_roundw
            case rel => exact ⟨k + 1, _, _, _, hk0, by go_num, (by omega), HB4, HI, HA⟩
            case measure => simp [intOf]; omega
          · go_wp2
            go_roundw
            case rel => exact ⟨k + 1, _, _, _, hk0, by go_num, (by omega), HB4, HI, HA⟩
            case measure => simp [intOf]; omega
        | true =>
          obtain ⟨f1, f2, f3⟩ := HI.out.fits HB.out.hf.2.1 ht
          go_wp2_with (at_builtin; refine wpList_plain rfl fun K hK => ?_; refine wp_append_at _ _ _ 35 rfl bh 38 i0 z0 2 16 Try.underlying35 HI0.out HZ0.out hz2 hz3 hz1 (by decide) _ _ _ rfl (HB4.out.hh.ext (Ext.alloc (Ext.refl _) _)) ⟨w4.heap.size, 0, none⟩ 1 1 (Pr.cells ⟨xa, n⟩) rfl rfl (fun j u hj => by rw [Addr.add_lit]; exact (Row.new w4 _ _).range j u hj) (pr_one ⟨xa, n⟩) (by unfold maxLen; omega) (by omega) (by have := HB4.out.bs; simp; omega) (by omega) ?_; intro v5 w5 hown5 hgrow5 hat5; refine hK _ _ ?_; clear hK K)
          have HB5 : Hid (FH w w5 q base 0 size v4 l2 bh v5 (h ++ [⟨xa, n⟩])) := hid ((HB4.out.ext (Ext.alloc (Ext.refl _) _)).app (by rw [prList_append, prList_one, List.length_append]; exact hown5) hgrow5 hat5)
          go_roundw
          case rel => exact ⟨k + 1, _, _, _, hk0, by go_num, (by rw [List.length_append]; simp; omega), HB5, hid (HI.out.add HB.out.hf.2.1 ht), hid (HI.out.all HB.out.hf.2.1 ht HA.out)⟩
          case measure => simp [intOf]; omega
      · obtain rfl : k = zs1.length := by omega
        have hk1 : ¬ (zs1.length : Int) < (zs1.length : Int) := by omega
        have hh2 : h.length ≤ 200 := by omega
        have HGL := hid HB.out.hf.2.1
        have HF0 : Hid (Bk l (h.map sp) l (fun i => i < 0)) := hid (Bk.start _ _ _ fun i _ hc => absurd hc (Nat.not_lt_zero i))
        go_wp2
        go_loopw [15] (fun i wr => ∃ (j : Nat) (v : Value) (lf : List Pr) (P : Nat → Prop), j ≤ h.length ∧ i = .int .i64 j ∧ Hid (FH w wr q base 0 size v lf bh u10 h) ∧ Hid (Bk l (h.map sp) lf P)) (fun i _ => h.length - (intOf i).toNat)
        case atStart => exact ⟨0, _, _, _, Nat.zero_le _, rfl, HB, HF0⟩
        case round =>
          clear HB HF0
          obtain ⟨j, v, lf, P, hj, rfl, HB, HBK⟩ := hrel
          obtain ⟨A, c, rfl, _, _⟩ := HB.out.hh.shape
          by_cases hjl : j < h.length
          · have hj1 : (j : Int) < (h.length : Int) := by omega
            have hj0 : j + 1 ≤ h.length := by omega
            have hj3 : (0 : Int) ≤ (j : Int) := by omega
            have hl0 : 0 < h.length := by omega
            obtain ⟨x, hx⟩ : ∃ x, (j * 7 + a2.toNat) % h.length = x := ⟨_, rfl⟩
            have hxl : x < h.length := by rw [← hx]; exact Nat.mod_lt _ hl0
            have hxi : ((j : Int) * 7 + a2) % (h.length : Int) = (x : Int) := by
              rw [← hx, Int.natCast_emod]
              congr 1
              omega
            have hnz : ¬ (h.length : Int) = 0 := by omega
            clear hx
            obtain ⟨g, o, rfl, hg0, d0, d1⟩ := (HB.out.hh.rdP rfl).two hxl
            obtain ⟨at1, ha1⟩ : ∃ z, (h[x]).lo = z := ⟨_, rfl⟩
            obtain ⟨n1, hn1⟩ : ∃ z, (h[x]).hi = z := ⟨_, rfl⟩
            have hxm : x < (h.map sp).length := by simpa using hxl
            have hp1 : (h.map sp)[x] = ⟨at1, at1 + n1⟩ := by rw [sp_at hxl hxm, ha1, hn1]
            rw [ha1] at d0
            rw [hn1] at d1
            have hxi0 : (0 : Int) ≤ (x : Int) := by omega
            have hxi1 : (x : Int) < (h.length : Int) := by omega
            clear ha1 hn1
            go_upto_region 20 with (with_reducible refine wpList_load_mid rfl 38 (.tmp 92) rfl g (o + x * 2) rfl [.int .i64 at1, .int .i64 n1] _ (fun j u hj => by (match j, hj with | 0, hj => (obtain rfl : _ = u := Option.some.inj hj; exact d0) | 1, hj => (obtain rfl : _ = u := Option.some.inj hj; exact d1))) Try.underlying38 rfl (by kernel_rfl) ?_)
            refine wp_gen (fun W => Hid (Ext wr W) ∧ Hid (Row W wr.heap.size 0 [.int .i64 at1, .int .i64 n1])) ⟨hid (Ext.alloc (Ext.refl wr) _), hid (Row.new wr #[.int .i64 at1, .int .i64 n1] _)⟩ ?_
            rintro W1 ⟨hx1, hR1⟩
            have HB1 := hid (HB.out.ext hx1.out)
            have z0' : W1.cell? ⟨wr.heap.size, 0, none⟩ = some (.int .i64 at1) := hR1.out.range 0 _ rfl
            have z1' : W1.cell? ⟨wr.heap.size, 1, none⟩ = some (.int .i64 n1) := hR1.out.range 1 _ rfl
            clear HB d0 d1 hg0 hx1
            by_cases hc1 : giveC 0 size at1 n1 lf
            · go_upto_region 21 with (go_at_call 13; refine (hGive w q base 0 size _ _ bh _ _ _ HB1.out at1 n1 hc1).mono ?_; rintro e w3 ⟨v3, rfl, HB3, HO3⟩)
              obtain ⟨l3, hl3⟩ : ∃ x, giveL lf (kOf at1 lf) ⟨at1, at1 + n1⟩ = x := ⟨_, rfl⟩
              rw [hl3] at HB3
              have HBX : Hid (Bk l (h.map sp) l3 (fun i => P i ∨ i = x)) := hid (by rw [← hl3]; exact HBK.out.next HB1.out.hf.2.1 hc1 hxm hp1 (fun i _ => Iff.rfl))
              clear hl3 HB1 HO3 hc1 HBK
              have HG3 := hid HB3.out.hf.2.1
              have HOK := hid HB3.out.hf.okl.1
              have hlf6 : l3.length ≤ 1000000 := by
                rcases good_len l3 0 HG3.out with c | c
                · rw [c]; simp
                · omega
              go_upto_region 22 with (go_at_call 20; with_reducible refine (hRuns w q base 0 size _ _ bh _ _ _ HB3.out hlf6).mono ?_; rintro e w5 ⟨A5, c5, rfl, HR5, HB5, HX5, HN5⟩)
              clear HB3
              go_wp2
              go_loopw [18, 19] (fun s i wr => ∃ k : Nat, k ≤ l3.length ∧ i = .int .i64 k ∧ s = .int .i64 (sumP (l3.take k)) ∧ Ext w5 wr) (fun _ i _ => l3.length - (intOf i).toNat)
              case atStart => exact ⟨0, Nat.zero_le _, rfl, rfl, Ext.refl _⟩
              case round =>
                obtain ⟨k, hk, rfl, rfl, hx8⟩ := hrel
                by_cases hkl : k < l3.length
                · have hk1 : (k : Int) < (l3.length : Int) := by omega
                  have hk0 : (0 : Int) ≤ (k : Int) := by omega
                  have hb := HG3.out.2 _ (List.getElem_mem hkl)
                  obtain ⟨g5, o5, rfl, hg5, p0, p1⟩ := (HR5.out.ext hx8).two hkl
                  have hsb := sumP_bound ((HOK.out).take k)
                  have hsl : (l3.take k).length = k := by rw [List.length_take]; omega
                  rw [hsl] at hsb
                  have hsn : sumP (l3.take (k + 1)) = sumP (l3.take k) + (l3[k]).hi - (l3[k]).lo := by
                    rw [List.take_succ_eq_append_getElem hkl, sumP_one]; unfold Pr.len; omega
                  have HSN := hid hsn
                  clear hsn hsl
                  have HPW : Hid (∀ hk : 0 < k, (l3[k - 1]).hi < (l3[k]).lo) := hid (fun hk => (List.pairwise_iff_getElem.1 HG3.out.1) (k - 1) k (by omega) hkl (by omega))
                  have HLB : Hid (∀ hk : 0 < k, 0 ≤ (l3[k-1]).hi) := hid (fun hk => by have := HG3.out.2 _ (List.getElem_mem (show k - 1 < l3.length by omega)); omega)
                  obtain ⟨b0, b1, b2⟩ := hb
                  generalize hS : sumP (l3.take k) = S at hsb HSN ⊢
                  clear hS
                  have hlo : ¬ (l3[k]).hi ≤ (l3[k]).lo := by omega
                  have hsw1 : wrap64 (S + (l3[k]).hi) = S + (l3[k]).hi := wrapP (by omega) (by omega)
                  have hsw2 : wrap64 (S + (l3[k]).hi - (l3[k]).lo) = S + (l3[k]).hi - (l3[k]).lo := wrapP (by omega) (by omega)
                  by_cases hkz : k = 0
                  · have hkn : ¬ (0 : Int) < (k : Int) := by omega
                    have hkn2 : ¬ 0 < k := by omega
                    clear hkz HPW HLB
                    generalize hxl : (l3[k]).lo = xl at *
                    generalize hxh : (l3[k]).hi = xh at *
                    clear hxl hxh
                    go_upto_region 26 with (fail)
                    refine wp_region_grow (by kernel_rfl) (by kernel_rfl) (by first | (simp only [List.append]; rfl) | rfl) ?_
                    (repeat (go_big_quiet_step (fail)))
                    refine wpQuiet_nil ?_
                    intro wq hq
                    obtain ⟨d, rfl⟩ := hq
                    go_upto_region 28 with (fail)
                    refine wp_region_grow (by kernel_rfl) (by kernel_rfl) (by first | (simp only [List.append]; rfl) | rfl) ?_
                    (repeat (go_big_quiet_step (fail)))
                    refine wpQuiet_nil ?_
                    intro wq hq
                    obtain ⟨d, rfl⟩ := hq
                    go_wp2
                    go_roundw
                    case rel => exact ⟨k + 1, by omega, by go_num, by rw [HSN.out], (by repeat (first | (with_reducible exact Ext.refl _) | (with_reducible refine Ext.undrew ?_) | (with_reducible refine Ext.grow ?_ _) | (with_reducible refine Ext.drew ?_) | (with_reducible refine Ext.drewN ?_ _) | (with_reducible refine Ext.alloc ?_ _) | (with_reducible assumption) | ((with_reducible refine Ext.setCell ?_ ?_ _); rotate_left; (first | exact Nat.le_refl _ | ((try dsimp only); (try simp only [World.size_alloc, grow_size, World.size_setCell]); omega)))))⟩
                    case measure => simp [intOf]; omega
                  · have hkp : (0 : Int) < (k : Int) := by omega
                    have hkp2 : 0 < k := by omega
                    obtain ⟨j', hj'⟩ : ∃ j', k - 1 = j' := ⟨_, rfl⟩
                    have hjl : j' < l3.length := by omega
                    obtain ⟨g6, o6, hgo, _, q0, q1⟩ := (HR5.out.ext hx8).two (k := j') hjl
                    obtain ⟨rfl, rfl⟩ : g5 = g6 ∧ o5 = o6 := by simpa using hgo
                    clear hgo
                    have hpl := HPW.out (by omega)
                    have hpb := HLB.out (by omega)
                    simp only [hj'] at hpl hpb
                    have hjj : (k : Int) - 1 = (j' : Int) := by omega
                    have hj0' : (0 : Int) ≤ (j' : Int) := by omega
                    have hj1' : (j' : Int) < (l3.length : Int) := by omega
                    have hnle : ¬ (l3[k]).lo ≤ (l3[j']).hi := by omega
                    generalize hxl : (l3[k]).lo = xl at *
                    generalize hxh : (l3[k]).hi = xh at *
                    generalize hyh : (l3[j']).hi = yh at *
                    clear hkz HPW HLB hpl hj' hxl hxh hyh
                    go_upto_region 26 with (fail)
                    refine wp_region_grow (by kernel_rfl) (by kernel_rfl) (by first | (simp only [List.append]; rfl) | rfl) ?_
                    (repeat (go_big_quiet_step (fail)))
                    refine wpQuiet_nil ?_
                    intro wq hq
                    obtain ⟨d, rfl⟩ := hq
                    go_upto_region 28 with (fail)
                    refine wp_region_grow (by kernel_rfl) (by kernel_rfl) (by first | (simp only [List.append]; rfl) | rfl) ?_
                    (repeat (go_big_quiet_step (fail)))
                    refine wpQuiet_nil ?_
                    intro wq hq
                    obtain ⟨d, rfl⟩ := hq
                    go_wp2
                    go_roundw
                    case rel => exact ⟨k + 1, by omega, by go_num, by rw [HSN.out], (by repeat (first | (with_reducible exact Ext.refl _) | (with_reducible refine Ext.undrew ?_) | (with_reducible refine Ext.grow ?_ _) | (with_reducible refine Ext.drew ?_) | (with_reducible refine Ext.drewN ?_ _) | (with_reducible refine Ext.alloc ?_ _) | (with_reducible assumption) | ((with_reducible refine Ext.setCell ?_ ?_ _); rotate_left; (first | exact Nat.le_refl _ | ((try dsimp only); (try simp only [World.size_alloc, grow_size, World.size_setCell]); omega)))))⟩
                    case measure => simp [intOf]; omega
                · obtain rfl : k = l3.length := by omega
                  have hk1 : ¬ (l3.length : Int) < (l3.length : Int) := by omega
                  rw [List.take_length]
                  go_wp2_with (go_at_call 15; with_reducible refine (hAll w q base 0 size _ _ bh _ _ _ (hid (HB5.out.ext hx8)).out).mono ?_; rintro e w8 ⟨rfl, HB8, HX8⟩)
                  go_roundw
                  case rel => exact ⟨j + 1, _, _, (fun i => P i ∨ i = x), hj0, by go_num, HB8, HBX⟩
                  case measure => simp [intOf]; omega
            · go_upto_region 21 with (go_at_call 13; refine (hGiveNo w q base 0 size _ _ bh _ _ _ HB1.out at1 n1 hc1).mono ?_; rintro e w3 ⟨v3, rfl, HB3, HO3⟩)
              obtain ⟨l3, hl3⟩ : ∃ x, lf = x := ⟨_, rfl⟩
              rw [hl3] at HB3
              have HBX : Hid (Bk l (h.map sp) l3 P) := hid (by rw [← hl3]; exact HBK.out)
              clear hl3 HB1 HO3 hc1 HBK
              have HG3 := hid HB3.out.hf.2.1
              have HOK := hid HB3.out.hf.okl.1
              have hlf6 : l3.length ≤ 1000000 := by
                rcases good_len l3 0 HG3.out with c | c
                · rw [c]; simp
                · omega
              go_upto_region 22 with (go_at_call 20; with_reducible refine (hRuns w q base 0 size _ _ bh _ _ _ HB3.out hlf6).mono ?_; rintro e w5 ⟨A5, c5, rfl, HR5, HB5, HX5, HN5⟩)
              clear HB3
              go_wp2
              go_loopw [18, 19] (fun s i wr => ∃ k : Nat, k ≤ l3.length ∧ i = .int .i64 k ∧ s = .int .i64 (sumP (l3.take k)) ∧ Ext w5 wr) (fun _ i _ => l3.length - (intOf i).toNat)
              case atStart => exact ⟨0, Nat.zero_le _, rfl, rfl, Ext.refl _⟩
              case round =>
                obtain ⟨k, hk, rfl, rfl, hx8⟩ := hrel
                by_cases hkl : k < l3.length
                · have hk1 : (k : Int) < (l3.length : Int) := by omega
                  have hk0 : (0 : Int) ≤ (k : Int) := by omega
                  have hb := HG3.out.2 _ (List.getElem_mem hkl)
                  obtain ⟨g5, o5, rfl, hg5, p0, p1⟩ := (HR5.out.ext hx8).two hkl
                  have hsb := sumP_bound ((HOK.out).take k)
                  have hsl : (l3.take k).length = k := by rw [List.length_take]; omega
                  rw [hsl] at hsb
                  have hsn : sumP (l3.take (k + 1)) = sumP (l3.take k) + (l3[k]).hi - (l3[k]).lo := by
                    rw [List.take_succ_eq_append_getElem hkl, sumP_one]; unfold Pr.len; omega
                  have HSN := hid hsn
                  clear hsn hsl
                  have HPW : Hid (∀ hk : 0 < k, (l3[k - 1]).hi < (l3[k]).lo) := hid (fun hk => (List.pairwise_iff_getElem.1 HG3.out.1) (k - 1) k (by omega) hkl (by omega))
                  have HLB : Hid (∀ hk : 0 < k, 0 ≤ (l3[k-1]).hi) := hid (fun hk => by have := HG3.out.2 _ (List.getElem_mem (show k - 1 < l3.length by omega)); omega)
                  obtain ⟨b0, b1, b2⟩ := hb
                  generalize hS : sumP (l3.take k) = S at hsb HSN ⊢
                  clear hS
                  have hlo : ¬ (l3[k]).hi ≤ (l3[k]).lo := by omega
                  have hsw1 : wrap64 (S + (l3[k]).hi) = S + (l3[k]).hi := wrapP (by omega) (by omega)
                  have hsw2 : wrap64 (S + (l3[k]).hi - (l3[k]).lo) = S + (l3[k]).hi - (l3[k]).lo := wrapP (by omega) (by omega)
                  by_cases hkz : k = 0
                  · have hkn : ¬ (0 : Int) < (k : Int) := by omega
                    have hkn2 : ¬ 0 < k := by omega
                    clear hkz HPW HLB
                    generalize hxl : (l3[k]).lo = xl at *
                    generalize hxh : (l3[k]).hi = xh at *
                    clear hxl hxh
                    go_upto_region 26 with (fail)
                    refine wp_region_grow (by kernel_rfl) (by kernel_rfl) (by first | (simp only [List.append]; rfl) | rfl) ?_
                    (repeat (go_big_quiet_step (fail)))
                    refine wpQuiet_nil ?_
                    intro wq hq
                    obtain ⟨d, rfl⟩ := hq
                    go_upto_region 28 with (fail)
                    refine wp_region_grow (by kernel_rfl) (by kernel_rfl) (by first | (simp only [List.append]; rfl) | rfl) ?_
                    (repeat (go_big_quiet_step (fail)))
                    refine wpQuiet_nil ?_
                    intro wq hq
                    obtain ⟨d, rfl⟩ := hq
                    go_wp2
                    go_roundw
                    case rel => exact ⟨k + 1, by omega, by go_num, by rw [HSN.out], (by repeat (first | (with_reducible exact Ext.refl _) | (with_reducible refine Ext.undrew ?_) | (with_reducible refine Ext.grow ?_ _) | (with_reducible refine Ext.drew ?_) | (with_reducible refine Ext.drewN ?_ _) | (with_reducible refine Ext.alloc ?_ _) | (with_reducible assumption) | ((with_reducible refine Ext.setCell ?_ ?_ _); rotate_left; (first | exact Nat.le_refl _ | ((try dsimp only); (try simp only [World.size_alloc, grow_size, World.size_setCell]); omega)))))⟩
                    case measure => simp [intOf]; omega
                  · have hkp : (0 : Int) < (k : Int) := by omega
                    have hkp2 : 0 < k := by omega
                    obtain ⟨j', hj'⟩ : ∃ j', k - 1 = j' := ⟨_, rfl⟩
                    have hjl : j' < l3.length := by omega
                    obtain ⟨g6, o6, hgo, _, q0, q1⟩ := (HR5.out.ext hx8).two (k := j') hjl
                    obtain ⟨rfl, rfl⟩ : g5 = g6 ∧ o5 = o6 := by simpa using hgo
                    clear hgo
                    have hpl := HPW.out (by omega)
                    have hpb := HLB.out (by omega)
                    simp only [hj'] at hpl hpb
                    have hjj : (k : Int) - 1 = (j' : Int) := by omega
                    have hj0' : (0 : Int) ≤ (j' : Int) := by omega
                    have hj1' : (j' : Int) < (l3.length : Int) := by omega
                    have hnle : ¬ (l3[k]).lo ≤ (l3[j']).hi := by omega
                    generalize hxl : (l3[k]).lo = xl at *
                    generalize hxh : (l3[k]).hi = xh at *
                    generalize hyh : (l3[j']).hi = yh at *
                    clear hkz HPW HLB hpl hj' hxl hxh hyh
                    go_upto_region 26 with (fail)
                    refine wp_region_grow (by kernel_rfl) (by kernel_rfl) (by first | (simp only [List.append]; rfl) | rfl) ?_
                    (repeat (go_big_quiet_step (fail)))
                    refine wpQuiet_nil ?_
                    intro wq hq
                    obtain ⟨d, rfl⟩ := hq
                    go_upto_region 28 with (fail)
                    refine wp_region_grow (by kernel_rfl) (by kernel_rfl) (by first | (simp only [List.append]; rfl) | rfl) ?_
                    (repeat (go_big_quiet_step (fail)))
                    refine wpQuiet_nil ?_
                    intro wq hq
                    obtain ⟨d, rfl⟩ := hq
                    go_wp2
                    go_roundw
                    case rel => exact ⟨k + 1, by omega, by go_num, by rw [HSN.out], (by repeat (first | (with_reducible exact Ext.refl _) | (with_reducible refine Ext.undrew ?_) | (with_reducible refine Ext.grow ?_ _) | (with_reducible refine Ext.drew ?_) | (with_reducible refine Ext.drewN ?_ _) | (with_reducible refine Ext.alloc ?_ _) | (with_reducible assumption) | ((with_reducible refine Ext.setCell ?_ ?_ _); rotate_left; (first | exact Nat.le_refl _ | ((try dsimp only); (try simp only [World.size_alloc, grow_size, World.size_setCell]); omega)))))⟩
                    case measure => simp [intOf]; omega
                · obtain rfl : k = l3.length := by omega
                  have hk1 : ¬ (l3.length : Int) < (l3.length : Int) := by omega
                  rw [List.take_length]
                  go_wp2_with (go_at_call 15; with_reducible refine (hAll w q base 0 size _ _ bh _ _ _ (hid (HB5.out.ext hx8)).out).mono ?_; rintro e w8 ⟨rfl, HB8, HX8⟩)
                  go_roundw
                  case rel => exact ⟨j + 1, _, _, P, hj0, by go_num, HB8, HBX⟩
                  case measure => simp [intOf]; omega
          · obtain rfl : j = h.length := by omega
            have hj1 : ¬ (h.length : Int) < (h.length : Int) := by omega
            go_wp2
            go_loopw [20] (fun i wr => ∃ (j : Nat) (v : Value) (lf : List Pr) (P : Nat → Prop), j ≤ h.length ∧ i = .int .i64 j ∧ Hid (FH w wr q base 0 size v lf bh (Value.slice A h.length c) h) ∧ Hid (Bk l (h.map sp) lf P) ∧ Hid (∀ i, i < j → P i)) (fun i _ => h.length - (intOf i).toNat)
            case atStart => exact ⟨0, _, _, P, Nat.zero_le _, rfl, HB, HBK, hid (fun i hi => absurd hi (Nat.not_lt_zero i))⟩
            case round =>
              clear HB HBK
              obtain ⟨j, v, lf, P, hj, rfl, HB, HBK, HPJ⟩ := hrel
              by_cases hjl : j < h.length
              · have hj1 : (j : Int) < (h.length : Int) := by omega
                have hj0 : j + 1 ≤ h.length := by omega
                have hj3 : (0 : Int) ≤ (j : Int) := by omega
                obtain ⟨g, o, rfl, hg0, d0, d1⟩ := (HB.out.hh.rdP rfl).two hjl
                have hng : ¬ nvh (Value.slice (some ⟨g, o, none⟩) h.length c) g := fun e => e rfl
                obtain ⟨at1, ha1⟩ : ∃ x, (h[j]).lo = x := ⟨_, rfl⟩
                obtain ⟨n1, hn1⟩ : ∃ x, (h[j]).hi = x := ⟨_, rfl⟩
                have hjm : j < (h.map sp).length := by simpa using hjl
                have hp1 : (h.map sp)[j] = ⟨at1, at1 + n1⟩ := by rw [sp_at hjl hjm, ha1, hn1]
                rw [ha1] at d0
                rw [hn1] at d1
                clear ha1 hn1
                go_upto_region 34 with (fail)
                refine wp_region_only (S := nvh (Value.slice (some ⟨g, o, none⟩) h.length c)) (.rd 0 (.rd 1 (.rd 2 (.rd 3 (.rd 4 (.rd 5 (.rd 6 (.rd 7 (.rd 8 (.rd 9 (.rd 10 (.ac 11 .done)))))))))))) (by kernel_rfl) (by kernel_rfl) (fun _ _ d _ _ h => by cases d <;> exact h) (by simp only [Ord.map, nthOp, List.append]; rfl) ?_
                intro d0'
                have hx0 : Ext wr (Go.Proofs.Ytkjakaoimbmcjaa.grow wr d0') := Ext.grow (Ext.refl _) d0'
                have HB1 := hid (HB.out.ext hx0)
                replace d0 := (hx0.cells g _ hg0).trans d0
                replace d1 := (hx0.cells g _ hg0).trans d1
                replace hg0 := Nat.lt_of_lt_of_le hg0 hx0.size
                generalize Go.Proofs.Ytkjakaoimbmcjaa.grow wr d0' = W2 at HB1 hg0 d0 d1 ⊢
                clear HB hx0
                repeat' (first | (refine only_read (by rfl) (fun K hK => ?_); (refine quiet_index 35 _ _ rfl ⟨g, o, none⟩ h.length c j 2 rfl rfl hjl (by kernel_rfl) (fun w => by kernel_rfl) ?_; rw [Addr.add_lit]); refine hK _ ?_; clear hK K; simp only [Act.put, List.setIfInBounds_toArray, List.set_cons_zero, List.set_cons_succ]) | (refine only_read (by rfl) (fun K hK => ?_); refine quiet_runD 164 rfl (.pointer (some ⟨g, o + j * 2 + 0, none⟩)) (fun w => by kernel_rfl) ?_; refine hK _ ?_; clear hK K; simp only [Act.put, List.setIfInBounds_toArray, List.set_cons_zero, List.set_cons_succ]) | (refine only_read (by rfl) (fun K hK => ?_); refine quiet_runD 169 rfl (.pointer (some ⟨g, o + j * 2 + 1, none⟩)) (fun w => by kernel_rfl) ?_; refine hK _ ?_; clear hK K; simp only [Act.put, List.setIfInBounds_toArray, List.set_cons_zero, List.set_cons_succ]) | (refine only_read (by rfl) (fun K hK => ?_); refine quiet_load1 3 _ rfl g (o + j * 2 + 0) rfl (.int .i64 at1) _ (fun w' hw' => (hw'.cells g _ hg0 hng).trans d0) Try.underlying3 rfl ?_; refine hK _ ?_; clear hK K; simp only [Act.put, List.setIfInBounds_toArray, List.set_cons_zero, List.set_cons_succ]) | (refine only_read (by rfl) (fun K hK => ?_); refine quiet_load1 3 _ rfl g (o + j * 2 + 1) rfl (.int .i64 n1) _ (fun w' hw' => (hw'.cells g _ hg0 hng).trans d1) Try.underlying3 rfl ?_; refine hK _ ?_; clear hK K; simp only [Act.put, List.setIfInBounds_toArray, List.set_cons_zero, List.set_cons_succ]) | (refine only_read (by rfl) (fun K hK => ?_); go_big_quiet_op; refine hK _ ?_; clear hK K))
                refine only_act (by rfl) (fun K hK => ?_)
                by_cases hc1 : giveC 0 size at1 n1 lf
                · go_wp2_with (go_at_call 13; refine (hGive w q base 0 size _ _ bh _ _ _ HB1.out at1 n1 hc1).mono ?_; rintro e w3 ⟨v3, rfl, HB3, HO3⟩)
                  refine ⟨_, Only.refl _ _, HO3.out, ?_⟩
                  refine only_nil ?_
                  have HBX := hid (HBK.out.next (P' := fun i => P i ∨ i = j) HB1.out.hf.2.1 hc1 hjm hp1 (fun i _ => Iff.rfl))
                  clear HB1 HO3
                  go_wp2
                  go_roundw
                  case rel => exact ⟨j + 1, _, _, _, hj0, by go_num, HB3, HBX, hid (fun i hi => by rcases Nat.lt_succ_iff_lt_or_eq.1 hi with c | c; exact .inl (HPJ.out i c); exact .inr c)⟩
                  case measure => simp [intOf]; omega
                · go_wp2_with (go_at_call 13; refine (hGiveNo w q base 0 size _ _ bh _ _ _ HB1.out at1 n1 hc1).mono ?_; rintro e w3 ⟨v3, rfl, HB3, HO3⟩)
                  refine ⟨_, Only.refl _ _, HO3.out, ?_⟩
                  refine only_nil ?_
                  have hPj := HBK.out.was HB1.out.hf.2.1 HI.out.held hjm hp1 hc1
                  clear HB1 HO3
                  go_wp2
                  go_roundw
                  case rel => exact ⟨j + 1, _, _, _, hj0, by go_num, HB3, HBK, hid (fun i hi => by rcases Nat.lt_succ_iff_lt_or_eq.1 hi with c | c; exact HPJ.out i c; exact c ▸ hPj)⟩
                  case measure => simp [intOf]; omega
              · obtain rfl : j = h.length := by omega
                have hj1 : ¬ (h.length : Int) < (h.length : Int) := by omega
                have hl1 : lf = [Pr.mk 0 size] := HBK.out.one HB.out.hf.2.1 (fun i hi => HPJ.out i (by simpa using hi)) HA.out hs0' HGL.out HI.out.held
                subst hl1
                have hmo : mostP [Pr.mk 0 size] = size := by unfold mostP Pr.len; simp; omega
                go_wp2_with (first | (go_at_call 20; with_reducible refine (hRuns w q base 0 size _ _ bh _ _ _ HB.out (by simp)).mono ?_; rintro e w5 ⟨A5, c5, rfl, HR5, HB5, HX5, HN5⟩) | (go_at_call 19; refine (esame_ A5 (some ⟨w5.heap.size, 0, none⟩) 1 c5 1 [Pr.mk 0 size] _ (HR5.out.ext (Ext.alloc (Ext.refl _) _)) (RdP.new1 w5 ⟨0, size⟩ _) rfl (by simp)).mono ?_; rintro e w7 ⟨rfl, hx7⟩; have HB7 := hid ((HB5.out.ext (Ext.alloc (Ext.refl _) _)).ext hx7)) | (go_at_call 17; with_reducible refine (hMost w q base 0 size _ _ bh _ _ _ HB7.out).mono ?_; rintro e w8 ⟨rfl, HB8, HX8⟩; rw [hmo]))
                go_ret
                exact ⟨rfl, HB8.out.ex⟩
  · have hli : (200 : Int) < (zs1.length : Int) := by omega
    go_enter Try.func5, Try.ntmps5
    go_upto_region 3 with (go_at_call 8; refine Calls.mono (head_ _) ?_; rintro e wh ⟨rfl, hxh⟩)
    obtain ⟨size, hsz⟩ : ∃ x, 16 * (1 + a0) = x := ⟨_, rfl⟩
    have hs0' : (0 : Int) < size := by omega
    have hs1' : size ≤ 16777216 := by omega
    have hsg : g16 size = true := by rw [← hsz]; exact g16_mul _
    rw [hsz]
    clear hsz
    go_upto_region 4 with (go_at_call 9; with_reducible refine (yNew 0 size _ (by decide) hs0' hs1' (by decide) hsg).mono ?_; rintro e w1 ⟨q, v1, rfl, HF1⟩)
    go_wp2
    go_ret
    exact ⟨rfl, hxh.trans HF1.out.1.2.1⟩
end extentRuns

end Go.Proofs.Ytkjakaoimbmcjaa
