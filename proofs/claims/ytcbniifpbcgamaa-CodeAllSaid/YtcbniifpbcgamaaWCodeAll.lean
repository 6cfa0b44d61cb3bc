/- The walk of the law CodeAll. -/
import Derived.Test.YtcbniifpbcgamaaHead15
import Derived.Test.YtcbniifpbcgamaaCodV
namespace Go.Proofs.Ytcbniifpbcgamaa
set_option linter.unusedSimpArgs false
set_option linter.unusedVariables false
open Go.RowKit

theorem wfu8 {n : Int} (h : (Lit.int .u8 n).wf = true) : 0 ≤ n ∧ n ≤ 255 := by
  simpa [Lit.wf, IntKind.min, IntKind.max, IntKind.signed, IntKind.bits] using h
theorem wfu32 {n : Int} (h : (Lit.int .u32 n).wf = true) : 0 ≤ n ∧ n ≤ 4294967295 := by
  simpa [Lit.wf, IntKind.min, IntKind.max, IntKind.signed, IntKind.bits] using h
namespace codeAll
set_option maxRecDepth 100000 in
set_option maxHeartbeats 4000000 in
theorem walk (A0 : Option Addr) (cap0 : Nat) (zs0 : List I4) (a1 : Int) (a2 : Int) (w : World) (hs0 : SlAtN w A0 4 (zs0.map I4.cells)) (w1 : (Lit.int .u32 a1).wf = true) (w2 : (Lit.int .u8 a2).wf = true) :
    Calls Try.prog 5 #[.slice A0 zs0.length cap0, .int .u32 a1, .int .u8 a2] w fun e w' => e = .returned (.bool true) ∧ Ext w w' := by
  obtain ⟨i0, hi0, hz0, hz1, hz2⟩ := info_parts info_ins
  have HI0 := hid hi0
  have HS := hid hs0
  clear hs0
  obtain ⟨M, hM⟩ : ∃ M : Nat → I4, M = fun i => (okL zs0).getD i ⟨0, 0, 0, 0⟩ := ⟨_, rfl⟩
  have HM := hid hM
  clear hM
  by_cases h200 : (zs0.length : Int) ≤ 200
  · obtain ⟨a2l, a2u⟩ := wfu8 w2
    obtain ⟨a1l, a1u⟩ := wfu32 w1
    clear w1 w2
    obtain ⟨x0, hx0⟩ : ∃ x, a1 / 16777216 = x := ⟨_, rfl⟩
    obtain ⟨x1, hx1⟩ : ∃ x, a1 / 65536 % 256 = x := ⟨_, rfl⟩
    obtain ⟨x2, hx2⟩ : ∃ x, a1 / 256 % 256 = x := ⟨_, rfl⟩
    obtain ⟨x3, hx3⟩ : ∃ x, a1 % 256 = x := ⟨_, rfl⟩
    have HB0 := hid (show 0 ≤ x0 ∧ x0 ≤ 255 by omega)
    have HB1 := hid (show 0 ≤ x1 ∧ x1 ≤ 255 by omega)
    have HB2 := hid (show 0 ≤ x2 ∧ x2 ≤ 255 by omega)
    have HB3 := hid (show 0 ≤ x3 ∧ x3 ≤ 255 by omega)
    go_enter Try.func5, Try.ntmps5
    go_wp2_with (go_at_call 10; refine Calls.mono (head _) ?_; rintro e wh ⟨rfl, hxh⟩; obtain ⟨dh, rfl⟩ := hxh.grown; clear hxh)
    go_loopw [8, 9, 10] (fun v u iv wr => ∃ k : Nat, k ≤ zs0.length ∧ iv = .int .i64 k ∧ Hid (OwnB wr w.heap.size v (wordsI (okL (zs0.take k)))) ∧ Hid (wr.ownsRow w.heap.size 23 4 u (okL (zs0.take k)).length (rowI M (okL (zs0.take k)).length)) ∧ Hid (Ext w wr)) (fun _ _ iv _ => zs0.length - (intOf iv).toNat)
    case atStart => exact ⟨0, Nat.zero_le _, rfl, hid (by exact OwnB.nil _ _), hid (by exact owns_nil _ _ _ _), hid (by repeat (first | (with_reducible exact Ext.refl _) | (with_reducible refine Ext.undrew ?_) | (with_reducible refine Ext.grow ?_ _) | (with_reducible refine Ext.drew ?_) | (with_reducible refine Ext.drewN ?_ _) | (with_reducible refine Ext.alloc ?_ _) | (with_reducible assumption) | ((with_reducible refine Ext.setCell ?_ ?_ _); rotate_left; (first | exact Nat.le_refl _ | ((try dsimp only); (try simp only [World.size_alloc, grow_size, World.size_setCell]); omega)))))⟩
    case round =>
      obtain ⟨k, hk, rfl, hown, hwant, hx⟩ := hrel
      by_cases hlt : k < zs0.length
      · obtain ⟨x, hxk⟩ : ∃ x, zs0[k] = x := ⟨_, rfl⟩
        obtain ⟨b, o, rfl, hb, c0, c1, c2, c3⟩ := ins_at (HS.out.ext hx.out) hlt x hxk
        have hk0 : (0 : Int) ≤ (k : Int) := by omega
        have hk1 : (k : Int) < (zs0.length : Int) := by omega
        have hwl := words_le zs0 k
        have hnl : (okL (zs0.take k)).length ≤ zs0.length := by have h1 := okL_le (zs0.take k); have h2 : (zs0.take k).length ≤ zs0.length := by simp; omega
                                                                omega
        cases hok : okI x with
        | true =>
          have HW := hid (words_yes hlt (by rw [hxk]; exact hok))
          have HOK := hid (show rightI x.op x.a x.b x.c = true from hok)
          have HN := hid (show (okL (zs0.take (k + 1))).length = (okL (zs0.take k)).length + 1 by rw [okL_yes hlt (by rw [hxk]; exact hok)]; simp)
          have HMX := hid (show M (okL (zs0.take k)).length = x by rw [HM.out, ← hxk]; exact okL_at hlt (by rw [hxk]; exact hok))
          rw [hxk] at HW
          clear hok
          generalize (okL (zs0.take k)).length = n at hwant hnl HN HMX
          go_wp2_with fail
          refine Calls.mono (put_yes x.op x.a x.b x.c _ HOK.out) ?_
          rintro e w1 ⟨q1, ca1, rfl, hl1, hm1, hq1, hrd1, hy⟩
          have hx1 : Ext w w1 := Ext.trans hx.out (Ext.trans (by repeat (first | (with_reducible exact Ext.refl _) | (with_reducible refine Ext.undrew ?_) | (with_reducible refine Ext.grow ?_ _) | (with_reducible refine Ext.drew ?_) | (with_reducible refine Ext.drewN ?_ _) | (with_reducible refine Ext.alloc ?_ _) | (with_reducible assumption) | ((with_reducible refine Ext.setCell ?_ ?_ _); rotate_left; (first | exact Nat.le_refl _ | ((try dsimp only); (try simp only [World.size_alloc, grow_size, World.size_setCell]); omega))))) hy)
          have hown1 := hown.out.keptExt (Ext.trans (by repeat (first | (with_reducible exact Ext.refl _) | (with_reducible refine Ext.undrew ?_) | (with_reducible refine Ext.grow ?_ _) | (with_reducible refine Ext.drew ?_) | (with_reducible refine Ext.drewN ?_ _) | (with_reducible refine Ext.alloc ?_ _) | (with_reducible assumption) | ((with_reducible refine Ext.setCell ?_ ?_ _); rotate_left; (first | exact Nat.le_refl _ | ((try dsimp only); (try simp only [World.size_alloc, grow_size, World.size_setCell]); omega))))) hy)
          have hwant1 := ownsExt hwant.out (Ext.trans (by repeat (first | (with_reducible exact Ext.refl _) | (with_reducible refine Ext.undrew ?_) | (with_reducible refine Ext.grow ?_ _) | (with_reducible refine Ext.drew ?_) | (with_reducible refine Ext.drewN ?_ _) | (with_reducible refine Ext.alloc ?_ _) | (with_reducible assumption) | ((with_reducible refine Ext.setCell ?_ ?_ _); rotate_left; (first | exact Nat.le_refl _ | ((try dsimp only); (try simp only [World.size_alloc, grow_size, World.size_setCell]); omega))))) hy)
          have hap := owns_apart hwant1 hown1 (by decide)
          go_wp2_with (at_builtin; refine app_own rfl _ _ rfl w.heap.size _ _ rfl hown1 _ _ _ (putI x.op x.a x.b x.c) rfl (putI_length _ _ _ _) hrd1 (by intro h; cases h) (by omega) (by have := hx1.size; omega) ?_)
          intro v' w2 hown2 hg2
          have hwant2 := ownsGrown hwant1 hg2 hap
          have hx2 : Ext w w2 := Ext.owned hx1 hown1 hg2
          rw [← HW.out] at hown2
          obtain ⟨b', o', hbo, hb2, e0, e1, e2, e3⟩ := ins_at (HS.out.ext hx2) hlt x hxk
          cases hbo
          have HX2 := hid hx2
          have HOW2 := hid hown2
          clear hown2 hx2 hg2 hown1 hx1 hy hrd1 hwant1 hap hown hwant hx hb c0 c1 c2 c3 HW
          go_wp2_with (at_builtin; refine wpList_append_own _ rfl _ _ 29 rfl w.heap.size 23 i0 _ 4 32 Try.underlying29 hi0 hz0 hz1 hz2 rfl (by decide) _ _ _ rfl (World.ownsRow.alloc hwant2 _) _ 1 1 x.cells rfl rfl ?c1 (I4.one _) ?c3 ?c4 ?c5 ?_)
          case c1 =>
            intro j u hj
            rw [Addr.add_lit]
            have hj4 : j = 0 ∨ j = 1 ∨ j = 2 ∨ j = 3 := by
              have h := (List.getElem?_eq_some_iff.1 hj).1
              rw [I4.len] at h
              omega
            rcases hj4 with rfl | rfl | rfl | rfl <;> (simp [I4.cells] at hj; subst hj; simp [go_sem])
          case c3 => unfold maxLen; omega
          case c4 => omega
          case c5 => have := HX2.out.size; simp [go_sem]; omega
          intro u' w3 hwant3 hg3 _
          have hal := HOW2.out.keptExt (w' := w2.alloc _) (Ext.alloc (Ext.refl w2) (.cells #[.int .i64 x.op, .int .i64 x.a, .int .i64 x.b, .int .i64 x.c] 23))
          have hown3 := ownsGrown hal hg3 (owns_apart hal (World.ownsRow.alloc hwant2 _) (by decide))
          have hx3 : Ext w w3 := Ext.owned (Ext.trans HX2.out (by repeat (first | (with_reducible exact Ext.refl _) | (with_reducible refine Ext.undrew ?_) | (with_reducible refine Ext.grow ?_ _) | (with_reducible refine Ext.drew ?_) | (with_reducible refine Ext.drewN ?_ _) | (with_reducible refine Ext.alloc ?_ _) | (with_reducible assumption) | ((with_reducible refine Ext.setCell ?_ ?_ _); rotate_left; (first | exact Nat.le_refl _ | ((try dsimp only); (try simp only [World.size_alloc, grow_size, World.size_setCell]); omega)))))) (World.ownsRow.alloc hwant2 _) hg3
          rw [← HMX.out, ← rowI_succ, ← HN.out] at hwant3
          have HQ := hid (And.intro hown3 (And.intro hwant3 hx3))
          clear hown3 hx3 hwant3 hg3 hal hwant2
          go_wp2
          go_roundw
          case rel => exact ⟨k + 1, by omega, by go_num, hid HQ.out.1, hid HQ.out.2.1, hid HQ.out.2.2⟩
          case measure => simp [intOf]; omega
        | false =>
          have HW := hid (okL_no hlt (by rw [hxk]; exact hok))
          have HOK := hid (show rightI x.op x.a x.b x.c = false from hok)
          clear hok hxk
          go_wp2_with fail
          refine Calls.mono (put_no x.op x.a x.b x.c _ HOK.out) ?_
          rintro e w1 ⟨rfl, hy⟩
          have hx1 : Ext w w1 := Ext.trans hx.out (Ext.trans (by repeat (first | (with_reducible exact Ext.refl _) | (with_reducible refine Ext.undrew ?_) | (with_reducible refine Ext.grow ?_ _) | (with_reducible refine Ext.drew ?_) | (with_reducible refine Ext.drewN ?_ _) | (with_reducible refine Ext.alloc ?_ _) | (with_reducible assumption) | ((with_reducible refine Ext.setCell ?_ ?_ _); rotate_left; (first | exact Nat.le_refl _ | ((try dsimp only); (try simp only [World.size_alloc, grow_size, World.size_setCell]); omega))))) hy)
          have hown1 := hown.out.keptExt (Ext.trans (by repeat (first | (with_reducible exact Ext.refl _) | (with_reducible refine Ext.undrew ?_) | (with_reducible refine Ext.grow ?_ _) | (with_reducible refine Ext.drew ?_) | (with_reducible refine Ext.drewN ?_ _) | (with_reducible refine Ext.alloc ?_ _) | (with_reducible assumption) | ((with_reducible refine Ext.setCell ?_ ?_ _); rotate_left; (first | exact Nat.le_refl _ | ((try dsimp only); (try simp only [World.size_alloc, grow_size, World.size_setCell]); omega))))) hy)
          have hwant1 := ownsExt hwant.out (Ext.trans (by repeat (first | (with_reducible exact Ext.refl _) | (with_reducible refine Ext.undrew ?_) | (with_reducible refine Ext.grow ?_ _) | (with_reducible refine Ext.drew ?_) | (with_reducible refine Ext.drewN ?_ _) | (with_reducible refine Ext.alloc ?_ _) | (with_reducible assumption) | ((with_reducible refine Ext.setCell ?_ ?_ _); rotate_left; (first | exact Nat.le_refl _ | ((try dsimp only); (try simp only [World.size_alloc, grow_size, World.size_setCell]); omega))))) hy)
          rw [← HW.out] at hown1 hwant1
          have HQ := hid (And.intro hown1 (And.intro hwant1 hx1))
          clear hown1 hwant1 hx1 hy
          go_wp2
          go_roundw
          case rel => exact ⟨k + 1, by omega, by go_num, hid HQ.out.1, hid HQ.out.2.1, hid HQ.out.2.2⟩
          case measure => simp [intOf]; omega
      · have hke : zs0.length ≤ k := by omega
        have e : zs0.take k = zs0 := List.take_of_length_le hke
        have hown' := hown.out
        have hwant' := hwant.out
        rw [e] at hown' hwant'
        have hK2 : (okL zs0).length ≤ 200 := by have := okL_le zs0; omega
        have hall := okL_all zs0
        rw [HM.out] at hwant'
        generalize okL zs0 = L at hown' hwant' hK2 hall
        clear e hke HM hown hwant HS
        obtain ⟨K, hK⟩ : ∃ K, L.length = K := ⟨_, rfl⟩
        have hst := stop_full hall
        have hlw := wordsI_length L
        have hbw := wordsI_byte L
        have HRI0 := hid (show ∀ i, i < K → L.getD i ⟨0, 0, 0, 0⟩ = insK (wordsI L) i from fun i hi => by
          have h1 := ins_words hall [] (hK ▸ hi)
          rw [List.append_nil] at h1
          rw [h1, List.getD_eq_getElem?_getD, List.getElem?_eq_getElem (hK ▸ hi)]
          rfl)
        obtain ⟨A, ca, rfl, hrd, hca, hcm⟩ := hown'.rdm
        obtain ⟨B, cb, rfl, hrw, _⟩ := owns_ins hwant'
        rw [hK] at hrw hst hlw hwant'
        have HRW := hid (RdI.congr hrw HRI0.out)
        have h0 : A = none → ca = 0 := by
          intro h
          rcases hown'.2 with ⟨hv, _⟩ | ⟨g, cap, cur, hv, _⟩
          · injection hv
          · subst h
            cases hv
        rw [hK]
        have HLW := hid hlw
        have HX := hid hx.out
        have HST := hid hst
        have HAL := hid hall
        have hK3 : K ≤ 200 := by omega
        have hl8 : (wordsI L).length ≤ 800 := by omega
        clear hlw hx hst hall hwant' hrw hown' HRI0 hK2
        go_wp2_with (go_at_call 13; with_reducible refine Calls.mono (all_ A ca (wordsI L) _ hrd hbw hca hcm (by omega)) ?_)
        intro e w4 hp
        obtain ⟨hy4, A4, ca4, rfl, hri⟩ := hp.full HST.out.1 HST.out.2
        have hrd4 := hrd.ext hy4
        have hrw4 := HRW.out.ext hy4
        have hx4 : Ext w w4 := Ext.trans HX.out hy4
        clear hp hrd HRW HX hy4
        go_wp2_with (go_at_call 21; with_reducible refine Calls.mono (same_ A4 B K ca4 cb (insK (wordsI L)) _ hri hrw4 (by omega)) ?_)
        rintro e w5 ⟨rfl, hy5⟩
        have hrd5 := hrd4.ext hy5
        have HX5 := hid (Ext.trans hx4 hy5)
        clear hrd4 hrw4 hri hx4 hy5
        cases hRi : rightI x0 x1 (gB x0 x2 x3) (gC x0 x3) with
        | true =>
          have HG := hid (getR_ok4 hRi rfl rfl)
          clear hRi
          go_wp2_with (go_at_call 11; refine Calls.mono (get_all _ 0 4 x0 x1 x2 x3 _ (by exact rdb_new _ [x0, x1, x2, x3] _ rfl) (by omega) (by decide) HB0.out HB1.out HB2.out HB3.out) ?_; rw [HG.out])
          rintro e w6 ⟨rfl, hy6⟩
          have HX6 := hid (Ext.trans HX5.out (Ext.trans (Ext.alloc (Ext.refl w5) _) hy6))
          clear hy6
          go_wp2
          go_ret
          exact ⟨rfl, Ext.trans HX6.out (by repeat (first | (with_reducible exact Ext.refl _) | (with_reducible refine Ext.undrew ?_) | (with_reducible refine Ext.grow ?_ _) | (with_reducible refine Ext.drew ?_) | (with_reducible refine Ext.drewN ?_ _) | (with_reducible refine Ext.alloc ?_ _) | (with_reducible assumption) | ((with_reducible refine Ext.setCell ?_ ?_ _); rotate_left; (first | exact Nat.le_refl _ | ((try dsimp only); (try simp only [World.size_alloc, grow_size, World.size_setCell]); omega)))))⟩
        | false =>
          have HG := hid (getR_no4 hRi)
          have HRi := hid hRi
          clear hRi
          go_wp2_with (go_at_call 11; refine Calls.mono (get_all _ 0 4 x0 x1 x2 x3 _ (by exact rdb_new _ [x0, x1, x2, x3] _ rfl) (by omega) (by decide) HB0.out HB1.out HB2.out HB3.out) ?_; rw [HG.out])
          rintro e w6 ⟨rfl, hy6⟩
          have hx56 : Ext w5 w6 := Ext.trans (Ext.alloc (Ext.refl w5) _) hy6
          have hrd6 := hrd5.ext hx56
          have hbd6 := RdB.ext (rdb_new w5 [x0, x1, x2, x3] _ rfl) hy6
          have HX6 := hid (Ext.trans HX5.out hx56)
          generalize w5.heap.size = qb at hbd6 ⊢
          clear hy6 hrd5 hx56 HX5
          obtain ⟨j, hj⟩ : ∃ j : Nat, a2 % ((K : Int) + 1) = j := ⟨(a2 % ((K : Int) + 1)).toNat, by have := Int.emod_nonneg a2 (show (K : Int) + 1 ≠ 0 by omega); omega⟩
          have hjK : j ≤ K := by have := Int.emod_lt_of_pos a2 (show (0 : Int) < (K : Int) + 1 by omega); omega
          have hjt : a2.tmod ((K : Int) + 1) = j := by rw [Int.tmod_eq_emod_of_nonneg a2l]; exact hj
          go_wp2_with fail
          obtain ⟨V, hV⟩ : ∃ V, w6.alloc (.cells #[.int .i64 0, .int .i64 0, .int .i64 0, .int .i64 0] 23) = V := ⟨_, rfl⟩
          rw [hV]
          have hxV : Ext w6 V := by rw [← hV]; exact Ext.alloc (Ext.refl w6) _
          have HRV := hid (hrd6.ext hxV)
          have HBV := hid (hbd6.ext hxV)
          have HXV := hid (Ext.trans HX6.out hxV)
          have h4j : 4 * j ≤ (wordsI L).length := by have := HST.out.2; omega
          have hjc : 4 * j ≤ ca := by omega
          have hjc' : 4 * (j : Int) ≤ (ca : Int) := by omega
          have hj0 : (0 : Int) ≤ 4 * (j : Int) := by omega
          have h4j' : 4 * (j : Int) ≤ ((wordsI L).length : Int) := by omega
          have hwc : ((wordsI L).length : Int) ≤ (ca : Int) := by omega
          clear hV hxV hrd6 hbd6 HX6 hj hjt
          refine wp_region_step (.rd 1 (.rd 2 (.rd 3 (.rd 5 (.rd 7 (.rd 8 (.rd 9 (.ac 0 (.ac 4 (.ac 6 (.ac 10 (.rd 11 .done)))))))))))) (by kernel_rfl) (by kernel_rfl) (fun _ _ d _ _ h => by cases d <;> exact h) (by simp only [Ord.map, nthOp, List.append]; rfl) ?_
          intro d0
          repeat (refine step_read (by rfl) (fun K hK => ?_); go_big_quiet_op; refine hK _ ?_; clear hK K)
          obtain ⟨G, hG⟩ : ∃ G, Go.Proofs.Ytcbniifpbcgamaa.grow V d0 = G := ⟨_, rfl⟩
          rw [hG]
          have hxG : Ext V G := by rw [← hG]; exact Ext.grow (Ext.refl V) d0
          have HRG := hid (HRV.out.ext hxG)
          have HBG := hid (HBV.out.ext hxG)
          have HXG := hid (Ext.trans HXV.out hxG)
          clear hG hxG HRV HBV HXV d0
          have hnw := OwnB.new G G.heap.size [] 0 rfl (by decide) (Nat.le_refl _)
          obtain ⟨A9, hA9⟩ : ∃ A9, (if ca = 4 * j then A else A.map (fun x => x.add (4 * j))) = A9 := ⟨_, rfl⟩
          have hr9 := HRG.out.dropc (4 * j) ca hca
          have h9 : A9 = none → ca - 4 * j = 0 := by
            intro h
            rw [← hA9] at h
            split at h
            · omega
            · have := h0 (by simpa using h)
              omega
          rw [hA9] at hr9 ⊢
          have HR9 := hid hr9
          clear hA9 hr9
          refine step_act (by rfl) (fun Z hZ => ?_)
          go_wp2_with fail
          refine ⟨_, Ext.refl _, (by repeat (first | (with_reducible exact Ext.refl _) | (with_reducible refine Ext.undrew ?_) | (with_reducible refine Ext.grow ?_ _) | (with_reducible refine Ext.drew ?_) | (with_reducible refine Ext.drewN ?_ _) | (with_reducible refine Ext.alloc ?_ _) | (with_reducible assumption) | ((with_reducible refine Ext.setCell ?_ ?_ _); rotate_left; (first | exact Nat.le_refl _ | ((try dsimp only); (try simp only [World.size_alloc, grow_size, World.size_setCell]); omega))))), ?_⟩
          refine step_act (by rfl) (fun Z hZ => ?_)
          refine app_own_wp _ _ rfl G.heap.size _ [] rfl hnw A (4 * j) ca ((wordsI L).take (4 * j)) rfl (by simp; omega) ((HRG.out.take _).ext (Ext.alloc (Ext.refl G) _)) h0 (by simp; omega) (by simp) ?_
          intro v1 w1 hown1 hg1
          (try simp only [List.nil_append] at hown1)
          have hy1 : Ext G w1 := Ext.owned (Ext.alloc (Ext.refl G) _) hnw hg1
          refine hZ _ _ ⟨_, Ext.refl _, hy1, ?_⟩
          clear hZ Z
          simp only [Act.put, List.setIfInBounds_toArray, List.set_cons_zero, List.set_cons_succ]
          refine step_act (by rfl) (fun Z hZ => ?_)
          refine app_own_wp _ _ rfl G.heap.size _ _ rfl hown1 (some ⟨qb, 0, none⟩) 4 4 [x0, x1, x2, x3] rfl rfl (HBG.out.ext hy1) (by intro h; cases h) (by simp; omega) hy1.size ?_
          intro v2 w2 hown2 hg2
          have hy2 : Ext G w2 := Ext.owned hy1 hown1 hg2
          refine hZ _ _ ⟨_, Ext.refl _, hy2, ?_⟩
          clear hZ Z
          simp only [Act.put, List.setIfInBounds_toArray, List.set_cons_zero, List.set_cons_succ]
          refine step_act (by rfl) (fun Z hZ => ?_)
          refine app_own_wp _ _ rfl G.heap.size _ _ rfl hown2 _ _ _ ((wordsI L).drop (4 * j)) rfl (by simp) (HR9.out.ext hy2) h9 (by simp; omega) hy2.size ?_
          intro v3 w3 hown3 hg3
          have hy3 : Ext G w3 := Ext.owned hy2 hown2 hg3
          refine hZ _ _ ⟨_, Ext.refl _, hy3, ?_⟩
          clear hZ Z
          simp only [Act.put, List.setIfInBounds_toArray, List.set_cons_zero, List.set_cons_succ]
          rw [wordsI_take L j (by omega), wordsI_drop L j (by omega), List.append_assoc] at hown3
          have hlj : (L.take j).length = j := by rw [List.length_take]; omega
          have hsb := stop_bad (L := L.take j) (fun x hx => HAL.out x (List.mem_of_mem_take hx)) HRi.out (wordsI (L.drop j))
          rw [hlj] at hsb
          have hlX : (wordsI (L.take j) ++ ([x0, x1, x2, x3] ++ wordsI (L.drop j))).length ≤ 10000 := by rw [List.length_append, List.length_append, wordsI_length, wordsI_length, List.length_drop, hlj]; simp; omega
          have hbX : byteL (wordsI (L.take j) ++ ([x0, x1, x2, x3] ++ wordsI (L.drop j))) := byteL_append (wordsI_byte _) (byteL_append (by intro n hn; simp at hn; rcases hn with h | h | h | h <;> (rw [h]; first | exact HB0.out | exact HB1.out | exact HB2.out | exact HB3.out)) (wordsI_byte _))
          obtain ⟨A3, ca3, rfl, hrd3, hca3, hm3⟩ := hown3.rdm
          generalize wordsI (L.take j) ++ ([x0, x1, x2, x3] ++ wordsI (L.drop j)) = X at hsb hlX hbX hrd3 hca3 hown3 ⊢
          have HSB := hid hsb
          have HXX := hid (Ext.trans HXG.out hy3)
          clear hown3 hown2 hown1 hg1 hg2 hg3 hy1 hy2 hy3 hnw hsb hlj
          refine step_read (by rfl) (fun Z hZ => ?_)
          go_big_quiet_op
          refine hZ _ ?_
          clear hZ Z
          refine step_nil ?_
          go_wp2_with (go_at_call 13; with_reducible refine Calls.mono (all_ A3 ca3 X _ hrd3 hbX hca3 hm3 hlX) ?_)
          intro e w9 hp
          obtain ⟨rfl, hy9⟩ := hp.bad HSB.out.1 HSB.out.2
          clear hp
          have HX9 := hid (Ext.trans HXX.out hy9)
          go_wp2
          go_ret
          exact ⟨rfl, Ext.trans HX9.out (by repeat (first | (with_reducible exact Ext.refl _) | (with_reducible refine Ext.undrew ?_) | (with_reducible refine Ext.grow ?_ _) | (with_reducible refine Ext.drew ?_) | (with_reducible refine Ext.drewN ?_ _) | (with_reducible refine Ext.alloc ?_ _) | (with_reducible assumption) | ((with_reducible refine Ext.setCell ?_ ?_ _); rotate_left; (first | exact Nat.le_refl _ | ((try dsimp only); (try simp only [World.size_alloc, grow_size, World.size_setCell]); omega)))))⟩
  · have h200' : ¬ (zs0.length : Int) ≤ 200 := h200
    clear HS
    go_enter Try.func5, Try.ntmps5
    go_wp2_with (go_at_call 10; refine Calls.mono (head _) ?_; rintro e wh ⟨rfl, hxh⟩; obtain ⟨dh, rfl⟩ := hxh.grown; clear hxh)
    go_ret
    exact ⟨rfl, (by repeat (first | (with_reducible exact Ext.refl _) | (with_reducible refine Ext.undrew ?_) | (with_reducible refine Ext.grow ?_ _) | (with_reducible refine Ext.drew ?_) | (with_reducible refine Ext.drewN ?_ _) | (with_reducible refine Ext.alloc ?_ _) | (with_reducible assumption) | ((with_reducible refine Ext.setCell ?_ ?_ _); rotate_left; (first | exact Nat.le_refl _ | ((try dsimp only); (try simp only [World.size_alloc, grow_size, World.size_setCell]); omega)))))⟩
end codeAll

end Go.Proofs.Ytcbniifpbcgamaa
