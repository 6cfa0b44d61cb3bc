/- The walk of the law CodeCut. -/
import Derived.Test.YtcbniifpbcgamaaHead15
import Derived.Test.YtcbniifpbcgamaaCodW
import Derived.Test.YtcbniifpbcgamaaApnd
namespace Go.Proofs.Ytcbniifpbcgamaa
set_option linter.unusedSimpArgs false
set_option linter.unusedVariables false
open Go.RowKit

theorem wfu8 {n : Int} (h : (Lit.int .u8 n).wf = true) : 0 ≤ n ∧ n ≤ 255 := by
  simpa [Lit.wf, IntKind.min, IntKind.max, IntKind.signed, IntKind.bits] using h
namespace codeCut
set_option maxRecDepth 100000 in
set_option maxHeartbeats 4000000 in
theorem walk (A0 : Option Addr) (cap0 : Nat) (zs0 : List I4) (a1 : Int) (w : World) (hs0 : SlAtN w A0 4 (zs0.map I4.cells)) (w1 : (Lit.int .u8 a1).wf = true) :
    Calls Try.prog 6 #[.slice A0 zs0.length cap0, .int .u8 a1] w fun e w' => e = .returned (.bool true) ∧ Ext w w' := by
  have HS := hid hs0
  clear hs0
  by_cases h200 : (zs0.length : Int) ≤ 200
  · obtain ⟨k3, hk3⟩ : ∃ k3 : Nat, (1 + a1 % 3 = (k3 : Int)) ∧ 0 < k3 ∧ k3 < 4 := ⟨(1 + a1 % 3).toNat, by omega, by omega, by omega⟩
    obtain ⟨hk3, hk30, hk34⟩ := hk3
    obtain ⟨a1l, a1u⟩ := wfu8 w1
    clear w1
    go_enter Try.func6, Try.ntmps6
    go_wp2_with (go_at_call 10; refine Calls.mono (head _) ?_; rintro e wh ⟨rfl, hxh⟩; obtain ⟨dh, rfl⟩ := hxh.grown; clear hxh)
    go_loopw [6, 7] (fun v iv wr => ∃ k : Nat, k ≤ zs0.length ∧ iv = .int .i64 k ∧ Hid (OwnB wr w.heap.size v (wordsI (okL (zs0.take k)))) ∧ Hid (Ext w wr)) (fun _ iv _ => zs0.length - (intOf iv).toNat)
    case atStart => exact ⟨0, Nat.zero_le _, rfl, hid (by exact OwnB.nil _ _), hid (by repeat (first | (with_reducible exact Ext.refl _) | (with_reducible refine Ext.undrew ?_) | (with_reducible refine Ext.grow ?_ _) | (with_reducible refine Ext.drew ?_) | (with_reducible refine Ext.drewN ?_ _) | (with_reducible refine Ext.alloc ?_ _) | (with_reducible assumption) | ((with_reducible refine Ext.setCell ?_ ?_ _); rotate_left; (first | exact Nat.le_refl _ | ((try dsimp only); (try simp only [World.size_alloc, grow_size, World.size_setCell]); omega)))))⟩
    case round =>
      obtain ⟨k, hk, rfl, hown, hx⟩ := hrel
      by_cases hlt : k < zs0.length
      · obtain ⟨x, hxk⟩ : ∃ x, zs0[k] = x := ⟨_, rfl⟩
        obtain ⟨b, o, rfl, hb, c0, c1, c2, c3⟩ := ins_at (HS.out.ext hx.out) hlt x hxk
        have hk0 : (0 : Int) ≤ (k : Int) := by omega
        have hk1 : (k : Int) < (zs0.length : Int) := by omega
        have hwl := words_le zs0 k
        cases hok : okI x with
        | true =>
          have HW := hid (words_yes hlt (by rw [hxk]; exact hok))
          have HOK := hid (show rightI x.op x.a x.b x.c = true from hok)
          rw [hxk] at HW
          clear hok hxk
          go_wp2_with fail
          refine Calls.mono (put_yes x.op x.a x.b x.c _ HOK.out) ?_
          rintro e w1 ⟨q1, ca1, rfl, hl1, hm1, hq1, hrd1, hy⟩
          have hx1 : Ext w w1 := Ext.trans hx.out (Ext.trans (by repeat (first | (with_reducible exact Ext.refl _) | (with_reducible refine Ext.undrew ?_) | (with_reducible refine Ext.grow ?_ _) | (with_reducible refine Ext.drew ?_) | (with_reducible refine Ext.drewN ?_ _) | (with_reducible refine Ext.alloc ?_ _) | (with_reducible assumption) | ((with_reducible refine Ext.setCell ?_ ?_ _); rotate_left; (first | exact Nat.le_refl _ | ((try dsimp only); (try simp only [World.size_alloc, grow_size, World.size_setCell]); omega))))) hy)
          have hown1 := hown.out.keptExt (Ext.trans (by repeat (first | (with_reducible exact Ext.refl _) | (with_reducible refine Ext.undrew ?_) | (with_reducible refine Ext.grow ?_ _) | (with_reducible refine Ext.drew ?_) | (with_reducible refine Ext.drewN ?_ _) | (with_reducible refine Ext.alloc ?_ _) | (with_reducible assumption) | ((with_reducible refine Ext.setCell ?_ ?_ _); rotate_left; (first | exact Nat.le_refl _ | ((try dsimp only); (try simp only [World.size_alloc, grow_size, World.size_setCell]); omega))))) hy)
          go_wp2_with (at_builtin; refine app_own rfl _ _ rfl w.heap.size _ _ rfl hown1 _ _ _ (putI x.op x.a x.b x.c) rfl (putI_length _ _ _ _) hrd1 (by intro h; cases h) (by omega) (by have := hx1.size; omega) ?_)
          intro v' w2 hown2 hg2
          have hx2 : Ext w w2 := Ext.owned hx1 hown1 hg2
          rw [← HW.out] at hown2
          have HQ := hid (And.intro hown2 hx2)
          clear hown2 hx2 hg2 hown1 hx1 hy hrd1
          go_wp2
          go_roundw
          case rel => exact ⟨k + 1, by omega, by go_num, hid HQ.out.1, hid HQ.out.2⟩
          case measure => simp [intOf]; omega
        | false =>
          have HW := hid (words_no hlt (by rw [hxk]; exact hok))
          have HOK := hid (show rightI x.op x.a x.b x.c = false from hok)
          clear hok hxk
          go_wp2_with fail
          refine Calls.mono (put_no x.op x.a x.b x.c _ HOK.out) ?_
          rintro e w1 ⟨rfl, hy⟩
          have hx1 : Ext w w1 := Ext.trans hx.out (Ext.trans (by repeat (first | (with_reducible exact Ext.refl _) | (with_reducible refine Ext.undrew ?_) | (with_reducible refine Ext.grow ?_ _) | (with_reducible refine Ext.drew ?_) | (with_reducible refine Ext.drewN ?_ _) | (with_reducible refine Ext.alloc ?_ _) | (with_reducible assumption) | ((with_reducible refine Ext.setCell ?_ ?_ _); rotate_left; (first | exact Nat.le_refl _ | ((try dsimp only); (try simp only [World.size_alloc, grow_size, World.size_setCell]); omega))))) hy)
          have hown1 := hown.out.keptExt (Ext.trans (by repeat (first | (with_reducible exact Ext.refl _) | (with_reducible refine Ext.undrew ?_) | (with_reducible refine Ext.grow ?_ _) | (with_reducible refine Ext.drew ?_) | (with_reducible refine Ext.drewN ?_ _) | (with_reducible refine Ext.alloc ?_ _) | (with_reducible assumption) | ((with_reducible refine Ext.setCell ?_ ?_ _); rotate_left; (first | exact Nat.le_refl _ | ((try dsimp only); (try simp only [World.size_alloc, grow_size, World.size_setCell]); omega))))) hy)
          go_wp2_with (at_builtin; refine app_own rfl _ _ rfl w.heap.size _ _ rfl hown1 none 0 0 [] rfl rfl (fun h => absurd h (by simp)) (fun _ => rfl) (by omega) (by have := hx1.size; omega) ?_)
          intro v' w2 hown2 hg2
          have hx2 : Ext w w2 := Ext.owned hx1 hown1 hg2
          (try simp only [List.append_nil] at hown2)
          rw [← HW.out] at hown2
          have HQ := hid (And.intro hown2 hx2)
          clear hown2 hx2 hg2 hown1 hx1 hy
          go_wp2
          go_roundw
          case rel => exact ⟨k + 1, by omega, by go_num, hid HQ.out.1, hid HQ.out.2⟩
          case measure => simp [intOf]; omega
      · have hke : zs0.length ≤ k := by omega
        have e : zs0.take k = zs0 := List.take_of_length_le hke
        have hown' := hown.out
        rw [e] at hown'
        obtain ⟨K, hK⟩ : ∃ K, (okL zs0).length = K := ⟨_, rfl⟩
        have hK2 : K ≤ zs0.length := by rw [← hK]; exact okL_le _
        have hst := stop_cut (okL_all zs0) (m := List.replicate k3 (0 : Int)) (by simpa using hk30) (by simpa using hk34)
        have hlw := wordsI_length (okL zs0)
        have hbw := wordsI_byte (okL zs0)
        rw [hK] at hst hlw
        generalize wordsI (okL zs0) = W at hown' hst hlw hbw
        obtain ⟨A, ca, rfl, hrd, hca⟩ := hown'.rd
        have HST := hid hst
        clear hst
        have h0 : A = none → ca = 0 := by
          intro h
          rcases hown'.2 with ⟨hv, _⟩ | ⟨g, cap, cur, hv, _⟩
          · injection hv
          · subst h
            cases hv
        have HX := hid hx.out
        have HRD := hid hrd
        clear hrd hx hown hown' e hke
        have hnw := OwnB.new _ w.heap.size [] 0 rfl (by decide) HX.out.size
        go_wp2_with (at_builtin; refine app_own rfl _ _ rfl w.heap.size _ [] rfl hnw A _ ca W rfl rfl (HRD.out.ext (by repeat (first | (with_reducible exact Ext.refl _) | (with_reducible refine Ext.undrew ?_) | (with_reducible refine Ext.grow ?_ _) | (with_reducible refine Ext.drew ?_) | (with_reducible refine Ext.drewN ?_ _) | (with_reducible refine Ext.alloc ?_ _) | (with_reducible assumption) | ((with_reducible refine Ext.setCell ?_ ?_ _); rotate_left; (first | exact Nat.le_refl _ | ((try dsimp only); (try simp only [World.size_alloc, grow_size, World.size_setCell]); omega)))))) h0 (by simp; omega) (by have := HX.out.size; simp; omega) ?_)
        intro v1 w1 hown1 hg1
        (try simp only [List.nil_append] at hown1)
        have hx1 : Ext w w1 := Ext.owned (Ext.trans HX.out (by repeat (first | (with_reducible exact Ext.refl _) | (with_reducible refine Ext.undrew ?_) | (with_reducible refine Ext.grow ?_ _) | (with_reducible refine Ext.drew ?_) | (with_reducible refine Ext.drewN ?_ _) | (with_reducible refine Ext.alloc ?_ _) | (with_reducible assumption) | ((with_reducible refine Ext.setCell ?_ ?_ _); rotate_left; (first | exact Nat.le_refl _ | ((try dsimp only); (try simp only [World.size_alloc, grow_size, World.size_setCell]); omega)))))) hnw hg1
        go_wp2_with (at_builtin; refine app_zeros rfl _ _ rfl w.heap.size _ W rfl hown1 k3 rfl hk30 (by omega) (by omega) (by have := hx1.size; omega) ?_)
        intro v2 w2 hown2 hg2
        have hx2 : Ext w w2 := Ext.owned hx1 hown1 hg2
        obtain ⟨A2, ca2, rfl, hrd2, hca2, hm2⟩ := hown2.rdm
        have hl2 : (W ++ List.replicate k3 (0 : Int)).length = W.length + k3 := by simp
        have hb2 : byteL (W ++ List.replicate k3 0) := byteL_append hbw (by intro n hn; rw [(List.mem_replicate.1 hn).2]; decide)
        generalize W ++ List.replicate k3 0 = W2 at HST hrd2 hca2 hl2 hb2 hown2 ⊢
        have HL := hid (show W2.length ≤ 10000 by omega)
        have HX2 := hid hx2
        clear hl2 hown2 hown1 hg1 hg2 hx1 hx2 hnw HRD HX h0
        go_wp2_with (go_at_call 13; (with_reducible refine Calls.mono (all_ A2 ca2 W2 _ hrd2 hb2 hca2 hm2 HL.out) ?_; intro e w' hp; obtain ⟨rfl, hy⟩ := hp.cut HST.out.1 HST.out.2; obtain ⟨de, rfl⟩ := hy.grown; clear hp hy))
        go_ret
        exact ⟨by simp, Ext.trans HX2.out (by repeat (first | (with_reducible exact Ext.refl _) | (with_reducible refine Ext.undrew ?_) | (with_reducible refine Ext.grow ?_ _) | (with_reducible refine Ext.drew ?_) | (with_reducible refine Ext.drewN ?_ _) | (with_reducible refine Ext.alloc ?_ _) | (with_reducible assumption) | ((with_reducible refine Ext.setCell ?_ ?_ _); rotate_left; (first | exact Nat.le_refl _ | ((try dsimp only); (try simp only [World.size_alloc, grow_size, World.size_setCell]); omega)))))⟩
  · have h200' : ¬ (zs0.length : Int) ≤ 200 := h200
    clear HS
    go_enter Try.func6, Try.ntmps6
    go_wp2_with (go_at_call 10; refine Calls.mono (head _) ?_; rintro e wh ⟨rfl, hxh⟩; obtain ⟨dh, rfl⟩ := hxh.grown; clear hxh)
    go_ret
    exact ⟨rfl, (by repeat (first | (with_reducible exact Ext.refl _) | (with_reducible refine Ext.undrew ?_) | (with_reducible refine Ext.grow ?_ _) | (with_reducible refine Ext.drew ?_) | (with_reducible refine Ext.drewN ?_ _) | (with_reducible refine Ext.alloc ?_ _) | (with_reducible assumption) | ((with_reducible refine Ext.setCell ?_ ?_ _); rotate_left; (first | exact Nat.le_refl _ | ((try dsimp only); (try simp only [World.size_alloc, grow_size, World.size_setCell]); omega)))))⟩
end codeCut

end Go.Proofs.Ytcbniifpbcgamaa
