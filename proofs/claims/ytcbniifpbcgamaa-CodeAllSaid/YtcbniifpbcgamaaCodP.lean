/- Layer 15: Put. -/
import Derived.Test.YtcbniifpbcgamaaCodO
namespace Go.Proofs.Ytcbniifpbcgamaa
set_option linter.unusedSimpArgs false
set_option linter.unusedVariables false
open Go.RowKit

set_option maxHeartbeats 800000 in
theorem put_no (op a b c : Int) (w : World) (hr : rightI op a b c = false) :
    Calls Try.prog 19 #[.agg #[.int .i64 op, .int .i64 a, .int .i64 b, .int .i64 c]] w fun e w' => e = .returned (.slice none 0 0) ∧ Ext w w' := by
  have HR := hid hr
  clear hr
  go_enter Try.func19, Try.ntmps19
  go_wp2_with (go_at_call 17; refine (right_ op a b c _).mono ?_; rw [HR.out]; rintro e w1 ⟨rfl, hy⟩; obtain ⟨d, rfl⟩ := hy.grown; clear hy)
  go_ret
  exact ⟨rfl, (by repeat (first | (with_reducible exact Ext.refl _) | (with_reducible refine Ext.undrew ?_) | (with_reducible refine Ext.grow ?_ _) | (with_reducible refine Ext.drew ?_) | (with_reducible refine Ext.drewN ?_ _) | (with_reducible refine Ext.alloc ?_ _) | (with_reducible assumption) | ((with_reducible refine Ext.setCell ?_ ?_ _); rotate_left; (first | exact Nat.le_refl _ | ((try dsimp only); (try simp only [World.size_alloc, grow_size, World.size_setCell]); omega)))))⟩

set_option maxRecDepth 100000 in
set_option maxHeartbeats 4000000 in
theorem put_yes (op a b c : Int) (w : World) (hr : rightI op a b c = true) :
    Calls Try.prog 19 #[.agg #[.int .i64 op, .int .i64 a, .int .i64 b, .int .i64 c]] w fun e w' => ∃ q ca, e = .returned (.slice (some ⟨q, 0, none⟩) 4 ca) ∧ 4 ≤ ca ∧ ca ≤ maxLen ∧ w.heap.size ≤ q ∧ RdB w' (some ⟨q, 0, none⟩) (putI op a b c) ∧ Ext w w' := by
  have hR := putI_pre hr
  have hs3 : (kstr (kd op)).size ≤ 3 := by have := kstr_size ⟨kd op, kd_lt op⟩; simp only at this; split at this <;> omega
  have has : ∀ i, i < 3 → chAt (kstr (kd op)) i < 128 := fun i hi => kstr_ascii ⟨kd op, kd_lt op⟩ ⟨i, hi⟩
  have hK := fun w => kinds_ op w
  generalize kstr (kd op) = s at hR hs3 has hK
  have HAS := hid has
  have HK := hid hK
  have HRR := hid hr
  have HPI := hid hR
  clear hR has hK hr
  go_enter Try.func19, Try.ntmps19
  go_wp2_with (first | (go_at_call 17; refine (right_ op a b c _).mono ?_; rw [HRR.out]; rintro e w1 ⟨rfl, hy⟩; obtain ⟨dr, rfl⟩ := hy.grown; clear hy) | (go_at_call 15; refine (HK.out _).mono ?_; rintro e w1 ⟨rfl, hy⟩; obtain ⟨d, rfl⟩ := hy.grown; clear hy))
  have f1 : Hid (Ext w ((Go.Proofs.Ytcbniifpbcgamaa.grow (w.alloc (.cells #[.int .i64 op, .int .i64 a, .int .i64 b, .int .i64 c] 23)) dr).alloc (.cells #[.int .i64 a, .int .i64 b, .int .i64 c] 48))) := hid (by repeat (first | (with_reducible exact Ext.refl _) | (with_reducible refine Ext.undrew ?_) | (with_reducible refine Ext.grow ?_ _) | (with_reducible refine Ext.drew ?_) | (with_reducible refine Ext.drewN ?_ _) | (with_reducible refine Ext.alloc ?_ _) | (with_reducible assumption) | ((with_reducible refine Ext.setCell ?_ ?_ _); rotate_left; (first | exact Nat.le_refl _ | ((try dsimp only); (try simp only [World.size_alloc, grow_size, World.size_setCell]); omega)))))
  obtain ⟨pb, hpb⟩ : ∃ x, w.heap.size + 1 + dr.n = x := ⟨_, rfl⟩
  have f3 : ∀ i, i < 3 → ((Go.Proofs.Ytcbniifpbcgamaa.grow (w.alloc (.cells #[.int .i64 op, .int .i64 a, .int .i64 b, .int .i64 c] 23)) dr).alloc (.cells #[.int .i64 a, .int .i64 b, .int .i64 c] 48)).cell? ⟨pb, i, none⟩ = some (.int .i64 (v3 a b c i)) := fun i hi => by
    rw [← hpb]
    match i, hi with
    | 0, _ => simp [go_sem, v3]
    | 1, _ => simp [go_sem, v3]
    | 2, _ => simp [go_sem, v3]
  have f4 : pb + 1 = ((Go.Proofs.Ytcbniifpbcgamaa.grow (w.alloc (.cells #[.int .i64 op, .int .i64 a, .int .i64 b, .int .i64 c] 23)) dr).alloc (.cells #[.int .i64 a, .int .i64 b, .int .i64 c] 48)).heap.size := by rw [← hpb]; simp [grow_size]
  rw [hpb, f4]
  generalize ((Go.Proofs.Ytcbniifpbcgamaa.grow (w.alloc (.cells #[.int .i64 op, .int .i64 a, .int .i64 b, .int .i64 c] 23)) dr).alloc (.cells #[.int .i64 a, .int .i64 b, .int .i64 c] 48)) = A at f1 f3 f4 ⊢
  have F3 := hid f3
  have hpA : pb < A.heap.size := by omega
  clear f3 hpb
  have g1 : OwnB (Go.Proofs.Ytcbniifpbcgamaa.grow (A.alloc (.cells #[.int .u8 (op % 256)] 5)) d) A.heap.size (.slice (some ⟨A.heap.size, 0, none⟩) 1 1) (preP op s (v3 a b c) 0) :=
    (OwnB.new A A.heap.size [op % 256] 1 rfl (by decide) (Nat.le_refl _)).keptExt (Ext.grow (Ext.refl _) d)
  have g2 : Ext A (Go.Proofs.Ytcbniifpbcgamaa.grow (A.alloc (.cells #[.int .u8 (op % 256)] 5)) d) := (by repeat (first | (with_reducible exact Ext.refl _) | (with_reducible refine Ext.undrew ?_) | (with_reducible refine Ext.grow ?_ _) | (with_reducible refine Ext.drew ?_) | (with_reducible refine Ext.drewN ?_ _) | (with_reducible refine Ext.alloc ?_ _) | (with_reducible assumption) | ((with_reducible refine Ext.setCell ?_ ?_ _); rotate_left; (first | exact Nat.le_refl _ | ((try dsimp only); (try simp only [World.size_alloc, grow_size, World.size_setCell]); omega)))))
  have g3 : A.heap.size + 1 + d.n = (Go.Proofs.Ytcbniifpbcgamaa.grow (A.alloc (.cells #[.int .u8 (op % 256)] 5)) d).heap.size := by simp [grow_size]
  rw [g3]
  generalize Go.Proofs.Ytcbniifpbcgamaa.grow (A.alloc (.cells #[.int .u8 (op % 256)] 5)) d = W at g1 g2 g3 ⊢
  have G1 := hid g1
  have G2 := hid g2
  have hAk : A.heap.size ≤ W.heap.size := by omega
  have hpk : pb < W.heap.size := by omega
  have hpn : ¬ pb = W.heap.size := by omega
  clear g1 g2 g3 f4
  obtain ⟨i0, hi0, hz0, hz1, hz2⟩ := info_parts info_u8
  have HI0 := hid hi0
  go_loopw [4] (fun v wr => ∃ i : Nat, i ≤ s.size ∧ Hid (wr.heap[W.heap.size]? = some (.stringIter s i)) ∧ Hid (OwnB wr A.heap.size v (preP op s (v3 a b c) i)) ∧ Hid (Ext A wr)) (fun _ wr => s.size - wr.iterPos W.heap.size)
  case atStart => exact ⟨0, Nat.zero_le _, hid (World.iter_heap _ _ _), hid (G1.out.keptExt (Ext.alloc (Ext.refl _) _)), hid (Ext.trans G2.out (Ext.alloc (Ext.refl _) _))⟩
  case round =>
    obtain ⟨i, hi, hit, hown, hx⟩ := hrel
    by_cases hlt : i < s.size
    · have hi3 : i < 3 := by omega
      have ha := HAS.out i hi3
      have hch := chAt_get hlt
      have hc := (hx.out.cells pb i hpA).trans (F3.out i hi3)
      have hs := hx.out.size
      have hlen := preP_le op s (v3 a b c) i
      have HL : Hid ((preP op s (v3 a b c) i).length ≤ 7) := hid (by omega)
      clear hlen
      have HI1 : (0 : Int) ≤ (i : Int) := by omega
      have HI2 : (i : Int) < 3 := by omega
      have hwt : Hid ((wr.iterAt W.heap.size s (i + 1)).heap[W.heap.size]? = some (.stringIter s (i + 1))) := hid (Lib.iterAt_heap _ _ _ _ _ hit.out)
      have hot : Hid (OwnB (wr.iterAt W.heap.size s (i + 1)) A.heap.size u4 (preP op s (v3 a b c) i)) := hid (hown.out.only (S := (· = W.heap.size)) (by rw [turn_iter]; exact Only.turn (S := (· = W.heap.size)) (Only.refl _ _) (.inl rfl) _) (hown.out.notIter hit.out))
      have hxt : Hid (Ext A (wr.iterAt W.heap.size s (i + 1))) := hid (Ext.turn hx.out hAk _)
      have hct := (turn_cell wr W.heap.size (.stringIter s (i + 1)) pb i hpn).trans hc
      have hst : (wr.iterAt W.heap.size s (i + 1)).heap.size = wr.heap.size := turn_size _ _ _
      rw [← turn_iter] at hct
      have hnx := fun ty => Lib.run_next_ascii_at (P := Try.prog) wr W.heap.size s i ty hit.out hlt (by rw [hch]; exact ha)
      rw [hch] at hnx
      have HNX := hid hnx
      have HMS : Hid (wr.iterPos W.heap.size = i) := hid (by simp [World.iterPos, hit.out])
      clear hnx hch hc hown
      generalize wr.iterAt W.heap.size s (i + 1) = wt at hwt hot hxt hct hst HNX
      have hqt : pb < wt.heap.size := by omega
      have hkt : W.heap.size < wt.heap.size := (Array.getElem?_eq_some_iff.1 hwt.out).1
      have hsu := preP_succ op s (v3 a b c) i
      have HNK := hid (hot.out.notIter hwt.out)
      by_cases h119 : chAt s i = 119
      · have e119 : ((chAt s i : Int) == 119) = true := by simp; omega
        have hp : pieceP (chAt s i) (v3 a b c i) = [v3 a b c i / 256 % 256, v3 a b c i % 256] := by unfold pieceP; rw [if_pos h119]
        rw [hp] at hsu
        have HSU := hid hsu
        obtain ⟨g, cap, rfl, hcl, hcm, hAg, _⟩ := OwnB.rd2 hot.out (preP_pos op s (v3 a b c) i)
        have hpg : ¬ pb = g := by omega
        clear hsu hp h119 hst hs
        go_wp2
        rw [HNX.out]
        go_wp2
        refine wp_region_turn (q := g) (.rd 0 (.rd 1 (.rd 2 (.rd 3 (.rd 4 (.rd 5 (.rd 6 (.rd 7 (.rd 8 (.rd 9 (.ac 10 (.ac 11 (.rd 12 .done))))))))))))) (by kernel_rfl) (by kernel_rfl) (fun _ _ d _ _ h => by cases d <;> exact h) (by simp only [Ord.map, nthOp, List.append]; rfl) ?_
        intro d0
        repeat (refine turn_read (by rfl) (fun K hK => ?_); go_big_quiet_op; refine hK _ ?_; clear hK K)
        refine turn_act (by rfl) (fun K hK => ?_)
        go_wp2_with fail
        refine ⟨_, Only.refl _ _, Only.alloc (Only.refl _ _) _, ?_⟩
        refine turn_act (by rfl) (fun K hK => ?_)
        have hot2 := hid ((hot.out.keptExt (Ext.grow (Ext.refl _) d0)).keptExt (Ext.alloc (Ext.refl _) (.cells #[.int .u8 (v3 a b c i / 256 % 256), .int .u8 (v3 a b c i % 256)] 5)))
        refine wp_append_own _ (.tmp 39) (.tmp 49) 24 rfl A.heap.size 5 i0 _ 1 1 Try.underlying24 hi0 hz0 hz1 hz2 rfl (by decide) _ _ _ rfl hot2.out _ 2 2 (bvals [v3 a b c i / 256 % 256, v3 a b c i % 256]) rfl rfl (by
          intro j u hj
          rw [Addr.add_lit]
          have hj2 : j = 0 ∨ j = 1 := by
            have h := (List.getElem?_eq_some_iff.1 hj).1
            simp only [bvals, List.length_map, List.length_cons, List.length_nil] at h
            omega
          rcases hj2 with rfl | rfl <;> (simp [bvals] at hj; subst hj; simp [go_sem])) (bvals_one _) (by have := HL.out; unfold maxLen; omega) (by have := HL.out; omega) (by have := hxt.out.size; simp only [World.size_alloc, grow_size]; omega) ?_
        intro v' w1 hown1 hgrow _
        have hO : Only (· = g) (Go.Proofs.Ytcbniifpbcgamaa.grow wt d0) w1 := Only.grownBy (v := .slice (some ⟨g, 0, none⟩) (preP op s (v3 a b c) i).length cap) (Only.alloc (Only.refl _ _) _) hgrow rfl
        refine hK _ _ ⟨_, Only.refl _ _, hO.trans' (Only.refl _ _) |> fun h => (by first | exact h | exact Only.trans' (Only.alloc (Only.refl _ _) _) h), ?_⟩
        have hown2 := OwnB.more hown1
        rw [← HSU.out] at hown2
        have hx1 : Ext A w1 := Ext.owned (Ext.alloc (Ext.grow hxt.out d0) _) hot2.out hgrow
        have hw1 : w1.heap[W.heap.size]? = some (.stringIter s (i + 1)) := by
          rw [hgrow.block W.heap.size (by simp only [World.size_alloc, grow_size]; omega) (fun e => HNK.out _ e.symm rfl), heap_alloc_old _ _ (by rw [grow_size]; omega), grow_old wt d0 _ hkt]
          exact hwt.out
        have HQ := hid (And.intro hown2 (And.intro hx1 hw1))
        clear hown1 hgrow hown2 hx1 hw1 hO hot2 hK K
        simp only [Act.put, List.setIfInBounds_toArray, List.set_cons_zero, List.set_cons_succ]
        refine turn_read (by rfl) (fun K hK => ?_)
        go_big_quiet_op
        refine hK _ ?_
        clear hK K
        refine turn_nil ?_
        go_wp2
        go_roundw
        case rel => exact ⟨i + 1, by omega, hid HQ.out.2.2, hid HQ.out.1, hid HQ.out.2.1⟩
        case measure =>
          rw [HMS.out]
          simp only [World.iterPos, HQ.out.2.2]
          omega
      · have e119 : ((chAt s i : Int) == 119) = false := by simp; omega
        by_cases h118 : chAt s i = 118
        · have e118 : ((chAt s i : Int) == 118) = true := by simp; omega
          have hp : pieceP (chAt s i) (v3 a b c i) = [] := by rw [h118]; rfl
          rw [hp, List.append_nil] at hsu
          have HSU := hid hsu
          clear hsu hp h118 h119 hst hs
          go_wp2
          rw [HNX.out]
          go_wp2
          go_roundw
          case rel => exact ⟨i + 1, by omega, hwt, hid (by rw [HSU.out]; exact hot.out), hxt⟩
          case measure =>
            rw [HMS.out]
            simp only [World.iterPos, hwt.out]
            omega
        · have e118 : ((chAt s i : Int) == 118) = false := by simp; omega
          have hp : pieceP (chAt s i) (v3 a b c i) = [v3 a b c i % 256] := by unfold pieceP; rw [if_neg h119, if_neg h118]
          rw [hp] at hsu
          have HSU := hid hsu
          clear hsu hp h118 h119 hst hs
          go_wp2
          rw [HNX.out]
          go_wp2_with (at_builtin; refine wpList_append_own _ rfl _ _ 24 rfl A.heap.size 5 i0 _ 1 1 Try.underlying24 hi0 hz0 hz1 hz2 rfl (by decide) _ _ _ rfl (World.ownsRow.alloc hot.out _) ⟨wt.heap.size, 0, none⟩ 1 1 (bvals [v3 a b c i % 256]) rfl rfl ?c1 (bvals_one _) ?c3 ?c4 ?c5 ?_)
          case c1 => exact fun j u hj => World.news_of_block (heap_alloc_new wt _) j u (by simpa [bvals] using hj)
          case c3 => have := HL.out; unfold maxLen; omega
          case c4 => have := HL.out; omega
          case c5 => have := hxt.out.size; simp only [World.size_alloc]; omega
          intro v' w1 hown1 hgrow _
          have hown2 := OwnB.more hown1
          rw [← HSU.out] at hown2
          have hx1 : Ext A w1 := Ext.owned (Ext.alloc hxt.out _) (World.ownsRow.alloc hot.out _) hgrow
          have hw1 : w1.heap[W.heap.size]? = some (.stringIter s (i + 1)) := by
            rw [hgrow.block W.heap.size (by simp only [World.size_alloc]; omega) (fun e => HNK.out _ e.symm rfl), heap_alloc_old wt _ hkt]
            exact hwt.out
          have HQ := hid (And.intro hown2 (And.intro hx1 hw1))
          clear hown1 hgrow hown2 hx1 hw1
          go_wp2
          go_roundw
          case rel => exact ⟨i + 1, by omega, hid HQ.out.2.2, hid HQ.out.1, hid HQ.out.2.1⟩
          case measure =>
            rw [HMS.out]
            simp only [World.iterPos, HQ.out.2.2]
            omega
    · have hi' : i = s.size := by omega
      subst hi'
      have hown := hown.out
      rw [HPI.out] at hown
      obtain ⟨q, ca, rfl, hl, hm, hq, hrd⟩ := OwnB.rd2 hown (by rw [putI_length]; omega)
      rw [putI_length] at hl ⊢
      have HNX := hid fun ty => Lib.run_next_end_at (P := Try.prog) wr W.heap.size s s.size ty hit.out (by omega)
      have hsz := f1.out.size
      have HQ := hid (And.intro hl (And.intro hm (And.intro (show w.heap.size ≤ q by omega) (And.intro hrd (Ext.trans f1.out hx.out)))))
      clear hown hl hm hq hrd hsz
      go_wp2
      rw [HNX.out]
      go_wp2
      go_ret
      exact ⟨q, ca, rfl, HQ.out.1, HQ.out.2.1, HQ.out.2.2.1, HQ.out.2.2.2.1, HQ.out.2.2.2.2⟩


end Go.Proofs.Ytcbniifpbcgamaa
