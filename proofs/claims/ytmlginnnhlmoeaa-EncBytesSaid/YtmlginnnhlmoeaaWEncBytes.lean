/- The walk of the law EncBytes. -/
import Derived.Test.YtmlginnnhlmoeaaEncP
namespace Go.Proofs.Ytmlginnnhlmoeaa
set_option linter.unusedSimpArgs false
set_option linter.unusedVariables false
open Go.RowKit

theorem wfu64 {n : Int} (h : (Lit.int .u64 n).wf = true) : 0 ≤ n ∧ n ≤ 18446744073709551615 := by
  simpa [Lit.wf, IntKind.min, IntKind.max, IntKind.signed, IntKind.bits] using h
namespace encBytes
set_option maxRecDepth 100000 in
set_option maxHeartbeats 16000000 in
theorem walk (a0 : Int) (a1 : Int) (a2 : Bool) (w : World) (w0 : (Lit.int .u64 a0).wf = true) (w1 : (Lit.int .u64 a1).wf = true) :
    Calls Try.prog 5 #[.int .u64 a0, .int .u64 a1, .bool a2] w fun e w' => e = .returned (.bool true) ∧ Ext w w' := by
  obtain ⟨a0l, a0u⟩ := wfu64 w0
  obtain ⟨a1l, a1u⟩ := wfu64 w1
  clear w0 w1
  obtain ⟨i0, hi, hz0, hz1, hz2⟩ := info_parts info_u8
  have HI := hid hi
  go_enter Try.func5, Try.ntmps5
  go_wp2_with (go_at_call 8; refine Calls.mono (head _) ?_; rintro e wh ⟨rfl, hxh⟩; obtain ⟨dh, rfl⟩ := hxh.grown; clear hxh)
  go_loopw [8, 9] (fun v z wr => ∃ (k : Nat) (y : Int), k ≤ 8 ∧ Hid (y = 56 - 8 * (k : Int)) ∧ z = .int .i64 y ∧ Hid (OwnB wr w.heap.size v (btL a0 k)) ∧ Ext w wr) (fun _ z _ => (intOf z + 8).toNat)
  case atStart => exact ⟨0, 56, by omega, hid (by omega), rfl, hid (OwnB.nil _ _), (by repeat (first | (with_reducible exact Ext.refl _) | (with_reducible refine Ext.undrew ?_) | (with_reducible refine Ext.grow ?_ _) | (with_reducible refine Ext.drew ?_) | (with_reducible refine Ext.drewN ?_ _) | (with_reducible refine Ext.alloc ?_ _) | (with_reducible assumption) | ((with_reducible refine Ext.setCell ?_ ?_ _); rotate_left; (first | exact Nat.le_refl _ | ((try dsimp only); (try simp only [World.size_alloc, grow_size, World.size_setCell]); omega)))))⟩
  case round =>
    obtain ⟨k, y, hk, hyk, rfl, hown, hx⟩ := hrel
    by_cases hlt : k < 8
    · have hk8 : k = 0 ∨ k = 1 ∨ k = 2 ∨ k = 3 ∨ k = 4 ∨ k = 5 ∨ k = 6 ∨ k = 7 := by omega
      rcases hk8 with rfl | rfl | rfl | rfl | rfl | rfl | rfl | rfl
      · obtain rfl : y = 56 := by have := hyk.out; omega
        have hsu : btL a0 1 = (btL a0 0) ++ [a0 / 72057594037927936] := by rw [btL_succ a0 0, show bt a0 0 = a0 / 72057594037927936 from (by show a0 / 72057594037927936 % 256 = _; omega)]
        have HSU := hid hsu
        have HL := hid (show (btL a0 0).length ≤ 16 by rw [btL_length]; omega)
        clear hyk hsu
        go_wp2_with (at_builtin; refine wpList_append_own _ rfl _ _ 24 rfl w.heap.size 5 i0 _ 1 1 Try.underlying24 hi hz0 hz1 hz2 rfl (by decide) _ _ _ rfl (World.ownsRow.alloc hown.out _) ⟨wr.heap.size, 0, none⟩ 1 1 (bvals [a0 / 72057594037927936]) rfl rfl ?c1 (bvals_one _) ?c3 ?c4 ?c5 ?_)
        case c1 => exact fun j u hj => World.news_of_block (heap_alloc_new wr _) j u (by simpa [bvals] using hj)
        case c3 => have := HL.out; unfold maxLen; omega
        case c4 => have := HL.out; omega
        case c5 => have := hx.size; simp only [World.size_alloc]; omega
        intro v' w1 hown1 hgrow _
        have hown2 := OwnB.more hown1
        rw [← HSU.out] at hown2
        have hx1 : Ext w w1 := Ext.owned (Ext.alloc hx _) (World.ownsRow.alloc hown.out _) hgrow
        have HQ := hid (And.intro hown2 hx1)
        clear hown1 hgrow hown2 hx1 hown hx
        go_wp2
        go_roundw
        case rel => exact ⟨1, 48, by omega, hid (by omega), rfl, hid HQ.out.1, HQ.out.2⟩
        case measure => simp [intOf]
      · obtain rfl : y = 48 := by have := hyk.out; omega
        have hsu : btL a0 2 = (btL a0 1) ++ [a0 / 281474976710656 % 256] := by rw [btL_succ a0 1, show bt a0 1 = a0 / 281474976710656 % 256 from (by show a0 / 281474976710656 % 256 = _; omega)]
        have HSU := hid hsu
        have HL := hid (show (btL a0 1).length ≤ 16 by rw [btL_length]; omega)
        clear hyk hsu
        go_wp2_with (at_builtin; refine wpList_append_own _ rfl _ _ 24 rfl w.heap.size 5 i0 _ 1 1 Try.underlying24 hi hz0 hz1 hz2 rfl (by decide) _ _ _ rfl (World.ownsRow.alloc hown.out _) ⟨wr.heap.size, 0, none⟩ 1 1 (bvals [a0 / 281474976710656 % 256]) rfl rfl ?c1 (bvals_one _) ?c3 ?c4 ?c5 ?_)
        case c1 => exact fun j u hj => World.news_of_block (heap_alloc_new wr _) j u (by simpa [bvals] using hj)
        case c3 => have := HL.out; unfold maxLen; omega
        case c4 => have := HL.out; omega
        case c5 => have := hx.size; simp only [World.size_alloc]; omega
        intro v' w1 hown1 hgrow _
        have hown2 := OwnB.more hown1
        rw [← HSU.out] at hown2
        have hx1 : Ext w w1 := Ext.owned (Ext.alloc hx _) (World.ownsRow.alloc hown.out _) hgrow
        have HQ := hid (And.intro hown2 hx1)
        clear hown1 hgrow hown2 hx1 hown hx
        go_wp2
        go_roundw
        case rel => exact ⟨2, 40, by omega, hid (by omega), rfl, hid HQ.out.1, HQ.out.2⟩
        case measure => simp [intOf]
      · obtain rfl : y = 40 := by have := hyk.out; omega
        have hsu : btL a0 3 = (btL a0 2) ++ [a0 / 1099511627776 % 256] := by rw [btL_succ a0 2, show bt a0 2 = a0 / 1099511627776 % 256 from (by show a0 / 1099511627776 % 256 = _; omega)]
        have HSU := hid hsu
        have HL := hid (show (btL a0 2).length ≤ 16 by rw [btL_length]; omega)
        clear hyk hsu
        go_wp2_with (at_builtin; refine wpList_append_own _ rfl _ _ 24 rfl w.heap.size 5 i0 _ 1 1 Try.underlying24 hi hz0 hz1 hz2 rfl (by decide) _ _ _ rfl (World.ownsRow.alloc hown.out _) ⟨wr.heap.size, 0, none⟩ 1 1 (bvals [a0 / 1099511627776 % 256]) rfl rfl ?c1 (bvals_one _) ?c3 ?c4 ?c5 ?_)
        case c1 => exact fun j u hj => World.news_of_block (heap_alloc_new wr _) j u (by simpa [bvals] using hj)
        case c3 => have := HL.out; unfold maxLen; omega
        case c4 => have := HL.out; omega
        case c5 => have := hx.size; simp only [World.size_alloc]; omega
        intro v' w1 hown1 hgrow _
        have hown2 := OwnB.more hown1
        rw [← HSU.out] at hown2
        have hx1 : Ext w w1 := Ext.owned (Ext.alloc hx _) (World.ownsRow.alloc hown.out _) hgrow
        have HQ := hid (And.intro hown2 hx1)
        clear hown1 hgrow hown2 hx1 hown hx
        go_wp2
        go_roundw
        case rel => exact ⟨3, 32, by omega, hid (by omega), rfl, hid HQ.out.1, HQ.out.2⟩
        case measure => simp [intOf]
      · obtain rfl : y = 32 := by have := hyk.out; omega
        have hsu : btL a0 4 = (btL a0 3) ++ [a0 / 4294967296 % 256] := by rw [btL_succ a0 3, show bt a0 3 = a0 / 4294967296 % 256 from (by show a0 / 4294967296 % 256 = _; omega)]
        have HSU := hid hsu
        have HL := hid (show (btL a0 3).length ≤ 16 by rw [btL_length]; omega)
        clear hyk hsu
        go_wp2_with (at_builtin; refine wpList_append_own _ rfl _ _ 24 rfl w.heap.size 5 i0 _ 1 1 Try.underlying24 hi hz0 hz1 hz2 rfl (by decide) _ _ _ rfl (World.ownsRow.alloc hown.out _) ⟨wr.heap.size, 0, none⟩ 1 1 (bvals [a0 / 4294967296 % 256]) rfl rfl ?c1 (bvals_one _) ?c3 ?c4 ?c5 ?_)
        case c1 => exact fun j u hj => World.news_of_block (heap_alloc_new wr _) j u (by simpa [bvals] using hj)
        case c3 => have := HL.out; unfold maxLen; omega
        case c4 => have := HL.out; omega
        case c5 => have := hx.size; simp only [World.size_alloc]; omega
        intro v' w1 hown1 hgrow _
        have hown2 := OwnB.more hown1
        rw [← HSU.out] at hown2
        have hx1 : Ext w w1 := Ext.owned (Ext.alloc hx _) (World.ownsRow.alloc hown.out _) hgrow
        have HQ := hid (And.intro hown2 hx1)
        clear hown1 hgrow hown2 hx1 hown hx
        go_wp2
        go_roundw
        case rel => exact ⟨4, 24, by omega, hid (by omega), rfl, hid HQ.out.1, HQ.out.2⟩
        case measure => simp [intOf]
      · obtain rfl : y = 24 := by have := hyk.out; omega
        have hsu : btL a0 5 = (btL a0 4) ++ [a0 / 16777216 % 256] := by rw [btL_succ a0 4, show bt a0 4 = a0 / 16777216 % 256 from (by show a0 / 16777216 % 256 = _; omega)]
        have HSU := hid hsu
        have HL := hid (show (btL a0 4).length ≤ 16 by rw [btL_length]; omega)
        clear hyk hsu
        go_wp2_with (at_builtin; refine wpList_append_own _ rfl _ _ 24 rfl w.heap.size 5 i0 _ 1 1 Try.underlying24 hi hz0 hz1 hz2 rfl (by decide) _ _ _ rfl (World.ownsRow.alloc hown.out _) ⟨wr.heap.size, 0, none⟩ 1 1 (bvals [a0 / 16777216 % 256]) rfl rfl ?c1 (bvals_one _) ?c3 ?c4 ?c5 ?_)
        case c1 => exact fun j u hj => World.news_of_block (heap_alloc_new wr _) j u (by simpa [bvals] using hj)
        case c3 => have := HL.out; unfold maxLen; omega
        case c4 => have := HL.out; omega
        case c5 => have := hx.size; simp only [World.size_alloc]; omega
        intro v' w1 hown1 hgrow _
        have hown2 := OwnB.more hown1
        rw [← HSU.out] at hown2
        have hx1 : Ext w w1 := Ext.owned (Ext.alloc hx _) (World.ownsRow.alloc hown.out _) hgrow
        have HQ := hid (And.intro hown2 hx1)
        clear hown1 hgrow hown2 hx1 hown hx
        go_wp2
        go_roundw
        case rel => exact ⟨5, 16, by omega, hid (by omega), rfl, hid HQ.out.1, HQ.out.2⟩
        case measure => simp [intOf]
      · obtain rfl : y = 16 := by have := hyk.out; omega
        have hsu : btL a0 6 = (btL a0 5) ++ [a0 / 65536 % 256] := by rw [btL_succ a0 5, show bt a0 5 = a0 / 65536 % 256 from (by show a0 / 65536 % 256 = _; omega)]
        have HSU := hid hsu
        have HL := hid (show (btL a0 5).length ≤ 16 by rw [btL_length]; omega)
        clear hyk hsu
        go_wp2_with (at_builtin; refine wpList_append_own _ rfl _ _ 24 rfl w.heap.size 5 i0 _ 1 1 Try.underlying24 hi hz0 hz1 hz2 rfl (by decide) _ _ _ rfl (World.ownsRow.alloc hown.out _) ⟨wr.heap.size, 0, none⟩ 1 1 (bvals [a0 / 65536 % 256]) rfl rfl ?c1 (bvals_one _) ?c3 ?c4 ?c5 ?_)
        case c1 => exact fun j u hj => World.news_of_block (heap_alloc_new wr _) j u (by simpa [bvals] using hj)
        case c3 => have := HL.out; unfold maxLen; omega
        case c4 => have := HL.out; omega
        case c5 => have := hx.size; simp only [World.size_alloc]; omega
        intro v' w1 hown1 hgrow _
        have hown2 := OwnB.more hown1
        rw [← HSU.out] at hown2
        have hx1 : Ext w w1 := Ext.owned (Ext.alloc hx _) (World.ownsRow.alloc hown.out _) hgrow
        have HQ := hid (And.intro hown2 hx1)
        clear hown1 hgrow hown2 hx1 hown hx
        go_wp2
        go_roundw
        case rel => exact ⟨6, 8, by omega, hid (by omega), rfl, hid HQ.out.1, HQ.out.2⟩
        case measure => simp [intOf]
      · obtain rfl : y = 8 := by have := hyk.out; omega
        have hsu : btL a0 7 = (btL a0 6) ++ [a0 / 256 % 256] := by rw [btL_succ a0 6, show bt a0 6 = a0 / 256 % 256 from (by show a0 / 256 % 256 = _; omega)]
        have HSU := hid hsu
        have HL := hid (show (btL a0 6).length ≤ 16 by rw [btL_length]; omega)
        clear hyk hsu
        go_wp2_with (at_builtin; refine wpList_append_own _ rfl _ _ 24 rfl w.heap.size 5 i0 _ 1 1 Try.underlying24 hi hz0 hz1 hz2 rfl (by decide) _ _ _ rfl (World.ownsRow.alloc hown.out _) ⟨wr.heap.size, 0, none⟩ 1 1 (bvals [a0 / 256 % 256]) rfl rfl ?c1 (bvals_one _) ?c3 ?c4 ?c5 ?_)
        case c1 => exact fun j u hj => World.news_of_block (heap_alloc_new wr _) j u (by simpa [bvals] using hj)
        case c3 => have := HL.out; unfold maxLen; omega
        case c4 => have := HL.out; omega
        case c5 => have := hx.size; simp only [World.size_alloc]; omega
        intro v' w1 hown1 hgrow _
        have hown2 := OwnB.more hown1
        rw [← HSU.out] at hown2
        have hx1 : Ext w w1 := Ext.owned (Ext.alloc hx _) (World.ownsRow.alloc hown.out _) hgrow
        have HQ := hid (And.intro hown2 hx1)
        clear hown1 hgrow hown2 hx1 hown hx
        go_wp2
        go_roundw
        case rel => exact ⟨7, 0, by omega, hid (by omega), rfl, hid HQ.out.1, HQ.out.2⟩
        case measure => simp [intOf]
      · obtain rfl : y = 0 := by have := hyk.out; omega
        have hsu : btL a0 8 = (btL a0 7) ++ [a0 % 256] := by rw [btL_succ a0 7, show bt a0 7 = a0 % 256 from (by show a0 % 256 = _; omega)]
        have HSU := hid hsu
        have HL := hid (show (btL a0 7).length ≤ 16 by rw [btL_length]; omega)
        clear hyk hsu
        go_wp2_with (at_builtin; refine wpList_append_own _ rfl _ _ 24 rfl w.heap.size 5 i0 _ 1 1 Try.underlying24 hi hz0 hz1 hz2 rfl (by decide) _ _ _ rfl (World.ownsRow.alloc hown.out _) ⟨wr.heap.size, 0, none⟩ 1 1 (bvals [a0 % 256]) rfl rfl ?c1 (bvals_one _) ?c3 ?c4 ?c5 ?_)
        case c1 => exact fun j u hj => World.news_of_block (heap_alloc_new wr _) j u (by simpa [bvals] using hj)
        case c3 => have := HL.out; unfold maxLen; omega
        case c4 => have := HL.out; omega
        case c5 => have := hx.size; simp only [World.size_alloc]; omega
        intro v' w1 hown1 hgrow _
        have hown2 := OwnB.more hown1
        rw [← HSU.out] at hown2
        have hx1 : Ext w w1 := Ext.owned (Ext.alloc hx _) (World.ownsRow.alloc hown.out _) hgrow
        have HQ := hid (And.intro hown2 hx1)
        clear hown1 hgrow hown2 hx1 hown hx
        go_wp2
        go_roundw
        case rel => exact ⟨8, -8, by omega, hid (by omega), rfl, hid HQ.out.1, HQ.out.2⟩
        case measure => simp [intOf]
    · have hk' : k = 8 := by omega
      subst hk'
      obtain rfl : y = -8 := by have := hyk.out; omega
      clear hyk hlt hk
      have hown8 := hown
      clear hown
      go_wp2
      go_loopw [8, 10] (fun v z wr => ∃ (k : Nat) (y : Int), k ≤ 8 ∧ Hid (y = 56 - 8 * (k : Int)) ∧ z = .int .i64 y ∧ Hid (OwnB wr w.heap.size v (btL a0 8 ++ btL a1 k)) ∧ Ext w wr) (fun _ z _ => (intOf z + 8).toNat)
      case atStart => exact ⟨0, 56, by omega, hid (by omega), rfl, hid (by rw [show btL a1 0 = [] from rfl, List.append_nil]; exact hown8.out), (by repeat (first | (with_reducible exact Ext.refl _) | (with_reducible refine Ext.undrew ?_) | (with_reducible refine Ext.grow ?_ _) | (with_reducible refine Ext.drew ?_) | (with_reducible refine Ext.drewN ?_ _) | (with_reducible refine Ext.alloc ?_ _) | (with_reducible assumption) | ((with_reducible refine Ext.setCell ?_ ?_ _); rotate_left; (first | exact Nat.le_refl _ | ((try dsimp only); (try simp only [World.size_alloc, grow_size, World.size_setCell]); omega)))))⟩
      case round =>
        obtain ⟨k, y, hk, hyk, rfl, hown, hx⟩ := hrel
        by_cases hlt : k < 8
        · have hk8 : k = 0 ∨ k = 1 ∨ k = 2 ∨ k = 3 ∨ k = 4 ∨ k = 5 ∨ k = 6 ∨ k = 7 := by omega
          rcases hk8 with rfl | rfl | rfl | rfl | rfl | rfl | rfl | rfl
          · obtain rfl : y = 56 := by have := hyk.out; omega
            have hsu : btL a0 8 ++ btL a1 1 = (btL a0 8 ++ btL a1 0) ++ [a1 / 72057594037927936] := by rw [btL_succ a1 0, ← List.append_assoc, show bt a1 0 = a1 / 72057594037927936 from (by show a1 / 72057594037927936 % 256 = _; omega)]
            have HSU := hid hsu
            have HL := hid (show (btL a0 8 ++ btL a1 0).length ≤ 16 by rw [List.length_append, btL_length, btL_length]; omega)
            clear hyk hsu
            go_wp2_with (at_builtin; refine wpList_append_own _ rfl _ _ 24 rfl w.heap.size 5 i0 _ 1 1 Try.underlying24 hi hz0 hz1 hz2 rfl (by decide) _ _ _ rfl (World.ownsRow.alloc hown.out _) ⟨wr.heap.size, 0, none⟩ 1 1 (bvals [a1 / 72057594037927936]) rfl rfl ?c1 (bvals_one _) ?c3 ?c4 ?c5 ?_)
            case c1 => exact fun j u hj => World.news_of_block (heap_alloc_new wr _) j u (by simpa [bvals] using hj)
            case c3 => have := HL.out; unfold maxLen; omega
            case c4 => have := HL.out; omega
            case c5 => have := hx.size; simp only [World.size_alloc]; omega
            intro v' w1 hown1 hgrow _
            have hown2 := OwnB.more hown1
            rw [← HSU.out] at hown2
            have hx1 : Ext w w1 := Ext.owned (Ext.alloc hx _) (World.ownsRow.alloc hown.out _) hgrow
            have HQ := hid (And.intro hown2 hx1)
            clear hown1 hgrow hown2 hx1 hown hx
            go_wp2
            go_roundw
            case rel => exact ⟨1, 48, by omega, hid (by omega), rfl, hid HQ.out.1, HQ.out.2⟩
            case measure => simp [intOf]
          · obtain rfl : y = 48 := by have := hyk.out; omega
            have hsu : btL a0 8 ++ btL a1 2 = (btL a0 8 ++ btL a1 1) ++ [a1 / 281474976710656 % 256] := by rw [btL_succ a1 1, ← List.append_assoc, show bt a1 1 = a1 / 281474976710656 % 256 from (by show a1 / 281474976710656 % 256 = _; omega)]
            have HSU := hid hsu
            have HL := hid (show (btL a0 8 ++ btL a1 1).length ≤ 16 by rw [List.length_append, btL_length, btL_length]; omega)
            clear hyk hsu
            go_wp2_with (at_builtin; refine wpList_append_own _ rfl _ _ 24 rfl w.heap.size 5 i0 _ 1 1 Try.underlying24 hi hz0 hz1 hz2 rfl (by decide) _ _ _ rfl (World.ownsRow.alloc hown.out _) ⟨wr.heap.size, 0, none⟩ 1 1 (bvals [a1 / 281474976710656 % 256]) rfl rfl ?c1 (bvals_one _) ?c3 ?c4 ?c5 ?_)
            case c1 => exact fun j u hj => World.news_of_block (heap_alloc_new wr _) j u (by simpa [bvals] using hj)
            case c3 => have := HL.out; unfold maxLen; omega
            case c4 => have := HL.out; omega
            case c5 => have := hx.size; simp only [World.size_alloc]; omega
            intro v' w1 hown1 hgrow _
            have hown2 := OwnB.more hown1
            rw [← HSU.out] at hown2
            have hx1 : Ext w w1 := Ext.owned (Ext.alloc hx _) (World.ownsRow.alloc hown.out _) hgrow
            have HQ := hid (And.intro hown2 hx1)
            clear hown1 hgrow hown2 hx1 hown hx
            go_wp2
            go_roundw
            case rel => exact ⟨2, 40, by omega, hid (by omega), rfl, hid HQ.out.1, HQ.out.2⟩
            case measure => simp [intOf]
          · obtain rfl : y = 40 := by have := hyk.out; omega
            have hsu : btL a0 8 ++ btL a1 3 = (btL a0 8 ++ btL a1 2) ++ [a1 / 1099511627776 % 256] := by rw [btL_succ a1 2, ← List.append_assoc, show bt a1 2 = a1 / 1099511627776 % 256 from (by show a1 / 1099511627776 % 256 = _; omega)]
            have HSU := hid hsu
            have HL := hid (show (btL a0 8 ++ btL a1 2).length ≤ 16 by rw [List.length_append, btL_length, btL_length]; omega)
            clear hyk hsu
            go_wp2_with (at_builtin; refine wpList_append_own _ rfl _ _ 24 rfl w.heap.size 5 i0 _ 1 1 Try.underlying24 hi hz0 hz1 hz2 rfl (by decide) _ _ _ rfl (World.ownsRow.alloc hown.out _) ⟨wr.heap.size, 0, none⟩ 1 1 (bvals [a1 / 1099511627776 % 256]) rfl rfl ?c1 (bvals_one _) ?c3 ?c4 ?c5 ?_)
            case c1 => exact fun j u hj => World.news_of_block (heap_alloc_new wr _) j u (by simpa [bvals] using hj)
            case c3 => have := HL.out; unfold maxLen; omega
            case c4 => have := HL.out; omega
            case c5 => have := hx.size; simp only [World.size_alloc]; omega
            intro v' w1 hown1 hgrow _
            have hown2 := OwnB.more hown1
            rw [← HSU.out] at hown2
            have hx1 : Ext w w1 := Ext.owned (Ext.alloc hx _) (World.ownsRow.alloc hown.out _) hgrow
            have HQ := hid (And.intro hown2 hx1)
            clear hown1 hgrow hown2 hx1 hown hx
            go_wp2
            go_roundw
            case rel => exact ⟨3, 32, by omega, hid (by omega), rfl, hid HQ.out.1, HQ.out.2⟩
            case measure => simp [intOf]
          · obtain rfl : y = 32 := by have := hyk.out; omega
            have hsu : btL a0 8 ++ btL a1 4 = (btL a0 8 ++ btL a1 3) ++ [a1 / 4294967296 % 256] := by rw [btL_succ a1 3, ← List.append_assoc, show bt a1 3 = a1 / 4294967296 % 256 from (by show a1 / 4294967296 % 256 = _; omega)]
            have HSU := hid hsu
            have HL := hid (show (btL a0 8 ++ btL a1 3).length ≤ 16 by rw [List.length_append, btL_length, btL_length]; omega)
            clear hyk hsu
            go_wp2_with (at_builtin; refine wpList_append_own _ rfl _ _ 24 rfl w.heap.size 5 i0 _ 1 1 Try.underlying24 hi hz0 hz1 hz2 rfl (by decide) _ _ _ rfl (World.ownsRow.alloc hown.out _) ⟨wr.heap.size, 0, none⟩ 1 1 (bvals [a1 / 4294967296 % 256]) rfl rfl ?c1 (bvals_one _) ?c3 ?c4 ?c5 ?_)
            case c1 => exact fun j u hj => World.news_of_block (heap_alloc_new wr _) j u (by simpa [bvals] using hj)
            case c3 => have := HL.out; unfold maxLen; omega
            case c4 => have := HL.out; omega
            case c5 => have := hx.size; simp only [World.size_alloc]; omega
            intro v' w1 hown1 hgrow _
            have hown2 := OwnB.more hown1
            rw [← HSU.out] at hown2
            have hx1 : Ext w w1 := Ext.owned (Ext.alloc hx _) (World.ownsRow.alloc hown.out _) hgrow
            have HQ := hid (And.intro hown2 hx1)
            clear hown1 hgrow hown2 hx1 hown hx
            go_wp2
            go_roundw
            case rel => exact ⟨4, 24, by omega, hid (by omega), rfl, hid HQ.out.1, HQ.out.2⟩
            case measure => simp [intOf]
          · obtain rfl : y = 24 := by have := hyk.out; omega
            have hsu : btL a0 8 ++ btL a1 5 = (btL a0 8 ++ btL a1 4) ++ [a1 / 16777216 % 256] := by rw [btL_succ a1 4, ← List.append_assoc, show bt a1 4 = a1 / 16777216 % 256 from (by show a1 / 16777216 % 256 = _; omega)]
            have HSU := hid hsu
            have HL := hid (show (btL a0 8 ++ btL a1 4).length ≤ 16 by rw [List.length_append, btL_length, btL_length]; omega)
            clear hyk hsu
            go_wp2_with (at_builtin; refine wpList_append_own _ rfl _ _ 24 rfl w.heap.size 5 i0 _ 1 1 Try.underlying24 hi hz0 hz1 hz2 rfl (by decide) _ _ _ rfl (World.ownsRow.alloc hown.out _) ⟨wr.heap.size, 0, none⟩ 1 1 (bvals [a1 / 16777216 % 256]) rfl rfl ?c1 (bvals_one _) ?c3 ?c4 ?c5 ?_)
            case c1 => exact fun j u hj => World.news_of_block (heap_alloc_new wr _) j u (by simpa [bvals] using hj)
            case c3 => have := HL.out; unfold maxLen; omega
            case c4 => have := HL.out; omega
            case c5 => have := hx.size; simp only [World.size_alloc]; omega
            intro v' w1 hown1 hgrow _
            have hown2 := OwnB.more hown1
            rw [← HSU.out] at hown2
            have hx1 : Ext w w1 := Ext.owned (Ext.alloc hx _) (World.ownsRow.alloc hown.out _) hgrow
            have HQ := hid (And.intro hown2 hx1)
            clear hown1 hgrow hown2 hx1 hown hx
            go_wp2
            go_roundw
            case rel => exact ⟨5, 16, by omega, hid (by omega), rfl, hid HQ.out.1, HQ.out.2⟩
            case measure => simp [intOf]
          · obtain rfl : y = 16 := by have := hyk.out; omega
            have hsu : btL a0 8 ++ btL a1 6 = (btL a0 8 ++ btL a1 5) ++ [a1 / 65536 % 256] := by rw [btL_succ a1 5, ← List.append_assoc, show bt a1 5 = a1 / 65536 % 256 from (by show a1 / 65536 % 256 = _; omega)]
            have HSU := hid hsu
            have HL := hid (show (btL a0 8 ++ btL a1 5).length ≤ 16 by rw [List.length_append, btL_length, btL_length]; omega)
            clear hyk hsu
            go_wp2_with (at_builtin; refine wpList_append_own _ rfl _ _ 24 rfl w.heap.size 5 i0 _ 1 1 Try.underlying24 hi hz0 hz1 hz2 rfl (by decide) _ _ _ rfl (World.ownsRow.alloc hown.out _) ⟨wr.heap.size, 0, none⟩ 1 1 (bvals [a1 / 65536 % 256]) rfl rfl ?c1 (bvals_one _) ?c3 ?c4 ?c5 ?_)
            case c1 => exact fun j u hj => World.news_of_block (heap_alloc_new wr _) j u (by simpa [bvals] using hj)
            case c3 => have := HL.out; unfold maxLen; omega
            case c4 => have := HL.out; omega
            case c5 => have := hx.size; simp only [World.size_alloc]; omega
            intro v' w1 hown1 hgrow _
            have hown2 := OwnB.more hown1
            rw [← HSU.out] at hown2
            have hx1 : Ext w w1 := Ext.owned (Ext.alloc hx _) (World.ownsRow.alloc hown.out _) hgrow
            have HQ := hid (And.intro hown2 hx1)
            clear hown1 hgrow hown2 hx1 hown hx
            go_wp2
            go_roundw
            case rel => exact ⟨6, 8, by omega, hid (by omega), rfl, hid HQ.out.1, HQ.out.2⟩
            case measure => simp [intOf]
          · obtain rfl : y = 8 := by have := hyk.out; omega
            have hsu : btL a0 8 ++ btL a1 7 = (btL a0 8 ++ btL a1 6) ++ [a1 / 256 % 256] := by rw [btL_succ a1 6, ← List.append_assoc, show bt a1 6 = a1 / 256 % 256 from (by show a1 / 256 % 256 = _; omega)]
            have HSU := hid hsu
            have HL := hid (show (btL a0 8 ++ btL a1 6).length ≤ 16 by rw [List.length_append, btL_length, btL_length]; omega)
            clear hyk hsu
            go_wp2_with (at_builtin; refine wpList_append_own _ rfl _ _ 24 rfl w.heap.size 5 i0 _ 1 1 Try.underlying24 hi hz0 hz1 hz2 rfl (by decide) _ _ _ rfl (World.ownsRow.alloc hown.out _) ⟨wr.heap.size, 0, none⟩ 1 1 (bvals [a1 / 256 % 256]) rfl rfl ?c1 (bvals_one _) ?c3 ?c4 ?c5 ?_)
            case c1 => exact fun j u hj => World.news_of_block (heap_alloc_new wr _) j u (by simpa [bvals] using hj)
            case c3 => have := HL.out; unfold maxLen; omega
            case c4 => have := HL.out; omega
            case c5 => have := hx.size; simp only [World.size_alloc]; omega
            intro v' w1 hown1 hgrow _
            have hown2 := OwnB.more hown1
            rw [← HSU.out] at hown2
            have hx1 : Ext w w1 := Ext.owned (Ext.alloc hx _) (World.ownsRow.alloc hown.out _) hgrow
            have HQ := hid (And.intro hown2 hx1)
            clear hown1 hgrow hown2 hx1 hown hx
            go_wp2
            go_roundw
            case rel => exact ⟨7, 0, by omega, hid (by omega), rfl, hid HQ.out.1, HQ.out.2⟩
            case measure => simp [intOf]
          · obtain rfl : y = 0 := by have := hyk.out; omega
            have hsu : btL a0 8 ++ btL a1 8 = (btL a0 8 ++ btL a1 7) ++ [a1 % 256] := by rw [btL_succ a1 7, ← List.append_assoc, show bt a1 7 = a1 % 256 from (by show a1 % 256 = _; omega)]
            have HSU := hid hsu
            have HL := hid (show (btL a0 8 ++ btL a1 7).length ≤ 16 by rw [List.length_append, btL_length, btL_length]; omega)
            clear hyk hsu
            go_wp2_with (at_builtin; refine wpList_append_own _ rfl _ _ 24 rfl w.heap.size 5 i0 _ 1 1 Try.underlying24 hi hz0 hz1 hz2 rfl (by decide) _ _ _ rfl (World.ownsRow.alloc hown.out _) ⟨wr.heap.size, 0, none⟩ 1 1 (bvals [a1 % 256]) rfl rfl ?c1 (bvals_one _) ?c3 ?c4 ?c5 ?_)
            case c1 => exact fun j u hj => World.news_of_block (heap_alloc_new wr _) j u (by simpa [bvals] using hj)
            case c3 => have := HL.out; unfold maxLen; omega
            case c4 => have := HL.out; omega
            case c5 => have := hx.size; simp only [World.size_alloc]; omega
            intro v' w1 hown1 hgrow _
            have hown2 := OwnB.more hown1
            rw [← HSU.out] at hown2
            have hx1 : Ext w w1 := Ext.owned (Ext.alloc hx _) (World.ownsRow.alloc hown.out _) hgrow
            have HQ := hid (And.intro hown2 hx1)
            clear hown1 hgrow hown2 hx1 hown hx
            go_wp2
            go_roundw
            case rel => exact ⟨8, -8, by omega, hid (by omega), rfl, hid HQ.out.1, HQ.out.2⟩
            case measure => simp [intOf]
        · have hk' : k = 8 := by omega
          subst hk'
          obtain rfl : y = -8 := by have := hyk.out; omega
          clear hyk hlt hk
          obtain ⟨q, ca, rfl, hl, hm, hq, hrd⟩ := OwnB.rd2 hown.out (by rw [List.length_append, btL_length, btL_length]; omega)
          have e16 : (btL a0 8 ++ btL a1 8).length = 16 := by rw [List.length_append, btL_length, btL_length]
          have hl : 16 ≤ ca := by rw [e16] at hl; exact hl
          rw [show btL a0 8 ++ btL a1 8 = [bt a0 0, bt a0 1, bt a0 2, bt a0 3, bt a0 4, bt a0 5, bt a0 6, bt a0 7, bt a1 0, bt a1 1, bt a1 2, bt a1 3, bt a1 4, bt a1 5, bt a1 6, bt a1 7] from rfl] at hrd ⊢
          obtain ⟨l0, u0⟩ := bt_bd a0 0
          generalize bt a0 0 = x0 at l0 u0 hrd ⊢
          obtain ⟨l1, u1⟩ := bt_bd a0 1
          generalize bt a0 1 = x1 at l1 u1 hrd ⊢
          obtain ⟨l2, u2⟩ := bt_bd a0 2
          generalize bt a0 2 = x2 at l2 u2 hrd ⊢
          obtain ⟨l3, u3⟩ := bt_bd a0 3
          generalize bt a0 3 = x3 at l3 u3 hrd ⊢
          obtain ⟨l4, u4⟩ := bt_bd a0 4
          generalize bt a0 4 = x4 at l4 u4 hrd ⊢
          obtain ⟨l5, u5⟩ := bt_bd a0 5
          generalize bt a0 5 = x5 at l5 u5 hrd ⊢
          obtain ⟨l6, u6⟩ := bt_bd a0 6
          generalize bt a0 6 = x6 at l6 u6 hrd ⊢
          obtain ⟨l7, u7⟩ := bt_bd a0 7
          generalize bt a0 7 = x7 at l7 u7 hrd ⊢
          obtain ⟨l8, u8⟩ := bt_bd a1 0
          generalize bt a1 0 = x8 at l8 u8 hrd ⊢
          obtain ⟨l9, u9⟩ := bt_bd a1 1
          generalize bt a1 1 = x9 at l9 u9 hrd ⊢
          obtain ⟨l10, u10⟩ := bt_bd a1 2
          generalize bt a1 2 = x10 at l10 u10 hrd ⊢
          obtain ⟨l11, u11⟩ := bt_bd a1 3
          generalize bt a1 3 = x11 at l11 u11 hrd ⊢
          obtain ⟨l12, u12⟩ := bt_bd a1 4
          generalize bt a1 4 = x12 at l12 u12 hrd ⊢
          obtain ⟨l13, u13⟩ := bt_bd a1 5
          generalize bt a1 5 = x13 at l13 u13 hrd ⊢
          obtain ⟨l14, u14⟩ := bt_bd a1 6
          generalize bt a1 6 = x14 at l14 u14 hrd ⊢
          obtain ⟨l15, u15⟩ := bt_bd a1 7
          generalize bt a1 7 = x15 at l15 u15 hrd ⊢
          have hqs := (hrd.cellsE (by simp)).1
          have HR := hid hrd
          obtain ⟨hG1, hG2, hG3⟩ := getL_facts l0 u0 l1 u1 l2 u2 l3 u3 l4 u4 l5 u5 l6 u6 l7 u7 l8 u8 l9 u9 l10 u10 l11 u11 l12 u12 l13 u13 l14 u14 l15 u15 a2
          obtain ⟨⟨gt, gb, gtp, ga, gp, gty⟩, hG⟩ : ∃ c, getL [x0, x1, x2, x3, x4, x5, x6, x7, x8, x9, x10, x11, x12, x13, x14, x15] a2 = c := ⟨_, rfl⟩
          rw [hG] at hG1 hG2 hG3
          have HG := hid hG
          have HG1 := hid hG1
          have HG2 := hid hG2
          have HG3 := hid hG3
          have a13 := andu8 l13 u13
          clear hG hG1 hG2 hG3 hrd hown e16 hi HI
          go_wp2_with (go_at_call 9; refine Calls.mono (get_yes q 0 ca x0 x1 x2 x3 x4 x5 x6 x7 x8 x9 x10 x11 x12 x13 x14 x15 a2 _ (HR.out.ext (by repeat (first | (with_reducible exact Ext.refl _) | (with_reducible refine Ext.undrew ?_) | (with_reducible refine Ext.grow ?_ _) | (with_reducible refine Ext.drew ?_) | (with_reducible refine Ext.drewN ?_ _) | (with_reducible refine Ext.alloc ?_ _) | (with_reducible assumption) | ((with_reducible refine Ext.setCell ?_ ?_ _); rotate_left; (first | exact Nat.le_refl _ | ((try dsimp only); (try simp only [World.size_alloc, grow_size, World.size_setCell]); omega)))))) hl hm l0 u0 l1 u1 l2 u2 l3 u3 l4 u4 l5 u5 l6 u6 l7 u7 l8 u8 l9 u9 l10 u10 l11 u11 l12 u12 l13 u13 l14 u14 l15 u15) ?_; rw [HG.out]; dsimp only; rintro e w' ⟨rfl, hy⟩; obtain ⟨dg, rfl⟩ := hy.grown; clear hy)
          refine Calls.mono (put_yes gt gb gtp ga gp gty _ HG1.out) ?_
          rintro e W ⟨q2, ca2, rfl, hl2, hm2, hq2, hr2, hy⟩
          rw [HG2.out] at hr2
          have hz : Ext wr W := Ext.trans (by repeat (first | (with_reducible exact Ext.refl _) | (with_reducible refine Ext.undrew ?_) | (with_reducible refine Ext.grow ?_ _) | (with_reducible refine Ext.drew ?_) | (with_reducible refine Ext.drewN ?_ _) | (with_reducible refine Ext.alloc ?_ _) | (with_reducible assumption) | ((with_reducible refine Ext.setCell ?_ ?_ _); rotate_left; (first | exact Nat.le_refl _ | ((try dsimp only); (try simp only [World.size_alloc, grow_size, World.size_setCell]); omega))))) hy
          have hwW : Ext w W := Ext.trans hx hz
          obtain ⟨hq1W, hk16⟩ := (RdB.ext HR.out hz).cellsE (by simp)
          obtain ⟨hq2W, he16⟩ := hr2.cellsE (by simp)
          have z0 : W.cell? ⟨wr.heap.size + dg.n, 0, none⟩ = some (.bool gt) := (hy.cells _ _ (by simp [grow_size])).trans (by simp [go_sem])
          have htW : wr.heap.size + dg.n < W.heap.size := by have := hy.size; simp [grow_size] at this; omega
          obtain ⟨tx, htx⟩ : ∃ x, wr.heap.size + dg.n = x := ⟨_, rfl⟩
          rw [htx] at z0 htW ⊢
          have k0 := hk16 0 (by simp)
          have e0 := he16 0 (by simp)
          have k1 := hk16 1 (by simp)
          have e1 := he16 1 (by simp)
          have k2 := hk16 2 (by simp)
          have e2 := he16 2 (by simp)
          have k3 := hk16 3 (by simp)
          have e3 := he16 3 (by simp)
          have k4 := hk16 4 (by simp)
          have e4 := he16 4 (by simp)
          have k5 := hk16 5 (by simp)
          have e5 := he16 5 (by simp)
          have k6 := hk16 6 (by simp)
          have e6 := he16 6 (by simp)
          have k7 := hk16 7 (by simp)
          have e7 := he16 7 (by simp)
          have k8 := hk16 8 (by simp)
          have e8 := he16 8 (by simp)
          have k9 := hk16 9 (by simp)
          have e9 := he16 9 (by simp)
          have k10 := hk16 10 (by simp)
          have e10 := he16 10 (by simp)
          have k11 := hk16 11 (by simp)
          have e11 := he16 11 (by simp)
          have k12 := hk16 12 (by simp)
          have e12 := he16 12 (by simp)
          have k13 := hk16 13 (by simp)
          have e13 := he16 13 (by simp)
          have k14 := hk16 14 (by simp)
          have e14 := he16 14 (by simp)
          have k15 := hk16 15 (by simp)
          have e15 := he16 15 (by simp)
          simp only [List.getElem_cons_zero, List.getElem_cons_succ] at k0 e0 k1 e1 k2 e2 k3 e3 k4 e4 k5 e5 k6 e6 k7 e7 k8 e8 k9 e9 k10 e10 k11 e11 k12 e12 k13 e13 k14 e14 k15 e15
          clear hk16 he16 hr2 hy hz htx HG HG1 HG2 HR hx
          cases gt with
          | false =>
            clear HG3
            go_wp2
            go_loopw [14] (fun z wr => ∃ (k : Nat) (y : Int), k ≤ 16 ∧ Hid (y = (k : Int)) ∧ z = .int .i64 y ∧ Ext W wr) (fun z _ => 16 - (intOf z).toNat)
            case atStart => exact ⟨0, 0, by omega, hid (by omega), rfl, Ext.refl _⟩
            case round =>
              obtain ⟨k, y, hk, hyk, rfl, hx⟩ := hrel
              have hsz := hx.size
              have hq1r : q < wr.heap.size := by omega
              have hq2r : q2 < wr.heap.size := by omega
              have htr : tx < wr.heap.size := by omega
              have c0 := (hx.cells q 0 hq1W).trans k0
              have g0 := (hx.cells q2 0 hq2W).trans e0
              have c1 := (hx.cells q 1 hq1W).trans k1
              have g1 := (hx.cells q2 1 hq2W).trans e1
              have c2 := (hx.cells q 2 hq1W).trans k2
              have g2 := (hx.cells q2 2 hq2W).trans e2
              have c3 := (hx.cells q 3 hq1W).trans k3
              have g3 := (hx.cells q2 3 hq2W).trans e3
              have c4 := (hx.cells q 4 hq1W).trans k4
              have g4 := (hx.cells q2 4 hq2W).trans e4
              have c5 := (hx.cells q 5 hq1W).trans k5
              have g5 := (hx.cells q2 5 hq2W).trans e5
              have c6 := (hx.cells q 6 hq1W).trans k6
              have g6 := (hx.cells q2 6 hq2W).trans e6
              have c7 := (hx.cells q 7 hq1W).trans k7
              have g7 := (hx.cells q2 7 hq2W).trans e7
              have c8 := (hx.cells q 8 hq1W).trans k8
              have g8 := (hx.cells q2 8 hq2W).trans e8
              have c9 := (hx.cells q 9 hq1W).trans k9
              have g9 := (hx.cells q2 9 hq2W).trans e9
              have c10 := (hx.cells q 10 hq1W).trans k10
              have g10 := (hx.cells q2 10 hq2W).trans e10
              have c11 := (hx.cells q 11 hq1W).trans k11
              have g11 := (hx.cells q2 11 hq2W).trans e11
              have c12 := (hx.cells q 12 hq1W).trans k12
              have g12 := (hx.cells q2 12 hq2W).trans e12
              have c13 := (hx.cells q 13 hq1W).trans k13
              have g13 := (hx.cells q2 13 hq2W).trans e13
              have c14 := (hx.cells q 14 hq1W).trans k14
              have g14 := (hx.cells q2 14 hq2W).trans e14
              have c15 := (hx.cells q 15 hq1W).trans k15
              have g15 := (hx.cells q2 15 hq2W).trans e15
              have t0 := (hx.cells tx 0 htW).trans z0
              by_cases hlt : k < 16
              · have hk16 : k = 0 ∨ k = 1 ∨ k = 2 ∨ k = 3 ∨ k = 4 ∨ k = 5 ∨ k = 6 ∨ k = 7 ∨ k = 8 ∨ k = 9 ∨ k = 10 ∨ k = 11 ∨ k = 12 ∨ k = 13 ∨ k = 14 ∨ k = 15 := by omega
                rcases hk16 with rfl | rfl | rfl | rfl | rfl | rfl | rfl | rfl | rfl | rfl | rfl | rfl | rfl | rfl | rfl | rfl
                · obtain rfl : y = 0 := by have := hyk.out; omega
                  clear hyk
                  go_wp2
                  go_roundw
                  case rel => exact ⟨1, 1, by omega, hid (by omega), rfl, (by repeat (first | (with_reducible exact Ext.refl _) | (with_reducible refine Ext.undrew ?_) | (with_reducible refine Ext.grow ?_ _) | (with_reducible refine Ext.drew ?_) | (with_reducible refine Ext.drewN ?_ _) | (with_reducible refine Ext.alloc ?_ _) | (with_reducible assumption) | ((with_reducible refine Ext.setCell ?_ ?_ _); rotate_left; (first | exact Nat.le_refl _ | ((try dsimp only); (try simp only [World.size_alloc, grow_size, World.size_setCell]); omega)))))⟩
                  case measure => simp [intOf]
                · obtain rfl : y = 1 := by have := hyk.out; omega
                  clear hyk
                  go_wp2
                  go_roundw
                  case rel => exact ⟨2, 2, by omega, hid (by omega), rfl, (by repeat (first | (with_reducible exact Ext.refl _) | (with_reducible refine Ext.undrew ?_) | (with_reducible refine Ext.grow ?_ _) | (with_reducible refine Ext.drew ?_) | (with_reducible refine Ext.drewN ?_ _) | (with_reducible refine Ext.alloc ?_ _) | (with_reducible assumption) | ((with_reducible refine Ext.setCell ?_ ?_ _); rotate_left; (first | exact Nat.le_refl _ | ((try dsimp only); (try simp only [World.size_alloc, grow_size, World.size_setCell]); omega)))))⟩
                  case measure => simp [intOf]
                · obtain rfl : y = 2 := by have := hyk.out; omega
                  clear hyk
                  go_wp2
                  go_roundw
                  case rel => exact ⟨3, 3, by omega, hid (by omega), rfl, (by repeat (first | (with_reducible exact Ext.refl _) | (with_reducible refine Ext.undrew ?_) | (with_reducible refine Ext.grow ?_ _) | (with_reducible refine Ext.drew ?_) | (with_reducible refine Ext.drewN ?_ _) | (with_reducible refine Ext.alloc ?_ _) | (with_reducible assumption) | ((with_reducible refine Ext.setCell ?_ ?_ _); rotate_left; (first | exact Nat.le_refl _ | ((try dsimp only); (try simp only [World.size_alloc, grow_size, World.size_setCell]); omega)))))⟩
                  case measure => simp [intOf]
                · obtain rfl : y = 3 := by have := hyk.out; omega
                  clear hyk
                  go_wp2
                  go_roundw
                  case rel => exact ⟨4, 4, by omega, hid (by omega), rfl, (by repeat (first | (with_reducible exact Ext.refl _) | (with_reducible refine Ext.undrew ?_) | (with_reducible refine Ext.grow ?_ _) | (with_reducible refine Ext.drew ?_) | (with_reducible refine Ext.drewN ?_ _) | (with_reducible refine Ext.alloc ?_ _) | (with_reducible assumption) | ((with_reducible refine Ext.setCell ?_ ?_ _); rotate_left; (first | exact Nat.le_refl _ | ((try dsimp only); (try simp only [World.size_alloc, grow_size, World.size_setCell]); omega)))))⟩
                  case measure => simp [intOf]
                · obtain rfl : y = 4 := by have := hyk.out; omega
                  clear hyk
                  go_wp2
                  go_roundw
                  case rel => exact ⟨5, 5, by omega, hid (by omega), rfl, (by repeat (first | (with_reducible exact Ext.refl _) | (with_reducible refine Ext.undrew ?_) | (with_reducible refine Ext.grow ?_ _) | (with_reducible refine Ext.drew ?_) | (with_reducible refine Ext.drewN ?_ _) | (with_reducible refine Ext.alloc ?_ _) | (with_reducible assumption) | ((with_reducible refine Ext.setCell ?_ ?_ _); rotate_left; (first | exact Nat.le_refl _ | ((try dsimp only); (try simp only [World.size_alloc, grow_size, World.size_setCell]); omega)))))⟩
                  case measure => simp [intOf]
                · obtain rfl : y = 5 := by have := hyk.out; omega
                  clear hyk
                  go_wp2
                  go_roundw
                  case rel => exact ⟨6, 6, by omega, hid (by omega), rfl, (by repeat (first | (with_reducible exact Ext.refl _) | (with_reducible refine Ext.undrew ?_) | (with_reducible refine Ext.grow ?_ _) | (with_reducible refine Ext.drew ?_) | (with_reducible refine Ext.drewN ?_ _) | (with_reducible refine Ext.alloc ?_ _) | (with_reducible assumption) | ((with_reducible refine Ext.setCell ?_ ?_ _); rotate_left; (first | exact Nat.le_refl _ | ((try dsimp only); (try simp only [World.size_alloc, grow_size, World.size_setCell]); omega)))))⟩
                  case measure => simp [intOf]
                · obtain rfl : y = 6 := by have := hyk.out; omega
                  clear hyk
                  go_wp2
                  go_roundw
                  case rel => exact ⟨7, 7, by omega, hid (by omega), rfl, (by repeat (first | (with_reducible exact Ext.refl _) | (with_reducible refine Ext.undrew ?_) | (with_reducible refine Ext.grow ?_ _) | (with_reducible refine Ext.drew ?_) | (with_reducible refine Ext.drewN ?_ _) | (with_reducible refine Ext.alloc ?_ _) | (with_reducible assumption) | ((with_reducible refine Ext.setCell ?_ ?_ _); rotate_left; (first | exact Nat.le_refl _ | ((try dsimp only); (try simp only [World.size_alloc, grow_size, World.size_setCell]); omega)))))⟩
                  case measure => simp [intOf]
                · obtain rfl : y = 7 := by have := hyk.out; omega
                  clear hyk
                  go_wp2
                  go_roundw
                  case rel => exact ⟨8, 8, by omega, hid (by omega), rfl, (by repeat (first | (with_reducible exact Ext.refl _) | (with_reducible refine Ext.undrew ?_) | (with_reducible refine Ext.grow ?_ _) | (with_reducible refine Ext.drew ?_) | (with_reducible refine Ext.drewN ?_ _) | (with_reducible refine Ext.alloc ?_ _) | (with_reducible assumption) | ((with_reducible refine Ext.setCell ?_ ?_ _); rotate_left; (first | exact Nat.le_refl _ | ((try dsimp only); (try simp only [World.size_alloc, grow_size, World.size_setCell]); omega)))))⟩
                  case measure => simp [intOf]
                · obtain rfl : y = 8 := by have := hyk.out; omega
                  clear hyk
                  go_wp2
                  go_roundw
                  case rel => exact ⟨9, 9, by omega, hid (by omega), rfl, (by repeat (first | (with_reducible exact Ext.refl _) | (with_reducible refine Ext.undrew ?_) | (with_reducible refine Ext.grow ?_ _) | (with_reducible refine Ext.drew ?_) | (with_reducible refine Ext.drewN ?_ _) | (with_reducible refine Ext.alloc ?_ _) | (with_reducible assumption) | ((with_reducible refine Ext.setCell ?_ ?_ _); rotate_left; (first | exact Nat.le_refl _ | ((try dsimp only); (try simp only [World.size_alloc, grow_size, World.size_setCell]); omega)))))⟩
                  case measure => simp [intOf]
                · obtain rfl : y = 9 := by have := hyk.out; omega
                  clear hyk
                  go_wp2
                  go_roundw
                  case rel => exact ⟨10, 10, by omega, hid (by omega), rfl, (by repeat (first | (with_reducible exact Ext.refl _) | (with_reducible refine Ext.undrew ?_) | (with_reducible refine Ext.grow ?_ _) | (with_reducible refine Ext.drew ?_) | (with_reducible refine Ext.drewN ?_ _) | (with_reducible refine Ext.alloc ?_ _) | (with_reducible assumption) | ((with_reducible refine Ext.setCell ?_ ?_ _); rotate_left; (first | exact Nat.le_refl _ | ((try dsimp only); (try simp only [World.size_alloc, grow_size, World.size_setCell]); omega)))))⟩
                  case measure => simp [intOf]
                · obtain rfl : y = 10 := by have := hyk.out; omega
                  clear hyk
                  go_wp2
                  go_roundw
                  case rel => exact ⟨11, 11, by omega, hid (by omega), rfl, (by repeat (first | (with_reducible exact Ext.refl _) | (with_reducible refine Ext.undrew ?_) | (with_reducible refine Ext.grow ?_ _) | (with_reducible refine Ext.drew ?_) | (with_reducible refine Ext.drewN ?_ _) | (with_reducible refine Ext.alloc ?_ _) | (with_reducible assumption) | ((with_reducible refine Ext.setCell ?_ ?_ _); rotate_left; (first | exact Nat.le_refl _ | ((try dsimp only); (try simp only [World.size_alloc, grow_size, World.size_setCell]); omega)))))⟩
                  case measure => simp [intOf]
                · obtain rfl : y = 11 := by have := hyk.out; omega
                  clear hyk
                  go_wp2
                  go_roundw
                  case rel => exact ⟨12, 12, by omega, hid (by omega), rfl, (by repeat (first | (with_reducible exact Ext.refl _) | (with_reducible refine Ext.undrew ?_) | (with_reducible refine Ext.grow ?_ _) | (with_reducible refine Ext.drew ?_) | (with_reducible refine Ext.drewN ?_ _) | (with_reducible refine Ext.alloc ?_ _) | (with_reducible assumption) | ((with_reducible refine Ext.setCell ?_ ?_ _); rotate_left; (first | exact Nat.le_refl _ | ((try dsimp only); (try simp only [World.size_alloc, grow_size, World.size_setCell]); omega)))))⟩
                  case measure => simp [intOf]
                · obtain rfl : y = 12 := by have := hyk.out; omega
                  clear hyk
                  go_wp2
                  go_roundw
                  case rel => exact ⟨13, 13, by omega, hid (by omega), rfl, (by repeat (first | (with_reducible exact Ext.refl _) | (with_reducible refine Ext.undrew ?_) | (with_reducible refine Ext.grow ?_ _) | (with_reducible refine Ext.drew ?_) | (with_reducible refine Ext.drewN ?_ _) | (with_reducible refine Ext.alloc ?_ _) | (with_reducible assumption) | ((with_reducible refine Ext.setCell ?_ ?_ _); rotate_left; (first | exact Nat.le_refl _ | ((try dsimp only); (try simp only [World.size_alloc, grow_size, World.size_setCell]); omega)))))⟩
                  case measure => simp [intOf]
                · obtain rfl : y = 13 := by have := hyk.out; omega
                  clear hyk
                  go_wp2
                  go_roundw
                  case rel => exact ⟨14, 14, by omega, hid (by omega), rfl, (by repeat (first | (with_reducible exact Ext.refl _) | (with_reducible refine Ext.undrew ?_) | (with_reducible refine Ext.grow ?_ _) | (with_reducible refine Ext.drew ?_) | (with_reducible refine Ext.drewN ?_ _) | (with_reducible refine Ext.alloc ?_ _) | (with_reducible assumption) | ((with_reducible refine Ext.setCell ?_ ?_ _); rotate_left; (first | exact Nat.le_refl _ | ((try dsimp only); (try simp only [World.size_alloc, grow_size, World.size_setCell]); omega)))))⟩
                  case measure => simp [intOf]
                · obtain rfl : y = 14 := by have := hyk.out; omega
                  clear hyk
                  go_wp2
                  go_roundw
                  case rel => exact ⟨15, 15, by omega, hid (by omega), rfl, (by repeat (first | (with_reducible exact Ext.refl _) | (with_reducible refine Ext.undrew ?_) | (with_reducible refine Ext.grow ?_ _) | (with_reducible refine Ext.drew ?_) | (with_reducible refine Ext.drewN ?_ _) | (with_reducible refine Ext.alloc ?_ _) | (with_reducible assumption) | ((with_reducible refine Ext.setCell ?_ ?_ _); rotate_left; (first | exact Nat.le_refl _ | ((try dsimp only); (try simp only [World.size_alloc, grow_size, World.size_setCell]); omega)))))⟩
                  case measure => simp [intOf]
                · obtain rfl : y = 15 := by have := hyk.out; omega
                  clear hyk
                  go_wp2
                  go_roundw
                  case rel => exact ⟨16, 16, by omega, hid (by omega), rfl, (by repeat (first | (with_reducible exact Ext.refl _) | (with_reducible refine Ext.undrew ?_) | (with_reducible refine Ext.grow ?_ _) | (with_reducible refine Ext.drew ?_) | (with_reducible refine Ext.drewN ?_ _) | (with_reducible refine Ext.alloc ?_ _) | (with_reducible assumption) | ((with_reducible refine Ext.setCell ?_ ?_ _); rotate_left; (first | exact Nat.le_refl _ | ((try dsimp only); (try simp only [World.size_alloc, grow_size, World.size_setCell]); omega)))))⟩
                  case measure => simp [intOf]
              · have hk' : k = 16 := by omega
                subst hk'
                obtain rfl : y = 16 := by have := hyk.out; omega
                clear hyk hlt hk
                go_wp2
                go_ret
                exact ⟨rfl, Ext.trans hwW hx⟩
          | true =>
            obtain ⟨rfl, rfl, rfl, h13⟩ := HG3.out rfl
            have hx13 : x13 % 128 = x13 := by omega
            clear HG3 h13
            go_wp2
            go_loopw [14] (fun z wr => ∃ (k : Nat) (y : Int), k ≤ 16 ∧ Hid (y = (k : Int)) ∧ z = .int .i64 y ∧ Ext W wr) (fun z _ => 16 - (intOf z).toNat)
            case atStart => exact ⟨0, 0, by omega, hid (by omega), rfl, Ext.refl _⟩
            case round =>
              obtain ⟨k, y, hk, hyk, rfl, hx⟩ := hrel
              have hsz := hx.size
              have hq1r : q < wr.heap.size := by omega
              have hq2r : q2 < wr.heap.size := by omega
              have htr : tx < wr.heap.size := by omega
              have c0 := (hx.cells q 0 hq1W).trans k0
              have g0 := (hx.cells q2 0 hq2W).trans e0
              have c1 := (hx.cells q 1 hq1W).trans k1
              have g1 := (hx.cells q2 1 hq2W).trans e1
              have c2 := (hx.cells q 2 hq1W).trans k2
              have g2 := (hx.cells q2 2 hq2W).trans e2
              have c3 := (hx.cells q 3 hq1W).trans k3
              have g3 := (hx.cells q2 3 hq2W).trans e3
              have c4 := (hx.cells q 4 hq1W).trans k4
              have g4 := (hx.cells q2 4 hq2W).trans e4
              have c5 := (hx.cells q 5 hq1W).trans k5
              have g5 := (hx.cells q2 5 hq2W).trans e5
              have c6 := (hx.cells q 6 hq1W).trans k6
              have g6 := (hx.cells q2 6 hq2W).trans e6
              have c7 := (hx.cells q 7 hq1W).trans k7
              have g7 := (hx.cells q2 7 hq2W).trans e7
              have c8 := (hx.cells q 8 hq1W).trans k8
              have g8 := (hx.cells q2 8 hq2W).trans e8
              have c9 := (hx.cells q 9 hq1W).trans k9
              have g9 := (hx.cells q2 9 hq2W).trans e9
              have c10 := (hx.cells q 10 hq1W).trans k10
              have g10 := (hx.cells q2 10 hq2W).trans e10
              have c11 := (hx.cells q 11 hq1W).trans k11
              have g11 := (hx.cells q2 11 hq2W).trans e11
              have c12 := (hx.cells q 12 hq1W).trans k12
              have g12 := (hx.cells q2 12 hq2W).trans e12
              have c13 := (hx.cells q 13 hq1W).trans k13
              have g13 := (hx.cells q2 13 hq2W).trans e13
              have c14 := (hx.cells q 14 hq1W).trans k14
              have g14 := (hx.cells q2 14 hq2W).trans e14
              have c15 := (hx.cells q 15 hq1W).trans k15
              have g15 := (hx.cells q2 15 hq2W).trans e15
              have t0 := (hx.cells tx 0 htW).trans z0
              by_cases hlt : k < 16
              · have hk16 : k = 0 ∨ k = 1 ∨ k = 2 ∨ k = 3 ∨ k = 4 ∨ k = 5 ∨ k = 6 ∨ k = 7 ∨ k = 8 ∨ k = 9 ∨ k = 10 ∨ k = 11 ∨ k = 12 ∨ k = 13 ∨ k = 14 ∨ k = 15 := by omega
                rcases hk16 with rfl | rfl | rfl | rfl | rfl | rfl | rfl | rfl | rfl | rfl | rfl | rfl | rfl | rfl | rfl | rfl
                · obtain rfl : y = 0 := by have := hyk.out; omega
                  clear hyk
                  go_wp2
                  go_roundw
                  case rel => exact ⟨1, 1, by omega, hid (by omega), rfl, (by repeat (first | (with_reducible exact Ext.refl _) | (with_reducible refine Ext.undrew ?_) | (with_reducible refine Ext.grow ?_ _) | (with_reducible refine Ext.drew ?_) | (with_reducible refine Ext.drewN ?_ _) | (with_reducible refine Ext.alloc ?_ _) | (with_reducible assumption) | ((with_reducible refine Ext.setCell ?_ ?_ _); rotate_left; (first | exact Nat.le_refl _ | ((try dsimp only); (try simp only [World.size_alloc, grow_size, World.size_setCell]); omega)))))⟩
                  case measure => simp [intOf]
                · obtain rfl : y = 1 := by have := hyk.out; omega
                  clear hyk
                  go_wp2
                  go_roundw
                  case rel => exact ⟨2, 2, by omega, hid (by omega), rfl, (by repeat (first | (with_reducible exact Ext.refl _) | (with_reducible refine Ext.undrew ?_) | (with_reducible refine Ext.grow ?_ _) | (with_reducible refine Ext.drew ?_) | (with_reducible refine Ext.drewN ?_ _) | (with_reducible refine Ext.alloc ?_ _) | (with_reducible assumption) | ((with_reducible refine Ext.setCell ?_ ?_ _); rotate_left; (first | exact Nat.le_refl _ | ((try dsimp only); (try simp only [World.size_alloc, grow_size, World.size_setCell]); omega)))))⟩
                  case measure => simp [intOf]
                · obtain rfl : y = 2 := by have := hyk.out; omega
                  clear hyk
                  go_wp2
                  go_roundw
                  case rel => exact ⟨3, 3, by omega, hid (by omega), rfl, (by repeat (first | (with_reducible exact Ext.refl _) | (with_reducible refine Ext.undrew ?_) | (with_reducible refine Ext.grow ?_ _) | (with_reducible refine Ext.drew ?_) | (with_reducible refine Ext.drewN ?_ _) | (with_reducible refine Ext.alloc ?_ _) | (with_reducible assumption) | ((with_reducible refine Ext.setCell ?_ ?_ _); rotate_left; (first | exact Nat.le_refl _ | ((try dsimp only); (try simp only [World.size_alloc, grow_size, World.size_setCell]); omega)))))⟩
                  case measure => simp [intOf]
                · obtain rfl : y = 3 := by have := hyk.out; omega
                  clear hyk
                  go_wp2
                  go_roundw
                  case rel => exact ⟨4, 4, by omega, hid (by omega), rfl, (by repeat (first | (with_reducible exact Ext.refl _) | (with_reducible refine Ext.undrew ?_) | (with_reducible refine Ext.grow ?_ _) | (with_reducible refine Ext.drew ?_) | (with_reducible refine Ext.drewN ?_ _) | (with_reducible refine Ext.alloc ?_ _) | (with_reducible assumption) | ((with_reducible refine Ext.setCell ?_ ?_ _); rotate_left; (first | exact Nat.le_refl _ | ((try dsimp only); (try simp only [World.size_alloc, grow_size, World.size_setCell]); omega)))))⟩
                  case measure => simp [intOf]
                · obtain rfl : y = 4 := by have := hyk.out; omega
                  clear hyk
                  go_wp2
                  go_roundw
                  case rel => exact ⟨5, 5, by omega, hid (by omega), rfl, (by repeat (first | (with_reducible exact Ext.refl _) | (with_reducible refine Ext.undrew ?_) | (with_reducible refine Ext.grow ?_ _) | (with_reducible refine Ext.drew ?_) | (with_reducible refine Ext.drewN ?_ _) | (with_reducible refine Ext.alloc ?_ _) | (with_reducible assumption) | ((with_reducible refine Ext.setCell ?_ ?_ _); rotate_left; (first | exact Nat.le_refl _ | ((try dsimp only); (try simp only [World.size_alloc, grow_size, World.size_setCell]); omega)))))⟩
                  case measure => simp [intOf]
                · obtain rfl : y = 5 := by have := hyk.out; omega
                  clear hyk
                  go_wp2
                  go_roundw
                  case rel => exact ⟨6, 6, by omega, hid (by omega), rfl, (by repeat (first | (with_reducible exact Ext.refl _) | (with_reducible refine Ext.undrew ?_) | (with_reducible refine Ext.grow ?_ _) | (with_reducible refine Ext.drew ?_) | (with_reducible refine Ext.drewN ?_ _) | (with_reducible refine Ext.alloc ?_ _) | (with_reducible assumption) | ((with_reducible refine Ext.setCell ?_ ?_ _); rotate_left; (first | exact Nat.le_refl _ | ((try dsimp only); (try simp only [World.size_alloc, grow_size, World.size_setCell]); omega)))))⟩
                  case measure => simp [intOf]
                · obtain rfl : y = 6 := by have := hyk.out; omega
                  clear hyk
                  go_wp2
                  go_roundw
                  case rel => exact ⟨7, 7, by omega, hid (by omega), rfl, (by repeat (first | (with_reducible exact Ext.refl _) | (with_reducible refine Ext.undrew ?_) | (with_reducible refine Ext.grow ?_ _) | (with_reducible refine Ext.drew ?_) | (with_reducible refine Ext.drewN ?_ _) | (with_reducible refine Ext.alloc ?_ _) | (with_reducible assumption) | ((with_reducible refine Ext.setCell ?_ ?_ _); rotate_left; (first | exact Nat.le_refl _ | ((try dsimp only); (try simp only [World.size_alloc, grow_size, World.size_setCell]); omega)))))⟩
                  case measure => simp [intOf]
                · obtain rfl : y = 7 := by have := hyk.out; omega
                  clear hyk
                  go_wp2
                  go_roundw
                  case rel => exact ⟨8, 8, by omega, hid (by omega), rfl, (by repeat (first | (with_reducible exact Ext.refl _) | (with_reducible refine Ext.undrew ?_) | (with_reducible refine Ext.grow ?_ _) | (with_reducible refine Ext.drew ?_) | (with_reducible refine Ext.drewN ?_ _) | (with_reducible refine Ext.alloc ?_ _) | (with_reducible assumption) | ((with_reducible refine Ext.setCell ?_ ?_ _); rotate_left; (first | exact Nat.le_refl _ | ((try dsimp only); (try simp only [World.size_alloc, grow_size, World.size_setCell]); omega)))))⟩
                  case measure => simp [intOf]
                · obtain rfl : y = 8 := by have := hyk.out; omega
                  clear hyk
                  go_wp2
                  go_roundw
                  case rel => exact ⟨9, 9, by omega, hid (by omega), rfl, (by repeat (first | (with_reducible exact Ext.refl _) | (with_reducible refine Ext.undrew ?_) | (with_reducible refine Ext.grow ?_ _) | (with_reducible refine Ext.drew ?_) | (with_reducible refine Ext.drewN ?_ _) | (with_reducible refine Ext.alloc ?_ _) | (with_reducible assumption) | ((with_reducible refine Ext.setCell ?_ ?_ _); rotate_left; (first | exact Nat.le_refl _ | ((try dsimp only); (try simp only [World.size_alloc, grow_size, World.size_setCell]); omega)))))⟩
                  case measure => simp [intOf]
                · obtain rfl : y = 9 := by have := hyk.out; omega
                  clear hyk
                  go_wp2
                  go_roundw
                  case rel => exact ⟨10, 10, by omega, hid (by omega), rfl, (by repeat (first | (with_reducible exact Ext.refl _) | (with_reducible refine Ext.undrew ?_) | (with_reducible refine Ext.grow ?_ _) | (with_reducible refine Ext.drew ?_) | (with_reducible refine Ext.drewN ?_ _) | (with_reducible refine Ext.alloc ?_ _) | (with_reducible assumption) | ((with_reducible refine Ext.setCell ?_ ?_ _); rotate_left; (first | exact Nat.le_refl _ | ((try dsimp only); (try simp only [World.size_alloc, grow_size, World.size_setCell]); omega)))))⟩
                  case measure => simp [intOf]
                · obtain rfl : y = 10 := by have := hyk.out; omega
                  clear hyk
                  go_wp2
                  go_roundw
                  case rel => exact ⟨11, 11, by omega, hid (by omega), rfl, (by repeat (first | (with_reducible exact Ext.refl _) | (with_reducible refine Ext.undrew ?_) | (with_reducible refine Ext.grow ?_ _) | (with_reducible refine Ext.drew ?_) | (with_reducible refine Ext.drewN ?_ _) | (with_reducible refine Ext.alloc ?_ _) | (with_reducible assumption) | ((with_reducible refine Ext.setCell ?_ ?_ _); rotate_left; (first | exact Nat.le_refl _ | ((try dsimp only); (try simp only [World.size_alloc, grow_size, World.size_setCell]); omega)))))⟩
                  case measure => simp [intOf]
                · obtain rfl : y = 11 := by have := hyk.out; omega
                  clear hyk
                  go_wp2
                  go_roundw
                  case rel => exact ⟨12, 12, by omega, hid (by omega), rfl, (by repeat (first | (with_reducible exact Ext.refl _) | (with_reducible refine Ext.undrew ?_) | (with_reducible refine Ext.grow ?_ _) | (with_reducible refine Ext.drew ?_) | (with_reducible refine Ext.drewN ?_ _) | (with_reducible refine Ext.alloc ?_ _) | (with_reducible assumption) | ((with_reducible refine Ext.setCell ?_ ?_ _); rotate_left; (first | exact Nat.le_refl _ | ((try dsimp only); (try simp only [World.size_alloc, grow_size, World.size_setCell]); omega)))))⟩
                  case measure => simp [intOf]
                · obtain rfl : y = 12 := by have := hyk.out; omega
                  clear hyk
                  go_wp2
                  go_roundw
                  case rel => exact ⟨13, 13, by omega, hid (by omega), rfl, (by repeat (first | (with_reducible exact Ext.refl _) | (with_reducible refine Ext.undrew ?_) | (with_reducible refine Ext.grow ?_ _) | (with_reducible refine Ext.drew ?_) | (with_reducible refine Ext.drewN ?_ _) | (with_reducible refine Ext.alloc ?_ _) | (with_reducible assumption) | ((with_reducible refine Ext.setCell ?_ ?_ _); rotate_left; (first | exact Nat.le_refl _ | ((try dsimp only); (try simp only [World.size_alloc, grow_size, World.size_setCell]); omega)))))⟩
                  case measure => simp [intOf]
                · obtain rfl : y = 13 := by have := hyk.out; omega
                  clear hyk
                  go_wp2
                  go_roundw
                  case rel => exact ⟨14, 14, by omega, hid (by omega), rfl, (by repeat (first | (with_reducible exact Ext.refl _) | (with_reducible refine Ext.undrew ?_) | (with_reducible refine Ext.grow ?_ _) | (with_reducible refine Ext.drew ?_) | (with_reducible refine Ext.drewN ?_ _) | (with_reducible refine Ext.alloc ?_ _) | (with_reducible assumption) | ((with_reducible refine Ext.setCell ?_ ?_ _); rotate_left; (first | exact Nat.le_refl _ | ((try dsimp only); (try simp only [World.size_alloc, grow_size, World.size_setCell]); omega)))))⟩
                  case measure => simp [intOf]
                · obtain rfl : y = 14 := by have := hyk.out; omega
                  clear hyk
                  go_wp2
                  go_roundw
                  case rel => exact ⟨15, 15, by omega, hid (by omega), rfl, (by repeat (first | (with_reducible exact Ext.refl _) | (with_reducible refine Ext.undrew ?_) | (with_reducible refine Ext.grow ?_ _) | (with_reducible refine Ext.drew ?_) | (with_reducible refine Ext.drewN ?_ _) | (with_reducible refine Ext.alloc ?_ _) | (with_reducible assumption) | ((with_reducible refine Ext.setCell ?_ ?_ _); rotate_left; (first | exact Nat.le_refl _ | ((try dsimp only); (try simp only [World.size_alloc, grow_size, World.size_setCell]); omega)))))⟩
                  case measure => simp [intOf]
                · obtain rfl : y = 15 := by have := hyk.out; omega
                  clear hyk
                  go_wp2
                  go_roundw
                  case rel => exact ⟨16, 16, by omega, hid (by omega), rfl, (by repeat (first | (with_reducible exact Ext.refl _) | (with_reducible refine Ext.undrew ?_) | (with_reducible refine Ext.grow ?_ _) | (with_reducible refine Ext.drew ?_) | (with_reducible refine Ext.drewN ?_ _) | (with_reducible refine Ext.alloc ?_ _) | (with_reducible assumption) | ((with_reducible refine Ext.setCell ?_ ?_ _); rotate_left; (first | exact Nat.le_refl _ | ((try dsimp only); (try simp only [World.size_alloc, grow_size, World.size_setCell]); omega)))))⟩
                  case measure => simp [intOf]
              · have hk' : k = 16 := by omega
                subst hk'
                obtain rfl : y = 16 := by have := hyk.out; omega
                clear hyk hlt hk
                go_wp2
                go_ret
                exact ⟨rfl, Ext.trans hwW hx⟩
end encBytes

end Go.Proofs.Ytmlginnnhlmoeaa
