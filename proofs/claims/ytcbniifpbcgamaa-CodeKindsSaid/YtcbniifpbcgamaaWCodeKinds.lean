/- The walk of the law CodeKinds. -/
import Derived.Test.YtcbniifpbcgamaaHead15
import Derived.Test.YtcbniifpbcgamaaCodM
namespace Go.Proofs.Ytcbniifpbcgamaa
set_option linter.unusedSimpArgs false
set_option linter.unusedVariables false
open Go.RowKit

theorem kd_pos : ∀ i : Fin 30, ¬ kd (i.val : Int) = 0 := by decide
theorem kd_ne {op : Int} (h0 : 0 ≤ op) (h1 : op ≤ 29) : ¬ kd op = 0 := by
  have := kd_pos ⟨op.toNat, by omega⟩
  rwa [show ((⟨op.toNat, by omega⟩ : Fin 30).val : Int) = op by simp; omega] at this
theorem kstr_3 {op : Int} (h : ¬ kd op = 0) : (kstr (kd op)).size = 3 := by
  have := kstr_size ⟨kd op, kd_lt op⟩
  simp only [h] at this
  exact this
theorem kstr_w1 {op : Int} (h : ¬ kd op = 0) : (chAt (kstr (kd op)) 1 = 119) = (kd op = 2 ∨ kd op = 5) := by
  rcases kd_cases op with hk | hk | hk | hk | hk | hk | hk | hk
  · exact absurd hk h
  · rw [hk, show chAt (kstr 1) 1 = 45 from by decide]; simp
  · rw [hk, show chAt (kstr 2) 1 = 119 from by decide]; simp
  · rw [hk, show chAt (kstr 3) 1 = 114 from by decide]; simp
  · rw [hk, show chAt (kstr 4) 1 = 114 from by decide]; simp
  · rw [hk, show chAt (kstr 5) 1 = 119 from by decide]; simp
  · rw [hk, show chAt (kstr 6) 1 = 114 from by decide]; simp
  · rw [hk, show chAt (kstr 7) 1 = 45 from by decide]; simp
theorem wfu32 {n : Int} (h : (Lit.int .u32 n).wf = true) : 0 ≤ n ∧ n ≤ 4294967295 := by
  simpa [Lit.wf, IntKind.min, IntKind.max, IntKind.signed, IntKind.bits] using h
theorem wfu8 {n : Int} (h : (Lit.int .u8 n).wf = true) : 0 ≤ n ∧ n ≤ 255 := by
  simpa [Lit.wf, IntKind.min, IntKind.max, IntKind.signed, IntKind.bits] using h
theorem wfi16 {n : Int} (h : (Lit.int .i16 n).wf = true) : -32768 ≤ n ∧ n ≤ 32767 := by
  simpa [Lit.wf, IntKind.min, IntKind.max, IntKind.signed, IntKind.bits] using h
theorem wfi32 {n : Int} (h : (Lit.int .i32 n).wf = true) : -2147483648 ≤ n ∧ n ≤ 2147483647 := by
  simpa [Lit.wf, IntKind.min, IntKind.max, IntKind.signed, IntKind.bits] using h
theorem all_succ (s : ByteArray) (v : Nat → Int) (i : Nat) : (List.range (i + 1)).all (okAt s v) = ((List.range i).all (okAt s v) && okAt s v i) := by
  rw [List.range_succ, List.all_append]
  simp
namespace codeKinds
set_option maxRecDepth 100000 in
set_option maxHeartbeats 16000000 in
theorem walk (a0 : Int) (a1 : Int) (a2 : Int) (a3 : Int) (w : World) (w0 : (Lit.int .u8 a0).wf = true) (w1 : (Lit.int .i16 a1).wf = true) (w2 : (Lit.int .i32 a2).wf = true) (w3 : (Lit.int .i16 a3).wf = true) :
    Calls Try.prog 7 #[.int .u8 a0, .int .i16 a1, .int .i32 a2, .int .i16 a3] w fun e w' => e = .returned (.bool true) ∧ Ext w w' := by
  obtain ⟨a0l, a0u⟩ := wfu8 w0
  obtain ⟨a1l, a1u⟩ := wfi16 w1
  obtain ⟨a2l, a2u⟩ := wfi32 w2
  obtain ⟨a3l, a3u⟩ := wfi16 w3
  clear w0 w1 w2 w3
  obtain ⟨o32, ho32⟩ : ∃ x, a0 % 32 = x := ⟨_, rfl⟩
  have o0 : 0 ≤ o32 := by omega
  have o1 : o32 ≤ 31 := by omega
  have hR := rightS_kstr o32 a1 a2 a3
  have hK := fun w => kinds_ o32 w
  by_cases hk : kd o32 = 0
  · have hgt : 29 < o32 := by
      rcases Int.lt_or_le 29 o32 with h | h
      · exact h
      · exact absurd hk (kd_ne o0 h)
    have hs : (kstr (kd o32)).size = 0 := by rw [hk]; rfl
    have HR := hid (show rightI o32 a1 a2 a3 = false from by unfold rightI; rw [hk]; rfl)
    generalize kstr (kd o32) = s at hs hK
    have HK := hid hK
    clear hK hk hR
    go_enter Try.func7, Try.ntmps7
    go_wp2_with (first | (go_at_call 10; refine Calls.mono (head _) ?_; rintro e wh ⟨rfl, hxh⟩; obtain ⟨dh, rfl⟩ := hxh.grown; clear hxh) | (go_at_call 15; with_reducible refine Calls.mono (HK.out _) ?_; rintro e w' ⟨rfl, hy⟩; obtain ⟨dx, rfl⟩ := hy.grown; clear hy) | (go_at_call 17; with_reducible refine Calls.mono (right_ o32 a1 a2 a3 _) ?_; rw [HR.out]; rintro e w' ⟨rfl, hy⟩; obtain ⟨dx, rfl⟩ := hy.grown; clear hy))
    go_ret
    exact ⟨rfl, (by repeat (first | (with_reducible exact Ext.refl _) | (with_reducible refine Ext.undrew ?_) | (with_reducible refine Ext.grow ?_ _) | (with_reducible refine Ext.drew ?_) | (with_reducible refine Ext.drewN ?_ _) | (with_reducible refine Ext.alloc ?_ _) | (with_reducible assumption) | ((with_reducible refine Ext.setCell ?_ ?_ _); rotate_left; (first | exact Nat.le_refl _ | ((try dsimp only); (try simp only [World.size_alloc, grow_size, World.size_setCell]); omega)))))⟩
  · have hs := kstr_3 hk
    have hi : ∀ k : Nat, k < 3 → ∀ w, (Instr.index 9 (.string (kstr (kd o32))) (.int .i64 (k : Int))).run Try.prog w = .ok (.int .u8 (chAt (kstr (kd o32)) k)) w := fun k hk => index_str _ k (by omega)
    have hbb : ∀ k, k < 3 → -2147483648 ≤ (v3 a1 a2 a3) k ∧ (v3 a1 a2 a3) k ≤ 2147483647 := fun k hk => by
      match k, hk with
      | 0, _ => exact ⟨by show -2147483648 ≤ a1; omega, by show a1 ≤ 2147483647; omega⟩
      | 1, _ => exact ⟨a2l, a2u⟩
      | 2, _ => exact ⟨by show -2147483648 ≤ a3; omega, by show a3 ≤ 2147483647; omega⟩
    have hRa : rightI o32 a1 a2 a3 = (List.range 3).all (okAt (kstr (kd o32)) (v3 a1 a2 a3)) := by
      rw [← hR]
      unfold rightS
      rw [hs]
      simp
    generalize kstr (kd o32) = s at hs hK hi hRa
    have HK := hid hK
    have HI := hid hi
    have HBB := hid hbb
    have HRA := hid hRa
    clear hK hk hR hi hbb hRa
    go_enter Try.func7, Try.ntmps7
    go_wp2_with (first | (go_at_call 10; refine Calls.mono (head _) ?_; rintro e wh ⟨rfl, hxh⟩; obtain ⟨dh, rfl⟩ := hxh.grown; clear hxh) | (go_at_call 15; with_reducible refine Calls.mono (HK.out _) ?_; rintro e w' ⟨rfl, hy⟩; obtain ⟨dx, rfl⟩ := hy.grown; clear hy))
    have f1 : Hid (Ext w ((Go.Proofs.Ytcbniifpbcgamaa.grow ((Go.Proofs.Ytcbniifpbcgamaa.grow w dh).alloc (.cells #[.int .i64 o32, .int .i64 a1, .int .i64 a2, .int .i64 a3] 23)) dx).alloc (.cells #[.int .i64 a1, .int .i64 a2, .int .i64 a3] 3))) := hid (by repeat (first | (with_reducible exact Ext.refl _) | (with_reducible refine Ext.undrew ?_) | (with_reducible refine Ext.grow ?_ _) | (with_reducible refine Ext.drew ?_) | (with_reducible refine Ext.drewN ?_ _) | (with_reducible refine Ext.alloc ?_ _) | (with_reducible assumption) | ((with_reducible refine Ext.setCell ?_ ?_ _); rotate_left; (first | exact Nat.le_refl _ | ((try dsimp only); (try simp only [World.size_alloc, grow_size, World.size_setCell]); omega)))))
    have f2 : ((Go.Proofs.Ytcbniifpbcgamaa.grow ((Go.Proofs.Ytcbniifpbcgamaa.grow w dh).alloc (.cells #[.int .i64 o32, .int .i64 a1, .int .i64 a2, .int .i64 a3] 23)) dx).alloc (.cells #[.int .i64 a1, .int .i64 a2, .int .i64 a3] 3)).cell? ⟨w.heap.size + dh.n, 0, none⟩ = some (.int .i64 o32) ∧ ((Go.Proofs.Ytcbniifpbcgamaa.grow ((Go.Proofs.Ytcbniifpbcgamaa.grow w dh).alloc (.cells #[.int .i64 o32, .int .i64 a1, .int .i64 a2, .int .i64 a3] 23)) dx).alloc (.cells #[.int .i64 a1, .int .i64 a2, .int .i64 a3] 3)).cell? ⟨w.heap.size + dh.n, 1, none⟩ = some (.int .i64 a1) ∧ ((Go.Proofs.Ytcbniifpbcgamaa.grow ((Go.Proofs.Ytcbniifpbcgamaa.grow w dh).alloc (.cells #[.int .i64 o32, .int .i64 a1, .int .i64 a2, .int .i64 a3] 23)) dx).alloc (.cells #[.int .i64 a1, .int .i64 a2, .int .i64 a3] 3)).cell? ⟨w.heap.size + dh.n, 2, none⟩ = some (.int .i64 a2) ∧ ((Go.Proofs.Ytcbniifpbcgamaa.grow ((Go.Proofs.Ytcbniifpbcgamaa.grow w dh).alloc (.cells #[.int .i64 o32, .int .i64 a1, .int .i64 a2, .int .i64 a3] 23)) dx).alloc (.cells #[.int .i64 a1, .int .i64 a2, .int .i64 a3] 3)).cell? ⟨w.heap.size + dh.n, 3, none⟩ = some (.int .i64 a3) := by simp [go_sem]
    have f3 : ∀ k, k < 3 → ((Go.Proofs.Ytcbniifpbcgamaa.grow ((Go.Proofs.Ytcbniifpbcgamaa.grow w dh).alloc (.cells #[.int .i64 o32, .int .i64 a1, .int .i64 a2, .int .i64 a3] 23)) dx).alloc (.cells #[.int .i64 a1, .int .i64 a2, .int .i64 a3] 3)).cell? ⟨w.heap.size + dh.n + 1 + dx.n, k, none⟩ = some (.int .i64 ((v3 a1 a2 a3) k)) := fun k hk => by
      match k, hk with
      | 0, _ => simp [go_sem, v3]
      | 1, _ => simp [go_sem, v3]
      | 2, _ => simp [go_sem, v3]
    have f4 : w.heap.size + dh.n + 1 + dx.n < ((Go.Proofs.Ytcbniifpbcgamaa.grow ((Go.Proofs.Ytcbniifpbcgamaa.grow w dh).alloc (.cells #[.int .i64 o32, .int .i64 a1, .int .i64 a2, .int .i64 a3] 23)) dx).alloc (.cells #[.int .i64 a1, .int .i64 a2, .int .i64 a3] 3)).heap.size := by simp [grow_size]
    obtain ⟨nb, hnb⟩ : ∃ x, w.heap.size + dh.n + 1 + dx.n = x := ⟨_, rfl⟩
    obtain ⟨pb, hpb⟩ : ∃ x, w.heap.size + dh.n = x := ⟨_, rfl⟩
    rw [hnb] at f3 f4
    rw [hpb] at f2 hnb
    rw [hpb, hnb]
    generalize ((Go.Proofs.Ytcbniifpbcgamaa.grow ((Go.Proofs.Ytcbniifpbcgamaa.grow w dh).alloc (.cells #[.int .i64 o32, .int .i64 a1, .int .i64 a2, .int .i64 a3] 23)) dx).alloc (.cells #[.int .i64 a1, .int .i64 a2, .int .i64 a3] 3)) = W at f1 f2 f3 f4 ⊢
    have hpW : pb < W.heap.size := by omega
    have F3 := hid f3
    obtain ⟨q0, q1, q2, q3⟩ := f2
    clear f3 hpb hnb
    go_loopw [13, 14] (fun want i wr => ∃ k : Nat, k ≤ 3 ∧ i = .int .i64 k ∧ want = .bool ((List.range k).all (okAt s (v3 a1 a2 a3))) ∧ Ext W wr) (fun _ i _ => 3 - (intOf i).toNat)
    case atStart => exact ⟨0, by omega, rfl, rfl, Ext.refl _⟩
    case round =>
      obtain ⟨k, hk3, rfl, rfl, hx⟩ := hrel
      by_cases hlt : k < 3
      · have ik := HI.out k hlt
        have ck := (hx.cells nb k f4).trans (F3.out k hlt)
        obtain ⟨bl, bu⟩ := HBB.out k hlt
        have hsz := hx.size
        have hnr : nb < wr.heap.size := by omega
        have hk0 : (0 : Int) ≤ (k : Int) := by omega
        have hk1 : (k : Int) < 3 := by omega
        cases hB : (List.range k).all (okAt s (v3 a1 a2 a3)) with
        | true =>
          by_cases c114 : chAt s k = 114
          · skip
            have e114 : ((chAt s k : Int) == 114) = true := by simp; omega
            have hok : okAt s (v3 a1 a2 a3) k = hasV (0) 7 ((v3 a1 a2 a3) k) := by unfold okAt; rw [c114]; rfl
            clear c114
            by_cases g1 : (0) ≤ (v3 a1 a2 a3) k
            · by_cases g2 : (v3 a1 a2 a3) k ≤ 7
              · have HW1 := hid (show (List.range (k + 1)).all (okAt s (v3 a1 a2 a3)) = true from by rw [all_succ, hB, hok]; simp [hasV, g1, g2])
                clear hB hok
                go_wp2
                go_roundw
                case rel => exact ⟨k + 1, by omega, by go_num, by (rw [HW1.out]) <;> first | rfl | (simp; omega) | (simp; done), Ext.trans hx (Ext.refl _)⟩
                case measure => simp [intOf]; omega
              · have HW1 := hid (show (List.range (k + 1)).all (okAt s (v3 a1 a2 a3)) = false from by rw [all_succ, hB, hok]; simp [hasV, g1, g2])
                clear hB hok
                go_wp2
                go_roundw
                case rel => exact ⟨k + 1, by omega, by go_num, by (rw [HW1.out]) <;> first | rfl | (simp; omega) | (simp; done), Ext.trans hx (Ext.refl _)⟩
                case measure => simp [intOf]; omega
            · have HW1 := hid (show (List.range (k + 1)).all (okAt s (v3 a1 a2 a3)) = false from by rw [all_succ, hB, hok]; simp [hasV, g1])
              clear hB hok
              go_wp2
              go_roundw
              case rel => exact ⟨k + 1, by omega, by go_num, by (rw [HW1.out]) <;> first | rfl | (simp; omega) | (simp; done), Ext.trans hx (Ext.refl _)⟩
              case measure => simp [intOf]; omega
          · skip
            by_cases c105 : chAt s k = 105
            · skip
              have e114 : ((chAt s k : Int) == 114) = false := by simp; omega
              have e105 : ((chAt s k : Int) == 105) = true := by simp; omega
              have hok : okAt s (v3 a1 a2 a3) k = hasV (0) 255 ((v3 a1 a2 a3) k) := by unfold okAt; rw [c105]; rfl
              clear c105
              by_cases g1 : (0) ≤ (v3 a1 a2 a3) k
              · by_cases g2 : (v3 a1 a2 a3) k ≤ 255
                · have HW1 := hid (show (List.range (k + 1)).all (okAt s (v3 a1 a2 a3)) = true from by rw [all_succ, hB, hok]; simp [hasV, g1, g2])
                  clear hB hok
                  go_wp2
                  go_roundw
                  case rel => exact ⟨k + 1, by omega, by go_num, by (rw [HW1.out]) <;> first | rfl | (simp; omega) | (simp; done), Ext.trans hx (Ext.refl _)⟩
                  case measure => simp [intOf]; omega
                · have HW1 := hid (show (List.range (k + 1)).all (okAt s (v3 a1 a2 a3)) = false from by rw [all_succ, hB, hok]; simp [hasV, g1, g2])
                  clear hB hok
                  go_wp2
                  go_roundw
                  case rel => exact ⟨k + 1, by omega, by go_num, by (rw [HW1.out]) <;> first | rfl | (simp; omega) | (simp; done), Ext.trans hx (Ext.refl _)⟩
                  case measure => simp [intOf]; omega
              · have HW1 := hid (show (List.range (k + 1)).all (okAt s (v3 a1 a2 a3)) = false from by rw [all_succ, hB, hok]; simp [hasV, g1])
                clear hB hok
                go_wp2
                go_roundw
                case rel => exact ⟨k + 1, by omega, by go_num, by (rw [HW1.out]) <;> first | rfl | (simp; omega) | (simp; done), Ext.trans hx (Ext.refl _)⟩
                case measure => simp [intOf]; omega
            · skip
              by_cases c119 : chAt s k = 119
              · skip
                have e114 : ((chAt s k : Int) == 114) = false := by simp; omega
                have e105 : ((chAt s k : Int) == 105) = false := by simp; omega
                have e119 : ((chAt s k : Int) == 119) = true := by simp; omega
                have hok : okAt s (v3 a1 a2 a3) k = hasV (-32768) 32767 ((v3 a1 a2 a3) k) := by unfold okAt; rw [c119]; rfl
                clear c119
                by_cases g1 : (-32768) ≤ (v3 a1 a2 a3) k
                · by_cases g2 : (v3 a1 a2 a3) k ≤ 32767
                  · have HW1 := hid (show (List.range (k + 1)).all (okAt s (v3 a1 a2 a3)) = true from by rw [all_succ, hB, hok]; simp [hasV, g1, g2])
                    clear hB hok
                    go_wp2
                    go_roundw
                    case rel => exact ⟨k + 1, by omega, by go_num, by (rw [HW1.out]) <;> first | rfl | (simp; omega) | (simp; done), Ext.trans hx (Ext.refl _)⟩
                    case measure => simp [intOf]; omega
                  · have HW1 := hid (show (List.range (k + 1)).all (okAt s (v3 a1 a2 a3)) = false from by rw [all_succ, hB, hok]; simp [hasV, g1, g2])
                    clear hB hok
                    go_wp2
                    go_roundw
                    case rel => exact ⟨k + 1, by omega, by go_num, by (rw [HW1.out]) <;> first | rfl | (simp; omega) | (simp; done), Ext.trans hx (Ext.refl _)⟩
                    case measure => simp [intOf]; omega
                · have HW1 := hid (show (List.range (k + 1)).all (okAt s (v3 a1 a2 a3)) = false from by rw [all_succ, hB, hok]; simp [hasV, g1])
                  clear hB hok
                  go_wp2
                  go_roundw
                  case rel => exact ⟨k + 1, by omega, by go_num, by (rw [HW1.out]) <;> first | rfl | (simp; omega) | (simp; done), Ext.trans hx (Ext.refl _)⟩
                  case measure => simp [intOf]; omega
              · skip
                have e114 : ((chAt s k : Int) == 114) = false := by simp; omega
                have e105 : ((chAt s k : Int) == 105) = false := by simp; omega
                have e119 : ((chAt s k : Int) == 119) = false := by simp; omega
                have hok : okAt s (v3 a1 a2 a3) k = hasV 0 0 ((v3 a1 a2 a3) k) := by unfold okAt; rw [show loOf (chAt s k) = 0 from by unfold loOf; simp [c114, c105, c119], show hiOf (chAt s k) = 0 from by unfold hiOf; simp [c114, c105, c119]]
                clear c114 c105 c119
                by_cases g1 : (v3 a1 a2 a3) k = 0
                · have g1' : ((v3 a1 a2 a3) k == 0) = true := by simp [g1]
                  have HW1 := hid (show (List.range (k + 1)).all (okAt s (v3 a1 a2 a3)) = true from by rw [all_succ, hB, hok]; simp [hasV, g1])
                  clear hB hok g1
                  go_wp2
                  go_roundw
                  case rel => exact ⟨k + 1, by omega, by go_num, by (rw [HW1.out]) <;> first | rfl | (simp; omega) | (simp; done), Ext.trans hx (Ext.refl _)⟩
                  case measure => simp [intOf]; omega
                · have g1' : ((v3 a1 a2 a3) k == 0) = false := by simp [g1]
                  have HW1 := hid (show (List.range (k + 1)).all (okAt s (v3 a1 a2 a3)) = false from by rw [all_succ, hB, hok]; simp [hasV]; omega)
                  clear hB hok g1
                  go_wp2
                  go_roundw
                  case rel => exact ⟨k + 1, by omega, by go_num, by (rw [HW1.out]) <;> first | rfl | (simp; omega) | (simp; done), Ext.trans hx (Ext.refl _)⟩
                  case measure => simp [intOf]; omega
        | false =>
          by_cases c114 : chAt s k = 114
          · skip
            have e114 : ((chAt s k : Int) == 114) = true := by simp; omega
            have HW1 := hid (show (List.range (k + 1)).all (okAt s (v3 a1 a2 a3)) = false from by rw [all_succ, hB]; simp)
            clear hB
            go_wp2
            go_roundw
            case rel => exact ⟨k + 1, by omega, by go_num, by (rw [HW1.out]) <;> first | rfl | (simp; omega) | (simp; done), Ext.trans hx (Ext.refl _)⟩
            case measure => simp [intOf]; omega
          · skip
            by_cases c105 : chAt s k = 105
            · skip
              have e114 : ((chAt s k : Int) == 114) = false := by simp; omega
              have e105 : ((chAt s k : Int) == 105) = true := by simp; omega
              have HW1 := hid (show (List.range (k + 1)).all (okAt s (v3 a1 a2 a3)) = false from by rw [all_succ, hB]; simp)
              clear hB
              go_wp2
              go_roundw
              case rel => exact ⟨k + 1, by omega, by go_num, by (rw [HW1.out]) <;> first | rfl | (simp; omega) | (simp; done), Ext.trans hx (Ext.refl _)⟩
              case measure => simp [intOf]; omega
            · skip
              by_cases c119 : chAt s k = 119
              · skip
                have e114 : ((chAt s k : Int) == 114) = false := by simp; omega
                have e105 : ((chAt s k : Int) == 105) = false := by simp; omega
                have e119 : ((chAt s k : Int) == 119) = true := by simp; omega
                have HW1 := hid (show (List.range (k + 1)).all (okAt s (v3 a1 a2 a3)) = false from by rw [all_succ, hB]; simp)
                clear hB
                go_wp2
                go_roundw
                case rel => exact ⟨k + 1, by omega, by go_num, by (rw [HW1.out]) <;> first | rfl | (simp; omega) | (simp; done), Ext.trans hx (Ext.refl _)⟩
                case measure => simp [intOf]; omega
              · skip
                have e114 : ((chAt s k : Int) == 114) = false := by simp; omega
                have e105 : ((chAt s k : Int) == 105) = false := by simp; omega
                have e119 : ((chAt s k : Int) == 119) = false := by simp; omega
                have HW1 := hid (show (List.range (k + 1)).all (okAt s (v3 a1 a2 a3)) = false from by rw [all_succ, hB]; simp)
                clear hB
                go_wp2
                go_roundw
                case rel => exact ⟨k + 1, by omega, by go_num, by (rw [HW1.out]) <;> first | rfl | (simp; omega) | (simp; done), Ext.trans hx (Ext.refl _)⟩
                case measure => simp [intOf]; omega
      · have hk' : k = 3 := by omega
        subst hk'
        have p0 := (hx.cells pb 0 hpW).trans q0
        have p1 := (hx.cells pb 1 hpW).trans q1
        have p2 := (hx.cells pb 2 hpW).trans q2
        have p3 := (hx.cells pb 3 hpW).trans q3
        have hsz := hx.size
        have hpr : pb < wr.heap.size := by omega
        obtain ⟨B, hB⟩ : ∃ B, (List.range 3).all (okAt s (v3 a1 a2 a3)) = B := ⟨_, rfl⟩
        have HR := hid (HRA.out.trans hB)
        rw [hB]
        clear hB q0 q1 q2 q3
        go_wp2_with (go_at_call 17; with_reducible refine Calls.mono (right_ o32 a1 a2 a3 _) ?_; rw [HR.out]; rintro e w' ⟨rfl, hy⟩; obtain ⟨dx, rfl⟩ := hy.grown; clear hy)
        go_ret
        exact ⟨by simp, Ext.trans f1.out (Ext.trans hx (by repeat (first | (with_reducible exact Ext.refl _) | (with_reducible refine Ext.undrew ?_) | (with_reducible refine Ext.grow ?_ _) | (with_reducible refine Ext.drew ?_) | (with_reducible refine Ext.drewN ?_ _) | (with_reducible refine Ext.alloc ?_ _) | (with_reducible assumption) | ((with_reducible refine Ext.setCell ?_ ?_ _); rotate_left; (first | exact Nat.le_refl _ | ((try dsimp only); (try simp only [World.size_alloc, grow_size, World.size_setCell]); omega))))))⟩
end codeKinds

end Go.Proofs.Ytcbniifpbcgamaa
