/- The walk of the law CodeWide. -/
import Derived.Test.YtcbniifpbcgamaaHead15
import Derived.Test.YtcbniifpbcgamaaCodM
namespace Go.Proofs.Ytcbniifpbcgamaa
set_option linter.unusedSimpArgs false
set_option linter.unusedVariables false
open Go.RowKit

theorem kd_pos : ∀ i : Fin 30, ¬ kd (i.val : Int) = 0 := by decide
theorem kd_ne {op : Int} (h0 : 0 ≤ op) (h1 : op ≤ 29) : ¬ kd op = 0 := by
  have := kd_pos ⟨op.toNat, by omega⟩
  rwa [show ((⟨op.toNat, by omega⟩ : Fin 30).val : Int) = op by simp; omega] at this
theorem kstr_3 {op : Int} (h : ¬ kd op = 0) : (kstr (kd op)).size = 3 := by
  have := kstr_size ⟨kd op, kd_lt op⟩
  simp only [h] at this
  exact this
theorem kstr_w1 {op : Int} (h : ¬ kd op = 0) : (chAt (kstr (kd op)) 1 = 119) = (kd op = 2 ∨ kd op = 5) := by
  rcases kd_cases op with hk | hk | hk | hk | hk | hk | hk | hk
  · exact absurd hk h
  · rw [hk, show chAt (kstr 1) 1 = 45 from by decide]; simp
  · rw [hk, show chAt (kstr 2) 1 = 119 from by decide]; simp
  · rw [hk, show chAt (kstr 3) 1 = 114 from by decide]; simp
  · rw [hk, show chAt (kstr 4) 1 = 114 from by decide]; simp
  · rw [hk, show chAt (kstr 5) 1 = 119 from by decide]; simp
  · rw [hk, show chAt (kstr 6) 1 = 114 from by decide]; simp
  · rw [hk, show chAt (kstr 7) 1 = 45 from by decide]; simp
theorem wfu32 {n : Int} (h : (Lit.int .u32 n).wf = true) : 0 ≤ n ∧ n ≤ 4294967295 := by
  simpa [Lit.wf, IntKind.min, IntKind.max, IntKind.signed, IntKind.bits] using h
theorem wfu8 {n : Int} (h : (Lit.int .u8 n).wf = true) : 0 ≤ n ∧ n ≤ 255 := by
  simpa [Lit.wf, IntKind.min, IntKind.max, IntKind.signed, IntKind.bits] using h
theorem wfi16 {n : Int} (h : (Lit.int .i16 n).wf = true) : -32768 ≤ n ∧ n ≤ 32767 := by
  simpa [Lit.wf, IntKind.min, IntKind.max, IntKind.signed, IntKind.bits] using h
theorem wfi32 {n : Int} (h : (Lit.int .i32 n).wf = true) : -2147483648 ≤ n ∧ n ≤ 2147483647 := by
  simpa [Lit.wf, IntKind.min, IntKind.max, IntKind.signed, IntKind.bits] using h
namespace codeWide
set_option maxRecDepth 100000 in
set_option maxHeartbeats 16000000 in
theorem walk (a0 : Int) (a1 : Int) (a2 : Int) (w : World) (w0 : (Lit.int .u8 a0).wf = true) (w1 : (Lit.int .u8 a1).wf = true) (w2 : (Lit.int .i16 a2).wf = true) :
    Calls Try.prog 8 #[.int .u8 a0, .int .u8 a1, .int .i16 a2] w fun e w' => e = .returned (.bool true) ∧ Ext w w' := by
  obtain ⟨a0l, a0u⟩ := wfu8 w0
  obtain ⟨a1l, a1u⟩ := wfu8 w1
  obtain ⟨a2l, a2u⟩ := wfi16 w2
  clear w0 w1 w2
  obtain ⟨o30, ho30⟩ : ∃ x, a0 % 30 = x := ⟨_, rfl⟩
  obtain ⟨r8, hr8⟩ : ∃ x, a1 % 8 = x := ⟨_, rfl⟩
  have o0 : 0 ≤ o30 := by omega
  have o1 : o30 ≤ 29 := by omega
  have r0 : 0 ≤ r8 := by omega
  have r1 : r8 ≤ 7 := by omega
  have hkn := kd_ne o0 o1
  have hs := kstr_3 hkn
  have hw1 := kstr_w1 hkn
  have hK := fun w => kinds_ o30 w
  have i1 : ∀ w, (Instr.index 9 (.string (kstr (kd o30))) (.int .i64 1)).run Try.prog w = .ok (.int .u8 (chAt (kstr (kd o30)) 1)) w := index_str _ 1 (by omega)
  have i0 : ∀ w, (Instr.index 9 (.string (kstr (kd o30))) (.int .i64 0)).run Try.prog w = .ok (.int .u8 (chAt (kstr (kd o30)) 0)) w := index_str _ 0 (by omega)
  by_cases hw : kd o30 = 2 ∨ kd o30 = 5
  · have e119 : ((chAt (kstr (kd o30)) 1 : Int) == 119) = true := by
      have : chAt (kstr (kd o30)) 1 = 119 := by rw [hw1]; exact hw
      rw [this]
      rfl
    by_cases h5 : kd o30 = 5
    · have e45 : ((chAt (kstr (kd o30)) 0 : Int) == 45) = true := by rw [h5]; decide
      have hrt : rightI o30 0 a2 0 = true := by
        unfold rightI
        rw [h5]
        simp [kA, kB, kC, fZ, fW]
        omega
      generalize kstr (kd o30) = s at hs hw1 hK i1 i0 e119 e45
      have HK := hid hK
      clear hK hw1 hkn h5
      have HRt := hid hrt
      obtain ⟨y2, hy2⟩ : ∃ y, a2 / 256 % 256 = y := ⟨_, rfl⟩
      obtain ⟨y3, hy3⟩ : ∃ y, a2 % 256 = y := ⟨_, rfl⟩
      have hU0 : IntKind.u16.wrap a2 = a2 % 65536 := by rw [IntKind.wrap_u16]
      obtain ⟨U, hU⟩ : ∃ x, a2 % 65536 = x := ⟨_, rfl⟩
      rw [hU] at hU0
      have F2 : U / 256 = y2 := by omega
      have F3 : U % 256 = y3 := by omega
      have bU0 : 0 ≤ U := by omega
      have bU1 : U ≤ 65535 := by omega
      have hD : IntKind.u16.wrap (U.tdiv 256) = y2 := by rw [Int.tdiv_eq_ediv_of_nonneg bU0, IntKind.wrap_u16]; omega
      have hT : U.tmod 256 = y3 := by rw [Int.tmod_eq_emod_of_nonneg bU0]; omega
      have hm2 : y2 % 256 = y2 := by omega
      have hm3 : y3 % 256 = y3 := by omega
      have HE := hid (show putI o30 (0) a2 0 = [o30, 0, y2, y3] from by
        unfold putI
        rw [if_pos hw]
        simp only [List.cons.injEq, and_true]
        omega)
      have HG := hid (getR_ok4 (x2 := y2) (x3 := y3) hrt (by unfold gB sgn16; rw [if_pos hw]; split <;> omega) (by unfold gC; rw [if_pos hw]))
      have HB2 := hid (show 0 ≤ y2 ∧ y2 ≤ 255 by omega)
      have HB3 := hid (show 0 ≤ y3 ∧ y3 ≤ 255 by omega)
      obtain ⟨l2, u2⟩ := HB2.out
      obtain ⟨l3, u3⟩ := HB3.out
      clear hw hrt
      go_enter Try.func8, Try.ntmps8
      go_wp2_with (first | (go_at_call 10; refine Calls.mono (head _) ?_; rintro e wh ⟨rfl, hxh⟩; obtain ⟨dh, rfl⟩ := hxh.grown; clear hxh) | (go_at_call 15; with_reducible refine Calls.mono (HK.out _) ?_; rintro e w' ⟨rfl, hy⟩; obtain ⟨dx, rfl⟩ := hy.grown; clear hy))
      refine Calls.mono (put_yes o30 (0) a2 0 _ HRt.out) ?_
      rintro e w' ⟨q1, ca1, rfl, hl1, hm1, hq1, hrd1, hy⟩
      rw [HE.out] at hrd1
      obtain ⟨hqs1, k2, k3⟩ : q1 < w'.heap.size ∧ w'.cell? ⟨q1, 2, none⟩ = some (.int .u8 y2) ∧ w'.cell? ⟨q1, 3, none⟩ = some (.int .u8 y3) := by
        obtain ⟨_, _, hA, hb, hc⟩ := hrd1 (by simp)
        cases hA
        exact ⟨hb, hc 2 (by simp), hc 3 (by simp)⟩
      obtain ⟨d1, rfl⟩ := hy.grown
      clear hy
      simp only [grow_size, World.size_alloc] at hqs1
      have HR1 := hid hrd1
      clear hrd1
      go_wp2_with fail
      refine Calls.mono (get_all q1 0 ca1 o30 (0) y2 y3 _ (RdB.ext HR1.out (by repeat (first | (with_reducible exact Ext.refl _) | (with_reducible refine Ext.undrew ?_) | (with_reducible refine Ext.grow ?_ _) | (with_reducible refine Ext.drew ?_) | (with_reducible refine Ext.drewN ?_ _) | (with_reducible refine Ext.alloc ?_ _) | (with_reducible assumption) | ((with_reducible refine Ext.setCell ?_ ?_ _); rotate_left; (first | exact Nat.le_refl _ | ((try dsimp only); (try simp only [World.size_alloc, grow_size, World.size_setCell]); omega)))))) hl1 hm1 ⟨by omega, by omega⟩ ⟨by omega, by omega⟩ HB2.out HB3.out) ?_
      rw [HG.out]
      rintro e w' ⟨rfl, hy⟩; obtain ⟨dx, rfl⟩ := hy.grown; clear hy
      go_wp2
      go_ret
      exact ⟨rfl, (by repeat (first | (with_reducible exact Ext.refl _) | (with_reducible refine Ext.undrew ?_) | (with_reducible refine Ext.grow ?_ _) | (with_reducible refine Ext.drew ?_) | (with_reducible refine Ext.drewN ?_ _) | (with_reducible refine Ext.alloc ?_ _) | (with_reducible assumption) | ((with_reducible refine Ext.setCell ?_ ?_ _); rotate_left; (first | exact Nat.le_refl _ | ((try dsimp only); (try simp only [World.size_alloc, grow_size, World.size_setCell]); omega)))))⟩
    · have h2 : kd o30 = 2 := by omega
      have e45 : ((chAt (kstr (kd o30)) 0 : Int) == 45) = false := by rw [h2]; decide
      have hrt : rightI o30 r8 a2 0 = true := by
        unfold rightI
        rw [h2]
        simp [kA, kB, kC, fZ, fW, fR]
        omega
      generalize kstr (kd o30) = s at hs hw1 hK i1 i0 e119 e45
      have HK := hid hK
      clear hK hw1 hkn h5 h2
      have HRt := hid hrt
      obtain ⟨y2, hy2⟩ : ∃ y, a2 / 256 % 256 = y := ⟨_, rfl⟩
      obtain ⟨y3, hy3⟩ : ∃ y, a2 % 256 = y := ⟨_, rfl⟩
      have hU0 : IntKind.u16.wrap a2 = a2 % 65536 := by rw [IntKind.wrap_u16]
      obtain ⟨U, hU⟩ : ∃ x, a2 % 65536 = x := ⟨_, rfl⟩
      rw [hU] at hU0
      have F2 : U / 256 = y2 := by omega
      have F3 : U % 256 = y3 := by omega
      have bU0 : 0 ≤ U := by omega
      have bU1 : U ≤ 65535 := by omega
      have hD : IntKind.u16.wrap (U.tdiv 256) = y2 := by rw [Int.tdiv_eq_ediv_of_nonneg bU0, IntKind.wrap_u16]; omega
      have hT : U.tmod 256 = y3 := by rw [Int.tmod_eq_emod_of_nonneg bU0]; omega
      have hm2 : y2 % 256 = y2 := by omega
      have hm3 : y3 % 256 = y3 := by omega
      have HE := hid (show putI o30 (r8) a2 0 = [o30, r8, y2, y3] from by
        unfold putI
        rw [if_pos hw]
        simp only [List.cons.injEq, and_true]
        omega)
      have HG := hid (getR_ok4 (x2 := y2) (x3 := y3) hrt (by unfold gB sgn16; rw [if_pos hw]; split <;> omega) (by unfold gC; rw [if_pos hw]))
      have HB2 := hid (show 0 ≤ y2 ∧ y2 ≤ 255 by omega)
      have HB3 := hid (show 0 ≤ y3 ∧ y3 ≤ 255 by omega)
      obtain ⟨l2, u2⟩ := HB2.out
      obtain ⟨l3, u3⟩ := HB3.out
      clear hw hrt
      go_enter Try.func8, Try.ntmps8
      go_wp2_with (first | (go_at_call 10; refine Calls.mono (head _) ?_; rintro e wh ⟨rfl, hxh⟩; obtain ⟨dh, rfl⟩ := hxh.grown; clear hxh) | (go_at_call 15; with_reducible refine Calls.mono (HK.out _) ?_; rintro e w' ⟨rfl, hy⟩; obtain ⟨dx, rfl⟩ := hy.grown; clear hy))
      refine Calls.mono (put_yes o30 (r8) a2 0 _ HRt.out) ?_
      rintro e w' ⟨q1, ca1, rfl, hl1, hm1, hq1, hrd1, hy⟩
      rw [HE.out] at hrd1
      obtain ⟨hqs1, k2, k3⟩ : q1 < w'.heap.size ∧ w'.cell? ⟨q1, 2, none⟩ = some (.int .u8 y2) ∧ w'.cell? ⟨q1, 3, none⟩ = some (.int .u8 y3) := by
        obtain ⟨_, _, hA, hb, hc⟩ := hrd1 (by simp)
        cases hA
        exact ⟨hb, hc 2 (by simp), hc 3 (by simp)⟩
      obtain ⟨d1, rfl⟩ := hy.grown
      clear hy
      simp only [grow_size, World.size_alloc] at hqs1
      have HR1 := hid hrd1
      clear hrd1
      go_wp2_with fail
      refine Calls.mono (get_all q1 0 ca1 o30 (r8) y2 y3 _ (RdB.ext HR1.out (by repeat (first | (with_reducible exact Ext.refl _) | (with_reducible refine Ext.undrew ?_) | (with_reducible refine Ext.grow ?_ _) | (with_reducible refine Ext.drew ?_) | (with_reducible refine Ext.drewN ?_ _) | (with_reducible refine Ext.alloc ?_ _) | (with_reducible assumption) | ((with_reducible refine Ext.setCell ?_ ?_ _); rotate_left; (first | exact Nat.le_refl _ | ((try dsimp only); (try simp only [World.size_alloc, grow_size, World.size_setCell]); omega)))))) hl1 hm1 ⟨by omega, by omega⟩ ⟨by omega, by omega⟩ HB2.out HB3.out) ?_
      rw [HG.out]
      rintro e w' ⟨rfl, hy⟩; obtain ⟨dx, rfl⟩ := hy.grown; clear hy
      go_wp2
      go_ret
      exact ⟨rfl, (by repeat (first | (with_reducible exact Ext.refl _) | (with_reducible refine Ext.undrew ?_) | (with_reducible refine Ext.grow ?_ _) | (with_reducible refine Ext.drew ?_) | (with_reducible refine Ext.drewN ?_ _) | (with_reducible refine Ext.alloc ?_ _) | (with_reducible assumption) | ((with_reducible refine Ext.setCell ?_ ?_ _); rotate_left; (first | exact Nat.le_refl _ | ((try dsimp only); (try simp only [World.size_alloc, grow_size, World.size_setCell]); omega)))))⟩
  · have e119 : ((chAt (kstr (kd o30)) 1 : Int) == 119) = false := by
      have : ¬ chAt (kstr (kd o30)) 1 = 119 := by rw [hw1]; exact hw
      simp
      omega
    generalize kstr (kd o30) = s at hs hw1 hK i1 i0 e119
    have HK := hid hK
    clear hK hw1 hkn hw
    go_enter Try.func8, Try.ntmps8
    go_wp2_with (first | (go_at_call 10; refine Calls.mono (head _) ?_; rintro e wh ⟨rfl, hxh⟩; obtain ⟨dh, rfl⟩ := hxh.grown; clear hxh) | (go_at_call 15; with_reducible refine Calls.mono (HK.out _) ?_; rintro e w' ⟨rfl, hy⟩; obtain ⟨dx, rfl⟩ := hy.grown; clear hy))
    go_ret
    exact ⟨rfl, (by repeat (first | (with_reducible exact Ext.refl _) | (with_reducible refine Ext.undrew ?_) | (with_reducible refine Ext.grow ?_ _) | (with_reducible refine Ext.drew ?_) | (with_reducible refine Ext.drewN ?_ _) | (with_reducible refine Ext.alloc ?_ _) | (with_reducible assumption) | ((with_reducible refine Ext.setCell ?_ ?_ _); rotate_left; (first | exact Nat.le_refl _ | ((try dsimp only); (try simp only [World.size_alloc, grow_size, World.size_setCell]); omega)))))⟩
end codeWide

end Go.Proofs.Ytcbniifpbcgamaa
