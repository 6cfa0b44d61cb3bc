/- The walk of the law CodeTells. -/
import Derived.Test.YtcbniifpbcgamaaCodTb
namespace Go.Proofs.Ytcbniifpbcgamaa
set_option linter.unusedSimpArgs false
set_option linter.unusedVariables false
open Go.RowKit

theorem wfu8 {n : Int} (h : (Lit.int .u8 n).wf = true) : 0 ≤ n ∧ n ≤ 255 := by
  simpa [Lit.wf, IntKind.min, IntKind.max, IntKind.signed, IntKind.bits] using h
namespace codeTells
set_option maxRecDepth 100000 in
set_option maxHeartbeats 4000000 in
theorem walk (op0 ra0 rb0 rc0 : Int) (A1 : Option Addr) (cap1 : Nat) (zs1 : List Int) (a2 : Int) (w : World) (wop0 : (Lit.int .i64 op0).wf = true) (wra0 : (Lit.int .i64 ra0).wf = true) (wrb0 : (Lit.int .i64 rb0).wf = true) (wrc0 : (Lit.int .i64 rc0).wf = true) (wl1 : zs1.length ≤ maxLen) (hs1 : SlAt w A1 (zs1.map (Value.int .u8))) (wz1 : ∀ z ∈ zs1, (Lit.int .u8 z).wf = true) (wc1 : zs1.length ≤ cap1) (wm1 : cap1 ≤ maxLen) (w2 : (Lit.int .i64 a2).wf = true) :
    Calls Try.prog 3 #[.agg #[.int .i64 op0, .int .i64 ra0, .int .i64 rb0, .int .i64 rc0], .slice A1 zs1.length cap1, .int .i64 a2] w fun e w' => e = .returned (.bool true) ∧ Ext w w' := by
  by_cases h9 : (zs1.length : Int) ≤ 9000
  · have hrd := SlAt.rdb hs1
    have hbl : byteL zs1 := fun n hn => wfu8 (wz1 n hn)
    have HK := hid fun w => kinds_ a2 w
    have HRK := hid fun w => rkinds a2 w
    obtain ⟨K, hK⟩ := stop_exists zs1
    by_cases h4 : (zs1.length : Int) = 4
    · have h4' : zs1.length = 4 := by omega
      obtain ⟨x0, x1, x2, x3, rfl⟩ : ∃ x0 x1 x2 x3, zs1 = [x0, x1, x2, x3] := by
        match zs1, h4' with
        | [x0, x1, x2, x3], _ => exact ⟨x0, x1, x2, x3, rfl⟩
      obtain ⟨b, o, rfl, hb, _⟩ := hrd (by simp)
      obtain ⟨p0, p1, p2, p3, pe, hG⟩ := getR_form x0 x1 x2 x3
      have b0 := hbl x0 (by simp)
      have b1 := hbl x1 (by simp)
      have b2 := hbl x2 (by simp)
      have b3 := hbl x3 (by simp)
      cases h0 : rightI op0 ra0 rb0 rc0 with
      | true =>
        rcases hK.2.2 with hE | hE | hE
        · exact tells_y_full_4 op0 ra0 rb0 rc0 b o cap1 x0 x1 x2 x3 p0 p1 p2 p3 pe a2 _ K w HK HRK (hid hrd) (hid hbl) wc1 wm1 (hid b0) (hid b1) (hid b2) (hid b3) (hid hG) (hid h0) (hid hK) (hid hE)
        · exact tells_y_bad_4 op0 ra0 rb0 rc0 b o cap1 x0 x1 x2 x3 p0 p1 p2 p3 pe a2 _ K w HK HRK (hid hrd) (hid hbl) wc1 wm1 (hid b0) (hid b1) (hid b2) (hid b3) (hid hG) (hid h0) (hid hK) (hid hE)
        · simp at hE; omega
      | false =>
        rcases hK.2.2 with hE | hE | hE
        · exact tells_n_full_4 op0 ra0 rb0 rc0 b o cap1 x0 x1 x2 x3 p0 p1 p2 p3 pe a2 _ K w HK HRK (hid hrd) (hid hbl) wc1 wm1 (hid b0) (hid b1) (hid b2) (hid b3) (hid hG) (hid h0) (hid hK) (hid hE)
        · exact tells_n_bad_4 op0 ra0 rb0 rc0 b o cap1 x0 x1 x2 x3 p0 p1 p2 p3 pe a2 _ K w HK HRK (hid hrd) (hid hbl) wc1 wm1 (hid b0) (hid b1) (hid b2) (hid b3) (hid hG) (hid h0) (hid hK) (hid hE)
        · simp at hE; omega
    · cases h0 : rightI op0 ra0 rb0 rc0 with
      | true =>
        rcases hK.2.2 with hE | hE | hE
        · exact tells_y_full_l op0 ra0 rb0 rc0 A1 cap1 zs1 a2 _ K w HK HRK (hid hrd) (hid hbl) wc1 wm1 h9 h4 (hid h0) (hid hK) (hid hE)
        · exact tells_y_bad_l op0 ra0 rb0 rc0 A1 cap1 zs1 a2 _ K w HK HRK (hid hrd) (hid hbl) wc1 wm1 h9 h4 (hid h0) (hid hK) (hid hE)
        · exact tells_y_cut_l op0 ra0 rb0 rc0 A1 cap1 zs1 a2 _ K w HK HRK (hid hrd) (hid hbl) wc1 wm1 h9 h4 (hid h0) (hid hK) (hid hE)
      | false =>
        rcases hK.2.2 with hE | hE | hE
        · exact tells_n_full_l op0 ra0 rb0 rc0 A1 cap1 zs1 a2 _ K w HK HRK (hid hrd) (hid hbl) wc1 wm1 h9 h4 (hid h0) (hid hK) (hid hE)
        · exact tells_n_bad_l op0 ra0 rb0 rc0 A1 cap1 zs1 a2 _ K w HK HRK (hid hrd) (hid hbl) wc1 wm1 h9 h4 (hid h0) (hid hK) (hid hE)
        · exact tells_n_cut_l op0 ra0 rb0 rc0 A1 cap1 zs1 a2 _ K w HK HRK (hid hrd) (hid hbl) wc1 wm1 h9 h4 (hid h0) (hid hK) (hid hE)
  · have h9' : ¬ (zs1.length : Int) ≤ 9000 := h9
    clear hs1 wz1
    go_enter Try.func3, Try.ntmps3
    go_wp2_with (go_at_call 10; refine Calls.mono (head _) ?_; rintro e wh ⟨rfl, hxh⟩; obtain ⟨dh, rfl⟩ := hxh.grown; clear hxh)
    go_ret
    exact ⟨rfl, (by repeat (first | (with_reducible exact Ext.refl _) | (with_reducible refine Ext.undrew ?_) | (with_reducible refine Ext.grow ?_ _) | (with_reducible refine Ext.drew ?_) | (with_reducible refine Ext.drewN ?_ _) | (with_reducible refine Ext.alloc ?_ _) | (with_reducible assumption) | ((with_reducible refine Ext.setCell ?_ ?_ _); rotate_left; (first | exact Nat.le_refl _ | ((try dsimp only); (try simp only [World.size_alloc, grow_size, World.size_setCell]); omega)))))⟩
end codeTells

end Go.Proofs.Ytcbniifpbcgamaa
