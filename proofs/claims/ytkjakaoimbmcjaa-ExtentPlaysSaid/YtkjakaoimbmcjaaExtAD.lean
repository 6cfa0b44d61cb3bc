/- Layer 12: the document's Give. -/
import Derived.Test.YtkjakaoimbmcjaaExtAB
namespace Go.Proofs.Ytkjakaoimbmcjaa
set_option linter.unusedSimpArgs false
set_option linter.unusedVariables false
open Go.RowKit

set_option maxRecDepth 100000 in
set_option maxHeartbeats 4000000 in
theorem rxgive_occ (p q n : Nat) (fr : Int) (P : Nat → Bool) (w : World) (h : Rx w p q n fr P) (at_ N : Int) (h0 : (at_.tmod 16 != 0) = false) (h1 : (N.tmod 16 != 0) = false) (h2 : ¬ N < 1) (h3 : ¬ at_ < fr) (h4 : ¬ fr + 16 * (n : Int) < at_) (h5 : ¬ fr + 16 * (n : Int) - at_ < N) (a0 m : Nat) (ha : at_ = fr + 16 * (a0 : Int)) (hm : N = 16 * (m : Int)) (i0 : Nat) (hi0 : i0 < m) (hocc : P (a0 + i0) = true) (hfree : ∀ i, i < i0 → P (a0 + i) = false) : Calls Try.prog 14 #[.pointer (some ⟨p, 0, none⟩), .int .i64 at_, .int .i64 N] w fun e w' => e = .returned (.bool false) ∧ Ext w w' := by
  have HP := hid hfree
  have HOC := hid hocc
  clear hfree hocc
  have hb0 := h.b0
  have hb1 := h.b1
  have hnb := h.bd
  have hpq : ¬ p = q := h.np
  have ham : a0 + m ≤ n := by omega
  have Q1 : Hid (N.tdiv 16 = (m : Int)) := hid (by rw [hm, Int.tdiv_eq_ediv_of_nonneg (by omega)]; omega)
  have Q2 : Hid (N / 16 = (m : Int)) := hid (by omega)
  have Q3 : Hid ((at_ - fr).tdiv 16 = (a0 : Int)) := hid (by rw [ha, Int.tdiv_eq_ediv_of_nonneg (by omega)]; omega)
  have Q4 : Hid ((at_ - fr) / 16 = (a0 : Int)) := hid (by omega)
  have HH := hid h
  have c0 := h.c0
  have c1 := h.c1
  have hlp := h.ltp
  have hat9 : at_ ≤ 20000 := by omega
  have hat0 : fr ≤ at_ := by omega
  have hN9 : N ≤ 20000 := by omega
  have ha00 : (0 : Int) ≤ (a0 : Int) := by omega
  have ha09 : (a0 : Int) ≤ 1250 := by omega
  clear h ha hm
  have HFh0 := hid h0
  clear h0
  have HFh1 := hid h1
  clear h1
  have HFh2 := hid h2
  clear h2
  have HFh3 := hid h3
  clear h3
  have HFh4 := hid h4
  clear h4
  have HFh5 := hid h5
  clear h5
  go_enter Try.func14, Try.ntmps14
  go_upto_region 1 with (fail)
  have h0 := HFh0.out
  have h0b := (t16 _).trans h0
  have h1 := HFh1.out
  have h1b := (t16 _).trans h1
  have h2 := HFh2.out
  have h3 := HFh3.out
  have h4 := HFh4.out
  have h5 := HFh5.out
  refine wp_region_grow (by kernel_rfl) (by kernel_rfl) (by first | (simp only [List.append]; rfl) | rfl) ?_
  (repeat (go_big_quiet_step (fail)))
  refine wpQuiet_nil ?_
  intro wq hq
  obtain ⟨d, rfl⟩ := hq
  have HR0 := hid (HH.out.ext (show Ext w (Go.Proofs.Ytkjakaoimbmcjaa.grow w d) from Ext.grow (Ext.refl _) d))
  have HX0 : Hid (Ext w (Go.Proofs.Ytkjakaoimbmcjaa.grow w d)) := hid (Ext.grow (Ext.refl _) d)
  clear c0 c1 hlp
  generalize Go.Proofs.Ytkjakaoimbmcjaa.grow w d = W at HR0 HX0 ⊢
  have c0 := HR0.out.c0
  have c1 := HR0.out.c1
  have hlp := HR0.out.ltp
  have hlq := HR0.out.ltq
  have hs3 := Q3.out
  have hs4 := Q4.out
  go_upto_region 4 with (fail)
  clear hs3 hs4
  have hq1 := Q1.out
  have hq2 := Q2.out
  go_wp2
  go_loop [8] (fun iv => ∃ j : Nat, j ≤ i0 ∧ iv = .int .i64 j) (fun iv => m + 1 - (intOf iv).toNat)
  case atStart => exact ⟨0, Nat.zero_le _, rfl⟩
  case round =>
    obtain ⟨j, hj, rfl⟩ := hrel
    have hj0 : (0 : Int) ≤ (j : Int) := by omega
    by_cases hji : j < i0
    · skip
      have hj1 : (j : Int) < (m : Int) := by omega
      have hin : a0 + j < n := by omega
      have hini : (a0 : Int) + (j : Int) < (n : Int) := by omega
      obtain ⟨f1, _⟩ := HR0.out.grans (a0 + j) hin
      rw [HP.out j (by omega)] at f1
      have f1' : W.cell? ⟨q, ((a0 : Int) + (j : Int)).toNat, none⟩ = some (.bool false) := f1
      go_wp2
      go_round
      case rel => exact ⟨j + 1, by omega, by go_num⟩
      case measure => simp [intOf]; omega
    · obtain rfl : j = i0 := by omega
      have hj1 : (j : Int) < (m : Int) := by omega
      have hin : a0 + j < n := by omega
      have hini : (a0 : Int) + (j : Int) < (n : Int) := by omega
      obtain ⟨f1, _⟩ := HR0.out.grans (a0 + j) hin
      rw [HOC.out] at f1
      have f1' : W.cell? ⟨q, ((a0 : Int) + (j : Int)).toNat, none⟩ = some (.bool true) := f1
      go_wp2
      go_ret
      exact ⟨rfl, HX0.out⟩
set_option maxRecDepth 100000 in
set_option maxHeartbeats 4000000 in
theorem rxgive_yes (p q n : Nat) (fr : Int) (P : Nat → Bool) (w : World) (h : Rx w p q n fr P) (at_ N : Int) (h0 : (at_.tmod 16 != 0) = false) (h1 : (N.tmod 16 != 0) = false) (h2 : ¬ N < 1) (h3 : ¬ at_ < fr) (h4 : ¬ fr + 16 * (n : Int) < at_) (h5 : ¬ fr + 16 * (n : Int) - at_ < N) (a0 m : Nat) (ha : at_ = fr + 16 * (a0 : Int)) (hm : N = 16 * (m : Int)) (hfree : ∀ i, i < m → P (a0 + i) = false) : Calls Try.prog 14 #[.pointer (some ⟨p, 0, none⟩), .int .i64 at_, .int .i64 N] w fun e w' => e = .returned (.bool true) ∧ Hid (Rx w' p q n fr (onP P a0 m)) ∧ Hid (Only (· = q) w w') := by
  have HP := hid hfree
  clear hfree
  have hb0 := h.b0
  have hb1 := h.b1
  have hnb := h.bd
  have hpq : ¬ p = q := h.np
  have ham : a0 + m ≤ n := by omega
  have Q1 : Hid (N.tdiv 16 = (m : Int)) := hid (by rw [hm, Int.tdiv_eq_ediv_of_nonneg (by omega)]; omega)
  have Q2 : Hid (N / 16 = (m : Int)) := hid (by omega)
  have Q3 : Hid ((at_ - fr).tdiv 16 = (a0 : Int)) := hid (by rw [ha, Int.tdiv_eq_ediv_of_nonneg (by omega)]; omega)
  have Q4 : Hid ((at_ - fr) / 16 = (a0 : Int)) := hid (by omega)
  have HH := hid h
  have c0 := h.c0
  have c1 := h.c1
  have hlp := h.ltp
  have hat9 : at_ ≤ 20000 := by omega
  have hat0 : fr ≤ at_ := by omega
  have hN9 : N ≤ 20000 := by omega
  have ha00 : (0 : Int) ≤ (a0 : Int) := by omega
  have ha09 : (a0 : Int) ≤ 1250 := by omega
  clear h ha hm
  have HFh0 := hid h0
  clear h0
  have HFh1 := hid h1
  clear h1
  have HFh2 := hid h2
  clear h2
  have HFh3 := hid h3
  clear h3
  have HFh4 := hid h4
  clear h4
  have HFh5 := hid h5
  clear h5
  go_enter Try.func14, Try.ntmps14
  go_upto_region 1 with (fail)
  have h0 := HFh0.out
  have h0b := (t16 _).trans h0
  have h1 := HFh1.out
  have h1b := (t16 _).trans h1
  have h2 := HFh2.out
  have h3 := HFh3.out
  have h4 := HFh4.out
  have h5 := HFh5.out
  refine wp_region_grow (by kernel_rfl) (by kernel_rfl) (by first | (simp only [List.append]; rfl) | rfl) ?_
  (repeat (go_big_quiet_step (fail)))
  refine wpQuiet_nil ?_
  intro wq hq
  obtain ⟨d, rfl⟩ := hq
  have HR0 := hid (HH.out.ext (show Ext w (Go.Proofs.Ytkjakaoimbmcjaa.grow w d) from Ext.grow (Ext.refl _) d))
  have HX0 : Hid (Ext w (Go.Proofs.Ytkjakaoimbmcjaa.grow w d)) := hid (Ext.grow (Ext.refl _) d)
  clear c0 c1 hlp
  generalize Go.Proofs.Ytkjakaoimbmcjaa.grow w d = W at HR0 HX0 ⊢
  have c0 := HR0.out.c0
  have c1 := HR0.out.c1
  have hlp := HR0.out.ltp
  have hlq := HR0.out.ltq
  have hs3 := Q3.out
  have hs4 := Q4.out
  go_upto_region 4 with (fail)
  clear hs3 hs4
  have hq1 := Q1.out
  have hq2 := Q2.out
  go_wp2
  go_loop [8] (fun iv => ∃ j : Nat, j ≤ m ∧ iv = .int .i64 j) (fun iv => m + 1 - (intOf iv).toNat)
  case atStart => exact ⟨0, Nat.zero_le _, rfl⟩
  case round =>
    obtain ⟨j, hj, rfl⟩ := hrel
    have hj0 : (0 : Int) ≤ (j : Int) := by omega
    by_cases hji : j < m
    · skip
      have hj1 : (j : Int) < (m : Int) := by omega
      have hin : a0 + j < n := by omega
      have hini : (a0 : Int) + (j : Int) < (n : Int) := by omega
      obtain ⟨f1, _⟩ := HR0.out.grans (a0 + j) hin
      rw [HP.out j (by omega)] at f1
      have f1' : W.cell? ⟨q, ((a0 : Int) + (j : Int)).toNat, none⟩ = some (.bool false) := f1
      go_wp2
      go_round
      case rel => exact ⟨j + 1, by omega, by go_num⟩
      case measure => simp [intOf]; omega
    · obtain rfl : j = m := by omega
      have hj1 : ¬ (j : Int) < (j : Int) := by omega
      have HO0 : Hid (Only (· = q) w W) := hid (Only.ofExt HX0.out)
      clear c0 c1 hlp hlq
      go_wp2
      go_loopw [9] (fun i wr => ∃ t : Nat, t ≤ j ∧ i = .int .i64 t ∧ Hid (Rx wr p q n fr (onP P a0 t)) ∧ Hid (Only (· = q) w wr)) (fun i _ => j + 1 - (intOf i).toNat)
      case atStart => exact ⟨0, Nat.zero_le _, rfl, hid (HR0.out.congr (fun i => by have : ¬ (a0 ≤ i ∧ i < a0 + 0) := (by omega); simp only [offP, onP, this, decide_false, Bool.not_false, Bool.and_true, Bool.or_false])), HO0⟩
      case round =>
        clear HR0 HO0
        obtain ⟨t, ht, rfl, HR3, HO3⟩ := hrel
        have ht0 : (0 : Int) ≤ (t : Int) := by omega
        by_cases htm : t < j
        · have ht1 : (t : Int) < (j : Int) := by omega
          have hin : a0 + t < n := by omega
          have hini : (a0 : Int) + (t : Int) < (n : Int) := by omega
          have c0 := HR3.out.c0
          have c1 := HR3.out.c1
          have hlp := HR3.out.ltp
          have hlq := HR3.out.ltq
          obtain ⟨f1, f2⟩ := HR3.out.grans (a0 + t) hin
          have f1' : wr.cell? ⟨q, ((a0 : Int) + (t : Int)).toNat, none⟩ = _ := f1
          have f2' : wr.frozen? ⟨q, ((a0 : Int) + (t : Int)).toNat, none⟩ = false := f2
          have HR5 : Hid (Rx (wr.setCell ⟨q, ((a0 : Int) + (t : Int)).toNat, none⟩ (.bool true)) p q n fr (onP P a0 (t + 1))) := hid ((HR3.out.set hin true).congr (fun i => by
            simp only [updP, offP, onP]
            by_cases e : i = a0 + t
            · have : a0 ≤ i ∧ i < a0 + (t + 1) := by omega
              simp [e]
            · have : (a0 ≤ i ∧ i < a0 + (t + 1)) ↔ (a0 ≤ i ∧ i < a0 + t) := by omega
              simp [e, this]))
          have HO5 : Hid (Only (· = q) w (wr.setCell ⟨q, ((a0 : Int) + (t : Int)).toNat, none⟩ (.bool true))) := hid (Only.setCell (S := (· = q)) HO3.out (.inl rfl) (.bool true))
          go_wp2
          go_roundw
          case rel => exact ⟨t + 1, by omega, by go_num, HR5, HO5⟩
          case measure => simp [intOf]; omega
        · obtain rfl : t = j := by omega
          have ht1 : ¬ (t : Int) < (t : Int) := by omega
          go_wp2
          go_ret
          exact ⟨rfl, HR3, HO3⟩

end Go.Proofs.Ytkjakaoimbmcjaa
