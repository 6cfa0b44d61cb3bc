/- The walk of SweepSteps. -/
import Derived.Test.YthamfkbopjagdaaSweL
import Derived.Test.YthamfkbopjagdaaSweI
import Derived.Test.YthamfkbopjagdaaSweJ
namespace Go.Proofs.Ythamfkbopjagdaa
set_option linter.unusedSimpArgs false
set_option linter.unusedVariables false
open Go.RowKit

open Go.Deep Go.RowKit
namespace sweepSteps
set_option linter.unusedSimpArgs false
set_option linter.unusedVariables false
set_option maxRecDepth 100000 in
set_option maxHeartbeats 8000000 in
theorem walk (A0 : Option Addr) (cap0 : Nat) (zs0 : List TOp) (A1 : Option Addr) (cap1 : Nat) (ps1 : List SOp) (A2 : Option Addr) (cap2 : Nat) (bl2 : List Int) (w : World) (wl0 : zs0.length ≤ maxLen) (hs0 : SlAtN w A0 10 (zs0.map TOp.cells)) (wz0 : ∀ z ∈ zs0, z.good w) (wl1 : ps1.length ≤ maxLen) (hs1 : SlAtN w A1 3 (ps1.map SOp.cells)) (wz1 : ∀ z ∈ ps1, wfS z) (wl2 : bl2.length ≤ cap2 ∧ cap2 ≤ maxLen) (hs2 : RdB w A2 bl2) (wz2 : byteL bl2) (wn2 : A2 = none → cap2 = 0) :
    Calls Try.prog 7 #[.slice A0 zs0.length cap0, .slice A1 ps1.length cap1, .slice A2 bl2.length cap2] w fun e w' => e = .returned (.bool true) ∧ Ext w w' := by
  have HSL := hid hs0
  have HWZ := hid wz0
  have HPL := hid hs1
  have HBL := hid hs2
  have HBY := hid wz2
  obtain ⟨nb, hnb⟩ : ∃ n, bl2.length = n := ⟨_, rfl⟩
  have HNB := hid hnb
  rw [hnb] at wl2 ⊢
  clear hs0 hs1 hs2 wz0 wz1 wz2 wn2 hnb
  go_enter Try.func7, Try.ntmps7
  go_upto_region 2 with (go_at_call 8; refine Calls.mono (head_ _) ?_; rintro e wh ⟨rfl, hxh⟩)
  go_upto_region 3 with (go_at_call 9; refine (hNew 4 4 (by decide) _ (by decide) (by decide)).mono ?_; rintro e w1 ⟨q, rfl, g, HM1⟩)
  go_upto_region 4 with (go_at_call 10; refine (new_ 64 _ (by decide) (by decide)).mono ?_; rintro e w2 ⟨p, pq, rfl, hs2, hx2, hp2, hpq2⟩)
  go_upto_region 5 with (go_at_call 9; refine (hNew 4 4 (by decide) _ (by decide) (by decide)).mono ?_; rintro e w3 ⟨r, rfl, h, HM3⟩)
  have HN : Hid (¬ q = r ∧ ¬ q = h ∧ ¬ g = r ∧ ¬ g = h ∧ ¬ p = r ∧ ¬ p = h ∧ ¬ pq = r ∧ ¬ pq = h) := hid (by
    have e1 := HM1.out.1.ltq
    have e2 := HM1.out.1.ltg
    have e3 := hx2.size
    have e4 := hs2.ltp
    have e5 := hs2.ltq
    have e6 := HM3.out.2.2
    refine ⟨?_, ?_, ?_, ?_, ?_, ?_, ?_, ?_⟩ <;> omega)
  have HX3 : Hid (Ext w w3) := hid (hxh.trans (HM1.out.2.1.trans (hx2.trans HM3.out.2.1)))
  have HMA : Hid (MP w w3 q g p pq 4 64 ((fun _ => 0), (fun _ => false), (fun _ => false)) (fun _ => false)) := hid (by
    have e1 := HM1.out
    have e2 := e1.1.ltq
    have e3 := e1.1.ltg
    have e4 := hxh.size
    have e5 := e1.2.1.size
    exact ⟨⟨(e1.1.ext hx2).ext HM3.out.2.1, HX3.out, Nat.le_trans e4 e1.2.2.1, Nat.le_trans e4 e1.2.2.2⟩, hs2.ext HM3.out.2.1, ⟨by omega, by omega, by omega, by omega⟩, ⟨by omega, by omega⟩⟩)
  have HMB : Hid (MP w w3 r h p pq 4 64 ((fun _ => 0), (fun _ => false), (fun _ => false)) (fun _ => false)) := hid (by
    have e1 := HM3.out
    have e2 := HN.out
    have e3 := (hxh.trans (HM1.out.2.1.trans hx2)).size
    exact ⟨⟨e1.1, HX3.out, Nat.le_trans e3 e1.2.2.1, Nat.le_trans e3 e1.2.2.2⟩, HMA.out.h2, ⟨by omega, by omega, by omega, by omega⟩, HMA.out.lo⟩)
  clear HM1 HM3 hs2 hx2 hp2 hpq2 hxh
  by_cases hp200 : ps1.length ≤ 200
  · by_cases hs300 : nb ≤ 300
    · have hp2 : ¬ (200 : Int) < (ps1.length : Int) := by omega
      have hs3 : ¬ (300 : Int) < (nb : Int) := by omega
      go_upto_region 7 with (go_at_call 39; refine (great_ A0 cap0 zs0 _ wl0 (HSL.out.ext HX3.out)).mono ?_; rintro e w4 ⟨b, rfl, hx4, hgr⟩; rcases b with _ | _)
      rotate_left
      · go_ret
        exact ⟨rfl, HX3.out.trans hx4⟩
      · have HMA4 := hid (HMA.out.ext hx4)
        have HMB4 := hid (HMB.out.ext hx4)
        clear HMA HMB hx4 hgr HX3 hp200 hp2
        go_upto_region 8 with (go_at_call 40; refine (filled_ w _ q g p pq 4 64 ((fun _ => 0), (fun _ => false), (fun _ => false)) (fun _ => false) HMA4.out A0 cap0 zs0 HSL.out HWZ.out wl0 A1 cap1 ps1 HPL.out wl1).mono ?_; rintro e w5 ⟨rfl, HF5⟩)
        generalize fillP 64 (fun _ => false) ps1 = P at HF5
        have HMB5 : Hid (MP w w5 r h p pq 4 64 ((fun _ => 0), (fun _ => false), (fun _ => false)) P) := hid (by
          have n := HN.out
          have l1 := HMB4.out.h1.2.2
          have l2 := HMB4.out.lo
          have l3 := HMA4.out.h1.2.2
          exact ⟨HMB4.out.h1.only HF5.out.2 (by rintro (c | c) <;> omega) (by rintro (c | c) <;> omega) (by rintro i (c | c) <;> omega), HF5.out.1.h2, HMB4.out.ap, HMB4.out.lo⟩)
        clear HMA4 HMB4
        go_upto_region 9 with (go_at_call 40; refine (filled_ w _ r h p pq 4 64 ((fun _ => 0), (fun _ => false), (fun _ => false)) P HMB5.out A0 cap0 zs0 HSL.out HWZ.out wl0 none 0 [] (fun h => absurd h (by simp)) (by simp)).mono ?_; rintro e w6 ⟨rfl, HF6⟩)
        obtain ⟨⟨B, T, D⟩, hM⟩ : ∃ x, fillM 4 ((fun _ => 0), (fun _ => false), (fun _ => false)) zs0 = x := ⟨_, rfl⟩
        rw [hM] at HF5 HF6
        clear hM
        have HB6 : Hid (MP w w6 r h p pq 4 64 (B, T, D) P) := hid HF6.out.1
        have HA6 : Hid (MP w w6 q g p pq 4 64 (B, T, D) P) := hid (by
          have n := HN.out
          have a1 := HF5.out.1.ap
          have l1 := HF6.out.1.h1.2.2
          have l2 := HF6.out.1.lo
          exact ⟨HF5.out.1.h1.only HF6.out.2 (by rintro (c | c) <;> omega) (by rintro (c | c) <;> omega) (by rintro i (c | c) <;> omega), HF6.out.1.h2, HF5.out.1.ap, HF5.out.1.lo⟩)
        clear HF5 HF6 HMB5
        go_upto_region 10 with (go_at_call 14; refine (swnew_ q p _).mono ?_; rintro e w7 ⟨s, rfl, HS7, HX7, HL7⟩)
        go_upto_region 11 with (go_at_call 14; refine (swnew_ r p _).mono ?_; rintro e w8 ⟨t, rfl, HS8, HX8, HL8⟩)
        have HNE : Hid (¬ q = r ∧ ¬ q = h ∧ ¬ g = r ∧ ¬ g = h ∧ ¬ q = t ∧ ¬ g = t ∧ ¬ s = r ∧ ¬ s = h ∧ ¬ s = t ∧ ¬ p = r ∧ ¬ p = h ∧ ¬ pq = r ∧ ¬ pq = h ∧ ¬ p = s ∧ ¬ pq = s ∧ ¬ p = t ∧ ¬ pq = t ∧ ¬ q = p ∧ ¬ q = pq ∧ ¬ g = p ∧ ¬ g = pq) := hid (by
          have n := HN.out
          have a1 := HA6.out.ap
          have e1 := HA6.out.h1.1.ltq
          have e2 := HA6.out.h1.1.ltg
          have e3 := HB6.out.h1.1.ltq
          have e4 := HB6.out.h1.1.ltg
          have e5 := HA6.out.h2.ltp
          have e6 := HA6.out.h2.ltq
          have e7 := HL7.out
          have e8 := HL8.out
          have e9 := HX7.out.size
          have e10 := HS7.out.lt
          refine ⟨?_, ?_, ?_, ?_, ?_, ?_, ?_, ?_, ?_, ?_, ?_, ?_, ?_, ?_, ?_, ?_, ?_, ?_, ?_, ?_, ?_⟩ <;> omega)
        have HA : Hid (SWB w w8 q g s p pq 4 64 B T D P false none 0 [] 0) := hid (by
          have e1 := HA6.out
          have e2 := HNE.out
          have e7 := e1.h1.2.1.size
          have e3 := HL7.out
          have e8 := e1.h1.1.ltq
          have e9 := e1.h1.1.ltg
          exact ⟨(e1.h1.ext HX7.out).ext HX8.out, (e1.h2.ext HX7.out).ext HX8.out, HS7.out.ext HX8.out, ⟨by omega, by omega, by omega, by omega, e1.ap.1, e1.ap.2.1, e1.ap.2.2.1, e1.ap.2.2.2⟩, ⟨by omega, e1.lo.1, e1.lo.2⟩, fun b o e => (by cases e), fun x hx => (by cases hx)⟩)
        have HB : Hid (SWB w w8 r h t p pq 4 64 B T D P false none 0 [] 0) := hid (by
          have e1 := HB6.out
          have e2 := HNE.out
          have e7 := e1.h1.2.1.size
          have e3 := HL8.out
          have e4 := HX7.out.size
          have e8 := e1.h1.1.ltq
          have e9 := e1.h1.1.ltg
          exact ⟨(e1.h1.ext HX7.out).ext HX8.out, (e1.h2.ext HX7.out).ext HX8.out, HS8.out, ⟨by omega, by omega, by omega, by omega, e1.ap.1, e1.ap.2.1, e1.ap.2.2.1, e1.ap.2.2.2⟩, ⟨by omega, e1.lo.1, e1.lo.2⟩, fun b o e => (by cases e), fun x hx => (by cases hx)⟩)
        clear HA6 HB6 HS7 HS8 HX7 HX8 HL7 HL8 HN
        have HHT : Hid (r < w8.heap.size ∧ h < w8.heap.size ∧ t < w8.heap.size ∧ g < w8.heap.size ∧ s < w8.heap.size) := hid ⟨HB.out.h1.1.ltq, HB.out.h1.1.ltg, HB.out.h3.lt, HA.out.h1.1.ltg, HA.out.h3.lt⟩
        go_upto_region 14 with (go_at_call 22; refine (begin2_ w _ q g s p pq 4 64 B T D P none 0 [] 0 HA.out).mono ?_; rintro e w9 ⟨A9, ca9, rfl, HAy, HO9, HF9⟩)
        have HB9 := hid (HB.out.other HO9.out (by obtain ⟨n1, n2, n3, n4, n5, n6, n7, n8, n9, n10, n11, n12, n13, n14, n15, n16, n17, n18, n19, n20, n21⟩ := HNE.out; refine ⟨?_, ?_, ?_, ?_, ?_⟩ <;> rintro (c | c) <;> (first | exact n1 c | exact n1 c.symm | exact n2 c | exact n2 c.symm | exact n3 c | exact n3 c.symm | exact n4 c | exact n4 c.symm | exact n5 c | exact n5 c.symm | exact n6 c | exact n6 c.symm | exact n7 c | exact n7 c.symm | exact n8 c | exact n8 c.symm | exact n9 c | exact n9 c.symm | exact n10 c | exact n10 c.symm | exact n11 c | exact n11 c.symm | exact n12 c | exact n12 c.symm | exact n13 c | exact n13 c.symm | exact n14 c | exact n14 c.symm | exact n15 c | exact n15 c.symm | exact n16 c | exact n16 c.symm | exact n17 c | exact n17 c.symm | exact n18 c | exact n18 c.symm | exact n19 c | exact n19 c.symm | exact n20 c | exact n20 c.symm | exact n21 c | exact n21 c.symm)) (.inl rfl) (by have e1 := HA.out.h1.2.2; have e2 := HA.out.lo; rintro i (c | c) <;> omega))
        clear HA HB
        have HA := HAy
        have HB := HB9
        clear HAy HB9
        go_upto_region 15 with (go_at_call 22; refine (begin2_ w _ r h t p pq 4 64 B T D P none 0 [] 0 HB.out).mono ?_; rintro e w10 ⟨A10, ca10, rfl, HBy, HO10, HF10⟩)
        have HA10 := hid (HA.out.other HO10.out (by obtain ⟨n1, n2, n3, n4, n5, n6, n7, n8, n9, n10, n11, n12, n13, n14, n15, n16, n17, n18, n19, n20, n21⟩ := HNE.out; refine ⟨?_, ?_, ?_, ?_, ?_⟩ <;> rintro (c | c) <;> (first | exact n1 c | exact n1 c.symm | exact n2 c | exact n2 c.symm | exact n3 c | exact n3 c.symm | exact n4 c | exact n4 c.symm | exact n5 c | exact n5 c.symm | exact n6 c | exact n6 c.symm | exact n7 c | exact n7 c.symm | exact n8 c | exact n8 c.symm | exact n9 c | exact n9 c.symm | exact n10 c | exact n10 c.symm | exact n11 c | exact n11 c.symm | exact n12 c | exact n12 c.symm | exact n13 c | exact n13 c.symm | exact n14 c | exact n14 c.symm | exact n15 c | exact n15 c.symm | exact n16 c | exact n16 c.symm | exact n17 c | exact n17 c.symm | exact n18 c | exact n18 c.symm | exact n19 c | exact n19 c.symm | exact n20 c | exact n20 c.symm | exact n21 c | exact n21 c.symm)) (.inr (fun b o e => by have := HF9.out b o e; have := HHT.out; rintro (c | c) <;> omega)) (by have e1 := HB.out.h1.2.2; have e2 := HB.out.lo; rintro i (c | c) <;> omega))
        obtain ⟨LL, hLL⟩ : ∃ l, whichN D 4 = l := ⟨_, rfl⟩
        have HL4 : Hid (LL.length ≤ 4) := hid (by rw [← hLL]; exact whichN_len D 4)
        rw [hLL] at HA10 HBy
        clear HA HB hLL
        have HA : Hid (SWB w w10 q g s p pq 4 64 B (stS 4 64 P B (T, D, 0) (LL.take 0)).1 (stS 4 64 P B (T, D, 0) (LL.take 0)).2.1 P true A9 ca9 (LL.drop 0) (stS 4 64 P B (T, D, 0) (LL.take 0)).2.2) := hid HA10.out
        have HB : Hid (SWB w w10 r h t p pq 4 64 B (stS 4 64 P B (T, D, 0) (LL.take 0)).1 (stS 4 64 P B (T, D, 0) (LL.take 0)).2.1 P true A10 ca10 (LL.drop 0) (stS 4 64 P B (T, D, 0) (LL.take 0)).2.2) := hid HBy.out
        have HSZ : Hid (w8.heap.size ≤ w9.heap.size) := hid HO9.out.size
        clear HA10 HBy HO9 HO10 HF9
        have HC : Hid (0 ≤ LL.length ∧ (true = false → 0 = LL.length)) := hid ⟨Nat.zero_le _, fun e => by cases e⟩
        go_upto_region 16 with (go_at_call 24; refine (stepAny_ w _ q g s p pq 4 64 B T D P true A9 ca9 0 LL 0 HA.out (by have := HC.out; omega) HC.out.2 (by have := HL4.out; omega) (by decide) 99).mono ?_; rintro e w11 ⟨c11, r11, A11, ca11, rfl, HA11, HO11, HC11, HD11⟩)
        obtain ⟨e1, e2⟩ : c11 = LL.length ∧ r11 = false := (by
          have h1 := HD11.out.2.1 (by first | rfl | trivial) (by omega) (by have := HL4.out; omega)
          exact ⟨h1, by rw [HD11.out.2.2 (by first | rfl | trivial) (by omega), h1]; simp⟩)
        subst e1 e2
        have HA12 : Hid (SWB w w11 q g s p pq 4 64 B ((stS 4 64 P B (T, D, 0) LL)).1 ((stS 4 64 P B (T, D, 0) LL)).2.1 P false A11 ca11 [] ((stS 4 64 P B (T, D, 0) LL)).2.2) := hid (by
          have := HA11.out
          rw [List.take_length, List.drop_length] at this
          exact this)
        have HB12 := hid (HB.out.other HO11.out (by obtain ⟨n1, n2, n3, n4, n5, n6, n7, n8, n9, n10, n11, n12, n13, n14, n15, n16, n17, n18, n19, n20, n21⟩ := HNE.out; refine ⟨?_, ?_, ?_, ?_, ?_⟩ <;> rintro (c | c) <;> (first | exact n1 c | exact n1 c.symm | exact n2 c | exact n2 c.symm | exact n3 c | exact n3 c.symm | exact n4 c | exact n4 c.symm | exact n5 c | exact n5 c.symm | exact n6 c | exact n6 c.symm | exact n7 c | exact n7 c.symm | exact n8 c | exact n8 c.symm | exact n9 c | exact n9 c.symm | exact n10 c | exact n10 c.symm | exact n11 c | exact n11 c.symm | exact n12 c | exact n12 c.symm | exact n13 c | exact n13 c.symm | exact n14 c | exact n14 c.symm | exact n15 c | exact n15 c.symm | exact n16 c | exact n16 c.symm | exact n17 c | exact n17 c.symm | exact n18 c | exact n18 c.symm | exact n19 c | exact n19 c.symm | exact n20 c | exact n20 c.symm | exact n21 c | exact n21 c.symm)) (.inr (fun b o e => by have := HF10.out b o e; have := HHT.out; have := HSZ.out; rintro (c | c) <;> omega)) (by have e1 := HA.out.h1.2.2; have e2 := HA.out.lo; rintro i (c | c) <;> omega))
        clear HA HB HA11 HO11 HC11 HD11 HF10 HC
        go_wp2
        go_loopw [13] (fun i wr => ∃ (k c : Nat) (rr : Bool) (A : Option Addr) (ca : Nat), k ≤ nb ∧ i = .int .i64 k ∧ Hid (SWB w wr q g s p pq 4 64 B ((stS 4 64 P B (T, D, 0) LL)).1 ((stS 4 64 P B (T, D, 0) LL)).2.1 P false A11 ca11 [] ((stS 4 64 P B (T, D, 0) LL)).2.2) ∧ Hid (SWB w wr r h t p pq 4 64 B (stS 4 64 P B (T, D, 0) (LL.take c)).1 (stS 4 64 P B (T, D, 0) (LL.take c)).2.1 P rr A ca (LL.drop c) (stS 4 64 P B (T, D, 0) (LL.take c)).2.2) ∧ Hid (c ≤ LL.length ∧ (rr = false → c = LL.length))) (fun i _ => nb - (intOf i).toNat)
        case atStart => exact ⟨0, 0, true, A10, ca10, Nat.zero_le _, rfl, HA12, HB12, hid ⟨Nat.zero_le _, fun e => by cases e⟩⟩
        case round =>
          clear HA12 HB12
          obtain ⟨k, c, rr, A, ca, hk, rfl, HA, HB, HC⟩ := hrel
          have hk0 : (0 : Int) ≤ (k : Int) := by omega
          by_cases hlt : k < nb
          · have hk1 : (k : Int) < (nb : Int) := by omega
            obtain ⟨b0, o0, rfl, hb0, hcc⟩ := (HBL.out.ext HA.out.h1.2.1) (by rw [HNB.out]; omega)
            obtain ⟨x, hx⟩ : ∃ x, bl2[k]'(by rw [HNB.out]; exact hlt) = x := ⟨_, rfl⟩
            have c0 := hcc k (by rw [HNB.out]; exact hlt)
            rw [hx] at c0
            have hxb : 0 ≤ x ∧ x ≤ 255 := by rw [← hx]; exact HBY.out _ (List.getElem_mem _)
            obtain ⟨hx0, hx1⟩ := hxb
            clear hcc hx
            go_upto_region 18 with (go_at_call 24; refine (stepAny_ w _ r h t p pq 4 64 B T D P rr A ca 0 LL c HB.out (by have := HC.out; omega) HC.out.2 (by have := HL4.out; omega) (by decide) x).mono ?_; rintro e W2 ⟨c2, r2, A2, ca2, rfl, HB2, HO2, HC2, HD2⟩)
            have HA2 := hid (HA.out.other HO2.out (by obtain ⟨n1, n2, n3, n4, n5, n6, n7, n8, n9, n10, n11, n12, n13, n14, n15, n16, n17, n18, n19, n20, n21⟩ := HNE.out; refine ⟨?_, ?_, ?_, ?_, ?_⟩ <;> rintro (c | c) <;> (first | exact n1 c | exact n1 c.symm | exact n2 c | exact n2 c.symm | exact n3 c | exact n3 c.symm | exact n4 c | exact n4 c.symm | exact n5 c | exact n5 c.symm | exact n6 c | exact n6 c.symm | exact n7 c | exact n7 c.symm | exact n8 c | exact n8 c.symm | exact n9 c | exact n9 c.symm | exact n10 c | exact n10 c.symm | exact n11 c | exact n11 c.symm | exact n12 c | exact n12 c.symm | exact n13 c | exact n13 c.symm | exact n14 c | exact n14 c.symm | exact n15 c | exact n15 c.symm | exact n16 c | exact n16 c.symm | exact n17 c | exact n17 c.symm | exact n18 c | exact n18 c.symm | exact n19 c | exact n19 c.symm | exact n20 c | exact n20 c.symm | exact n21 c | exact n21 c.symm)) (.inl rfl) (by have e1 := HB.out.h1.2.2; have e2 := HB.out.lo; rintro i (c | c) <;> omega))
            have HC3 : Hid (c2 ≤ LL.length ∧ (r2 = false → c2 = LL.length)) := hid HC2.out.2
            clear HA HB HC HO2 HC2 HD2 c0 hb0
            go_wp2
            go_roundw
            case rel => exact ⟨k + 1, c2, r2, A2, ca2, by omega, by go_num, HA2, HB2, HC3⟩
            case measure => simp [intOf]; omega
          · obtain rfl : nb = k := by omega
            have hk1 : ¬ (nb : Int) < (nb : Int) := by omega
            go_upto_region 21 with (go_at_call 24; refine (stepAny_ w _ r h t p pq 4 64 B T D P rr A ca 0 LL c HB.out (by have := HC.out; omega) HC.out.2 (by have := HL4.out; omega) (by decide) 99).mono ?_; rintro e W2 ⟨c2, r2, A2, ca2, rfl, HB2, HO2, HC2, HD2⟩)
            obtain ⟨e1, e2⟩ : c2 = LL.length ∧ r2 = false := (by
              cases rr with
              | false =>
                have h1 := HD2.out.1 (.inl rfl)
                have h2 := HC.out.2 rfl
                exact ⟨by omega, h1.2⟩
              | true =>
                have h1 := HD2.out.2.1 (by first | rfl | trivial) (by omega) (by have := HL4.out; omega)
                exact ⟨h1, by rw [HD2.out.2.2 (by first | rfl | trivial) (by omega), h1]; simp⟩)
            subst e1 e2
            have HB3 : Hid (SWB w W2 r h t p pq 4 64 B ((stS 4 64 P B (T, D, 0) LL)).1 ((stS 4 64 P B (T, D, 0) LL)).2.1 P false A2 ca2 [] ((stS 4 64 P B (T, D, 0) LL)).2.2) := hid (by
              have := HB2.out
              rw [List.take_length, List.drop_length] at this
              exact this)
            have HA3 := hid (HA.out.other HO2.out (by obtain ⟨n1, n2, n3, n4, n5, n6, n7, n8, n9, n10, n11, n12, n13, n14, n15, n16, n17, n18, n19, n20, n21⟩ := HNE.out; refine ⟨?_, ?_, ?_, ?_, ?_⟩ <;> rintro (c | c) <;> (first | exact n1 c | exact n1 c.symm | exact n2 c | exact n2 c.symm | exact n3 c | exact n3 c.symm | exact n4 c | exact n4 c.symm | exact n5 c | exact n5 c.symm | exact n6 c | exact n6 c.symm | exact n7 c | exact n7 c.symm | exact n8 c | exact n8 c.symm | exact n9 c | exact n9 c.symm | exact n10 c | exact n10 c.symm | exact n11 c | exact n11 c.symm | exact n12 c | exact n12 c.symm | exact n13 c | exact n13 c.symm | exact n14 c | exact n14 c.symm | exact n15 c | exact n15 c.symm | exact n16 c | exact n16 c.symm | exact n17 c | exact n17 c.symm | exact n18 c | exact n18 c.symm | exact n19 c | exact n19 c.symm | exact n20 c | exact n20 c.symm | exact n21 c | exact n21 c.symm)) (.inl rfl) (by have e1 := HB.out.h1.2.2; have e2 := HB.out.lo; rintro i (c | c) <;> omega))
            clear HA HB HC HO2 HC2 HD2 HB2
            have HA := HA3
            have HB := HB3
            clear HA3 HB3
            generalize (stS 4 64 P B (T, D, 0) LL) = zz at HA HB
            obtain ⟨T9, D9, g9⟩ := zz
            obtain ⟨tl, htl⟩ : ∃ l, (whichN T9 (16 * 4)).map (16 * ·) = l := ⟨_, rfl⟩
            obtain ⟨kt, hkt⟩ : ∃ k, tl.length = k := ⟨_, rfl⟩
            obtain ⟨dl, hdl⟩ : ∃ l, whichN D9 4 = l := ⟨_, rfl⟩
            obtain ⟨kd, hkd⟩ : ∃ k, dl.length = k := ⟨_, rfl⟩
            have H4TL : Hid (kt ≤ 64) := hid (by rw [← hkt, ← htl, List.length_map]; exact whichN_len T9 _)
            have H4DL : Hid (kd ≤ 4) := hid (by rw [← hkd, ← hdl]; exact whichN_len D9 _)
            have HTL := hid htl
            have HNTL := hid hkt
            have HDL := hid hdl
            have HNDL := hid hkd
            clear htl hkt hdl hkd
            go_wp2_with (first | (go_at_call 33; with_reducible refine (hTags w _ q g 4 B T9 D9 (HA.out.h1) tl kt HTL.out HNTL.out).mono ?_; rintro e w13 ⟨B13, cb13, rfl, HR13, _, HX13, _⟩) | (go_at_call 33; with_reducible refine (hTags w _ r h 4 B T9 D9 (HB.out.h1.ext HX13.out) tl kt HTL.out HNTL.out).mono ?_; rintro e w14 ⟨B14, cb14, rfl, HR14, _, HX14, _⟩) | (go_at_call 32; with_reducible refine (tsame_ B13 B14 kt cb13 cb14 tl _ (HR13.out.ext HX14.out) HR14.out HNTL.out.symm (by have := H4TL.out; omega)).mono ?_; rintro e w15 ⟨rfl, hX15⟩; have HX15 := hid hX15; clear hX15) | (go_at_call 35; with_reducible refine (hDirty w _ q g 4 B T9 D9 (HA.out.h1.ext (HX13.out.trans (HX14.out.trans HX15.out))) dl kd HDL.out HNDL.out).mono ?_; rintro e w16 ⟨B16, cb16, rfl, HR16, _, HX16, _⟩) | (go_at_call 35; with_reducible refine (hDirty w _ r h 4 B T9 D9 (HB.out.h1.ext (HX13.out.trans (HX14.out.trans (HX15.out.trans HX16.out)))) dl kd HDL.out HNDL.out).mono ?_; rintro e w17 ⟨B17, cb17, rfl, HR17, _, HX17, _⟩) | (go_at_call 32; with_reducible refine (tsame_ B16 B17 kd cb16 cb17 dl _ (HR16.out.ext HX17.out) HR17.out HNDL.out.symm (by have := H4DL.out; omega)).mono ?_; rintro e w18 ⟨rfl, hX18⟩; have HX18 := hid hX18; clear hX18; have HX21 := hid (HX13.out.trans (HX14.out.trans (HX15.out.trans (HX16.out.trans (HX17.out.trans HX18.out)))))) | (go_at_call 30; with_reducible refine (swgone s q p _ _ _ _ _ _ (HA.out.h3.ext HX21.out)).mono ?_; rintro e Wz ⟨rfl, rfl⟩) | (go_at_call 30; with_reducible refine (swgone t r p _ _ _ _ _ _ (HB.out.h3.ext HX21.out)).mono ?_; rintro e Wz ⟨rfl, rfl⟩) | (go_at_call 26; with_reducible refine (swruns s q p _ _ _ _ _ _ (HA.out.h3.ext HX21.out)).mono ?_; rintro e Wz ⟨rfl, rfl⟩) | (go_at_call 26; with_reducible refine (swruns t r p _ _ _ _ _ _ (HB.out.h3.ext HX21.out)).mono ?_; rintro e Wz ⟨rfl, rfl⟩))
            go_ret
            exact ⟨rfl, HA.out.h1.2.1.trans HX21.out⟩
    · have hs3 : (300 : Int) < (nb : Int) := by omega
      have hp2 : ¬ (200 : Int) < (ps1.length : Int) := by omega
      go_wp2_with (go_at_call 39; refine (great_ A0 cap0 zs0 _ wl0 (HSL.out.ext HX3.out)).mono ?_; rintro e w4 ⟨b, rfl, hx4, hgr⟩; rcases b with _ | _)
      all_goals
        go_ret
        exact ⟨rfl, HX3.out.trans hx4⟩
  · have hp2 : (200 : Int) < (ps1.length : Int) := by omega
    go_wp2_with (go_at_call 39; refine (great_ A0 cap0 zs0 _ wl0 (HSL.out.ext HX3.out)).mono ?_; rintro e w4 ⟨b, rfl, hx4, hgr⟩; rcases b with _ | _)
    all_goals
      go_ret
      exact ⟨rfl, HX3.out.trans hx4⟩
end sweepSteps

end Go.Proofs.Ythamfkbopjagdaa
