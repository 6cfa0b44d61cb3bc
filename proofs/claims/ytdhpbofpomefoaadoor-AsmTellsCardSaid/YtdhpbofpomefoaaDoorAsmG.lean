/- Layer 16: the document's number. -/
import Derived.Test.YtdhpbofpomefoaaDoorAsmF
namespace Go.Proofs.YtdhpbofpomefoaaDoor
set_option linter.unusedSimpArgs false
set_option linter.unusedVariables false
open Go.RowKit

def nmF (l : List UInt8) (i : Nat) : Int := (l.take i).foldl numStep 0
theorem nmF_zero (l : List UInt8) : nmF l 0 = 0 := rfl
theorem nmF_succ {l : List UInt8} {i : Nat} (h : i < l.length) : nmF l (i + 1) = numStep (nmF l i) l[i] := by
  unfold nmF
  rw [List.take_succ_eq_append_getElem h, List.foldl_append]
  rfl
theorem nmF_bd (l : List UInt8) : ∀ i, 0 ≤ nmF l i ∧ nmF l i < (10 : Int) ^ i
  | 0 => by rw [nmF_zero]; simp
  | i + 1 => by
    have ih := nmF_bd l i
    by_cases h : i < l.length
    · rw [nmF_succ h]
      unfold numStep
      have : (10 : Int) ^ (i + 1) = 10 ^ i * 10 := Int.pow_succ _ _
      split <;> omega
    · have e : nmF l (i + 1) = nmF l i := by unfold nmF; rw [List.take_of_length_le (by omega), List.take_of_length_le (by omega)]
      have : (10 : Int) ^ (i + 1) = 10 ^ i * 10 := Int.pow_succ _ _
      rw [e]
      omega
theorem nmF_seven (l : List UInt8) {i : Nat} (h : i ≤ 7) : 0 ≤ nmF l i ∧ nmF l i ≤ 9999999 := by
  have h1 := nmF_bd l i
  have h2 : (10 : Int) ^ i ≤ 10 ^ 7 := by
    have := Nat.pow_le_pow_right (n := 10) (by decide) h
    exact_mod_cast this
  have h3 : (10 : Int) ^ 7 = 10000000 := by decide
  omega
theorem numR_is (l : List UInt8) : numR l = if l.head? = some 45 then -(nmF l 7) else nmF l 7 := rfl
theorem ba_at {s : ByteArray} {k : Nat} (h : k < s.size) : s[k]'h = s.data.toList[k]'(by simpa using h) := by
  rfl
set_option maxRecDepth 100000 in
set_option maxHeartbeats 4000000 in
theorem rnumber_ (s : ByteArray) (w : World) (hsz : s.size ≤ 1000000) : Calls Tryd.prog 29 #[.string s] w fun e w' => e = .returned (.int .i64 (numR s.data.toList)) ∧ Ext w w' := by
  have hdl : s.data.toList.length = s.size := by show s.data.toList.length = s.data.size; simp
  have HDL := hid hdl
  clear hdl
  go_enter Tryd.func29, Tryd.ntmps29
  go_wp2
  go_loopw [3, 4] (fun n i wr => ∃ k : Nat, k ≤ 7 ∧ k ≤ s.size ∧ i = .int .i64 k ∧ n = .int .i64 (nmF s.data.toList k) ∧ Hid (Ext w wr)) (fun _ i _ => 7 - (intOf i).toNat)
  case atStart => exact ⟨0, by omega, Nat.zero_le _, rfl, by rw [nmF_zero], hid (Ext.refl _)⟩
  case round =>
    obtain ⟨k, hk, hks0, rfl, rfl, hx⟩ := hrel
    have HI0 : (0 : Int) ≤ (k : Int) := by omega
    obtain ⟨hn0, hn1⟩ := nmF_seven s.data.toList hk
    obtain ⟨nn, hnn⟩ : ∃ z, nmF s.data.toList k = z := ⟨_, rfl⟩
    have HNN := hid hnn
    rw [hnn] at hn0 hn1 ⊢
    clear hnn
    by_cases hlt : k < s.size
    · have hlti : (k : Int) < (s.size : Int) := by omega
      by_cases h7 : k < 7
      · have h7i : (k : Int) < 7 := by omega
        have HST : Hid (nmF s.data.toList (k + 1) = numStep nn (s[k]'hlt)) := hid (by rw [nmF_succ (by rw [HDL.out]; exact hlt), HNN.out]; rfl)
        have hxb : (s[k]'hlt).toNat < 256 := UInt8.toNat_lt _
        obtain ⟨x, hxx⟩ : ∃ x, (s[k]'hlt).toNat = x := ⟨_, rfl⟩
        rw [hxx] at hxb
        by_cases d1 : 48 ≤ x
        · have d1i : (48 : Int) ≤ (x : Int) := by omega
          by_cases d2 : x ≤ 57
          · have d2i : (x : Int) ≤ 57 := by omega
            have HS2 : Hid (nmF s.data.toList (k + 1) = 10 * nn + (x : Int) - 48) := hid (by rw [HST.out]; unfold numStep; rw [if_pos (by omega), hxx])
            go_wp2
            go_roundw
            case rel => exact ⟨k + 1, by omega, by omega, by go_num, by rw [HS2.out], hx⟩
            case measure => simp [intOf]; omega
          · have d2i : ¬ (x : Int) ≤ 57 := by omega
            have HS2 : Hid (nmF s.data.toList (k + 1) = nn) := hid (by rw [HST.out]; unfold numStep; rw [if_neg (by omega)])
            go_wp2
            go_roundw
            case rel => exact ⟨k + 1, by omega, by omega, by go_num, by rw [HS2.out], hx⟩
            case measure => simp [intOf]; omega
        · have d1i : ¬ (48 : Int) ≤ (x : Int) := by omega
          have HS2 : Hid (nmF s.data.toList (k + 1) = nn) := hid (by rw [HST.out]; unfold numStep; rw [if_neg (by omega)])
          go_wp2
          go_roundw
          case rel => exact ⟨k + 1, by omega, by omega, by go_num, by rw [HS2.out], hx⟩
          case measure => simp [intOf]; omega
      · have h7i : ¬ (k : Int) < 7 := by omega
        obtain rfl : k = 7 := by omega
        have HNR : Hid (nmF s.data.toList 7 = nn) := hid (HNN.out)
        by_cases hz : s.size = 0
        · have hzi : ¬ (0 : Int) < (s.size : Int) := by omega
          have hres : numR s.data.toList = nn := by
            rw [numR_is, HNR.out]
            have : s.data.toList = [] := List.eq_nil_of_length_eq_zero (by rw [HDL.out]; exact hz)
            rw [this, if_neg (by simp)]
          have HRS := hid hres
          clear hres
          go_wp2
          go_ret
          exact ⟨by rw [HRS.out]; rfl, hx.out⟩
        · have hzi : (0 : Int) < (s.size : Int) := by omega
          have hz0 : 0 < s.size := by omega
          have hhd : s.data.toList.head? = some (s[0]'hz0) := by
            rw [List.head?_eq_getElem?, List.getElem?_eq_getElem (by rw [HDL.out]; exact hz0)]
            rfl
          by_cases h45 : s[0]'hz0 = 45
          · have q0 : (((s[0]'hz0).toNat : Int) == 45) = true := by rw [h45]; rfl
            have HRS : Hid (numR s.data.toList = -nn) := hid (by rw [numR_is, hhd, h45, if_pos rfl, HNR.out])
            clear hhd h45
            go_wp2
            go_ret
            exact ⟨by rw [HRS.out]; rfl, hx.out⟩
          · have q0 : (((s[0]'hz0).toNat : Int) == 45) = false := by
              have : ¬ (s[0]'hz0).toNat = 45 := fun e => h45 (UInt8.toNat.inj e)
              simpa using (fun e => this (by omega))
            have HRS : Hid (numR s.data.toList = nn) := hid (by rw [numR_is, hhd, if_neg (fun e => h45 (Option.some.inj e)), HNR.out])
            clear hhd h45
            go_wp2
            go_ret
            exact ⟨by rw [HRS.out]; rfl, hx.out⟩
    · have hlti : ¬ (k : Int) < (s.size : Int) := by omega
      obtain rfl : k = s.size := by omega
      have HNR : Hid (nmF s.data.toList 7 = nn) := hid (by rw [← HNN.out]; unfold nmF; rw [List.take_of_length_le (by rw [HDL.out]; omega), List.take_of_length_le (by rw [HDL.out]; exact Nat.le_refl _)])
      by_cases hz : s.size = 0
      · have hzi : ¬ (0 : Int) < (s.size : Int) := by omega
        have hres : numR s.data.toList = nn := by
          rw [numR_is, HNR.out]
          have : s.data.toList = [] := List.eq_nil_of_length_eq_zero (by rw [HDL.out]; exact hz)
          rw [this, if_neg (by simp)]
        have HRS := hid hres
        clear hres
        go_wp2
        go_ret
        exact ⟨by rw [HRS.out]; rfl, hx.out⟩
      · have hzi : (0 : Int) < (s.size : Int) := by omega
        have hz0 : 0 < s.size := by omega
        have hhd : s.data.toList.head? = some (s[0]'hz0) := by
          rw [List.head?_eq_getElem?, List.getElem?_eq_getElem (by rw [HDL.out]; exact hz0)]
          rfl
        by_cases h45 : s[0]'hz0 = 45
        · have q0 : (((s[0]'hz0).toNat : Int) == 45) = true := by rw [h45]; rfl
          have HRS : Hid (numR s.data.toList = -nn) := hid (by rw [numR_is, hhd, h45, if_pos rfl, HNR.out])
          clear hhd h45
          go_wp2
          go_ret
          exact ⟨by rw [HRS.out]; rfl, hx.out⟩
        · have q0 : (((s[0]'hz0).toNat : Int) == 45) = false := by
            have : ¬ (s[0]'hz0).toNat = 45 := fun e => h45 (UInt8.toNat.inj e)
            simpa using (fun e => this (by omega))
          have HRS : Hid (numR s.data.toList = nn) := hid (by rw [numR_is, hhd, if_neg (fun e => h45 (Option.some.inj e)), HNR.out])
          clear hhd h45
          go_wp2
          go_ret
          exact ⟨by rw [HRS.out]; rfl, hx.out⟩

end Go.Proofs.YtdhpbofpomefoaaDoor
