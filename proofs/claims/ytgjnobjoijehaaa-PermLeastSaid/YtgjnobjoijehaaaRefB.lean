/- Layer 1: the document's own set of numbers. -/
import Derived.Test.YtgjnobjoijehaaaPermB
namespace Go.Proofs.Ytgjnobjoijehaaa
set_option linter.unusedSimpArgs false
set_option linter.unusedVariables false
open Go.RowKit

def stepR (i : Nat) (o : Nat) (z : Int) : Nat := if rightB z && bitB z i then o ||| 2 ^ i else o
def innerR (zs : List Int) (o : Nat) (i : Nat) : Nat := zs.foldl (stepR i) o
def ofR (zs : List Int) (i : Nat) : Nat := (List.range i).foldl (innerR zs) 0

theorem or_pow : ∀ i : Nat, i < 7 → ∀ o : Nat, o < 128 → (o ||| 2 ^ i) < 128 := by decide +kernel
theorem add_pow : ∀ i : Nat, i < 7 → ∀ o : Nat, o < 128 → bitB (o : Int) i = false → wrap64 ((o : Int) + wrap64 (2 ^ i)) = ((o ||| 2 ^ i : Nat) : Int) := by decide +kernel
theorem has_pow : ∀ i : Nat, i < 7 → ∀ o : Nat, o < 128 → bitB (o : Int) i = true → o ||| 2 ^ i = o := by decide +kernel
theorem stepR_lt {i o : Nat} {z : Int} (hi : i < 7) (ho : o < 128) : stepR i o z < 128 := by
  unfold stepR
  split
  · exact or_pow i hi o ho
  · exact ho
theorem innerR_lt {i : Nat} (hi : i < 7) (zs : List Int) : ∀ o : Nat, o < 128 → innerR zs o i < 128 := by
  induction zs with
  | nil => exact fun o h => h
  | cons z zs ih => exact fun o h => ih _ (stepR_lt hi h)
theorem innerR_take {zs : List Int} {k : Nat} (h : k < zs.length) (o i : Nat) : innerR (zs.take (k + 1)) o i = stepR i (innerR (zs.take k) o i) zs[k] := by
  rw [innerR, innerR, List.take_succ_eq_append_getElem h, List.foldl_append]; rfl
theorem ofR_succ (zs : List Int) (i : Nat) : ofR zs (i + 1) = innerR zs (ofR zs i) i := by
  rw [ofR, ofR, List.range_succ, List.foldl_append]; rfl
theorem ofR_lt (zs : List Int) : ∀ i, i ≤ 7 → ofR zs i < 128
  | 0, _ => by show (0 : Nat) < 128; decide
  | i + 1, h => by rw [ofR_succ]; exact innerR_lt (by omega) zs _ (ofR_lt zs i (by omega))

set_option maxHeartbeats 1000000 in
theorem rof (A : Option Addr) (cap : Nat) (zs : List Int) (w : World) (h : SlAt w A (zs.map (Value.int .i64))) (hl : zs.length ≤ maxLen) :
    Calls Try.prog 22 #[.slice A zs.length cap] w fun e w' => e = .returned (.int .i64 (ofR zs 7 : Int)) ∧ w = w' := by
  unfold maxLen at hl
  go_enter Try.func22, Try.ntmps22
  go_wp2
  go_loop [3, 4] (fun o i => ∃ k : Nat, k ≤ 7 ∧ i = .int .i64 k ∧ o = .int .i64 (ofR zs k : Int)) (fun _ i => 7 - (intOf i).toNat)
  case atStart => exact ⟨0, Nat.zero_le _, rfl, rfl⟩
  case round =>
    obtain ⟨i, hi, rfl, rfl⟩ := hrel
    by_cases hlt : i < 7
    · have hb0 := ofR_lt zs i (by omega)
      have HS := hid (ofR_succ zs i)
      generalize ofR zs i = o at *
      go_wp2
      go_loop [3, 5] (fun s j => ∃ k : Nat, k ≤ zs.length ∧ j = .int .i64 k ∧ s = .int .i64 (innerR (zs.take k) o i : Int)) (fun _ j => zs.length - (intOf j).toNat)
      case atStart => exact ⟨0, Nat.zero_le _, rfl, rfl⟩
      case round =>
        obtain ⟨k, hk, rfl, rfl⟩ := hrel
        by_cases hkl : k < zs.length
        · obtain ⟨b, of, rfl, hb, hc⟩ := h (by simp; omega)
          have hc1 := hc k (by simpa using hkl)
          simp only [List.getElem_map] at hc1
          clear hc h
          have hin := innerR_lt (i := i) hlt (zs.take k) o hb0
          have HT := hid (innerR_take hkl o i)
          generalize innerR (zs.take k) o i = p at *
          have HA := hid (add_pow i hlt p hin)
          have HB := hid (has_pow i hlt p hin)
          go_wp2_with (first
            | (go_at_call 14; refine (rright _ _).mono ?_; rintro e w' ⟨rfl, rfl⟩)
            | (go_at_call 24; refine (rbit _ i (by omega) _).mono ?_; rintro e w' ⟨rfl, rfl⟩))
          all_goals
            go_round
            case rel => exact ⟨k + 1, by omega, by go_num, by rw [HT.out]; have HA := HA.out; have HB := HB.out; simp_all [stepR]⟩
            case measure => simp [intOf]; omega
        · obtain rfl : k = zs.length := by omega
          rw [List.take_length]
          go_wp2
          go_round
          case rel => exact ⟨i + 1, by omega, by go_num, by rw [HS.out]⟩
          case measure => simp [intOf]; omega
    · obtain rfl : i = 7 := by omega
      go_wp2
      go_ret
      exact ⟨rfl, rfl⟩
end Go.Proofs.Ytgjnobjoijehaaa
