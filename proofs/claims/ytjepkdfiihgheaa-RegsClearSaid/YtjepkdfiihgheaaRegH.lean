/- Layer 18: the document has registers cleared. -/
import Derived.Test.YtjepkdfiihgheaaRegE
namespace Go.Proofs.Ytjepkdfiihgheaa
set_option linter.unusedSimpArgs false
set_option linter.unusedVariables false
open Go.RowKit

def cutL (k : Nat) (L : Nat → Cap) (f t : Int) : Nat → Cap := fun i => if i < k ∧ f ≤ (i : Int) ∧ (i : Int) < t then nullC else L i
theorem cutL_yes {k : Nat} {L : Nat → Cap} {f t : Int} (h : f ≤ (k : Int) ∧ (k : Int) < t) : upd (cutL k L f t) k nullC = cutL (k + 1) L f t := by
  funext i
  unfold upd cutL
  by_cases e : i = k
  · subst e; rw [if_pos rfl, if_pos ⟨by omega, h.1, h.2⟩]
  · rw [if_neg e]
    by_cases h : i < k ∧ f ≤ (i : Int) ∧ (i : Int) < t
    · rw [if_pos h, if_pos ⟨by omega, h.2⟩]
    · rw [if_neg h, if_neg (by omega)]
theorem cutL_no {k : Nat} {L : Nat → Cap} {f t : Int} (h : ¬ (f ≤ (k : Int) ∧ (k : Int) < t)) : cutL k L f t = cutL (k + 1) L f t := by
  funext i
  unfold cutL
  by_cases h : i < k ∧ f ≤ (i : Int) ∧ (i : Int) < t
  · rw [if_pos h, if_pos ⟨by omega, h.2⟩]
  · rw [if_neg h, if_neg (by rintro ⟨h1, h2⟩; by_cases e : i = k; (subst e; omega); omega)]
set_option maxHeartbeats 4000000 in
theorem rclear (q : Nat) (L : Nat → Cap) (x y : Int) (w : World) (h : Fil w q L) :
    Calls Try.prog 13 #[.pointer (some ⟨q, 0, none⟩), .int .i64 x, .int .i64 y] w fun e w' => (∃ v, e = .returned v) ∧ Fil w' q (clrL L x y) ∧ Only (· = q) w w' := by
  have HS : Hid (Fil w q (cutL 0 L x y)) := hid (Caps.congr h (fun i hi => by unfold cutL; rw [if_neg (by omega)]))
  clear h
  go_enter Try.func13, Try.ntmps13
  go_wp2
  go_loopw [6] (fun i wr => ∃ k : Nat, k ≤ 8 ∧ i = .int .i64 k ∧ Hid (Fil wr q (cutL k L x y)) ∧ Hid (Only (· = q) w wr)) (fun i _ => 8 - (intOf i).toNat)
  case atStart => exact ⟨0, Nat.zero_le _, rfl, HS, hid (Only.refl _ _)⟩
  case round =>
    obtain ⟨k, hk, rfl, hF, hO⟩ := hrel
    by_cases hlt : k < 8
    · by_cases hc : x ≤ (k : Int)
      · by_cases hc2 : (k : Int) < y
        · have HR := hF.out.at_ hlt
          obtain ⟨hq, d0, d1, d2, d3, d4, d5⟩ := HR.six
          obtain ⟨f0, f1, f2, f3, f4, f5⟩ := HR.frees
          have HP := Fil.put hF.out hlt nullC
          rw [cutL_yes ⟨hc, hc2⟩] at HP
          simp only [Cap.cells, nullC, World.setCells, Nat.add_assoc, Nat.reduceAdd] at HP
          have HP := hid HP
          have hk0 : (0 : Int) ≤ (k : Int) := by omega
          have hk1 : (k : Int) < 8 := by omega
          clear HR
          go_wp2
          go_roundw
          case rel => exact ⟨k + 1, by omega, by go_num, HP, hid (hO.out.trans' (by repeat (first | (with_reducible exact Only.refl _ _) | (with_reducible refine Only.drew ?_) | (with_reducible refine Only.grow ?_ _) | (with_reducible refine Only.alloc ?_ _) | (with_reducible assumption) | ((with_reducible refine Only.setCell ?_ ?_ _); rotate_left; exact .inl rfl) | (with_reducible exact Only.ofExt (by assumption)) | ((with_reducible refine Only.setCells ?_ _ _ ?_); exact .inl rfl))))⟩
          case measure => simp [intOf]; omega
        · have HP := hF.out
          rw [cutL_no (by omega)] at HP
          have HP := hid HP
          go_wp2
          go_roundw
          case rel => exact ⟨k + 1, by omega, by go_num, HP, hO⟩
          case measure => simp [intOf]; omega
      · have HP := hF.out
        rw [cutL_no (by omega)] at HP
        have HP := hid HP
        go_wp2
        go_roundw
        case rel => exact ⟨k + 1, by omega, by go_num, HP, hO⟩
        case measure => simp [intOf]; omega
    · obtain rfl : k = 8 := by omega
      go_wp2
      go_end0
      exact ⟨⟨_, rfl⟩, Caps.congr hF.out (fun i hi => by unfold cutL clrL; simp [hi]), hO.out⟩



end Go.Proofs.Ytjepkdfiihgheaa
