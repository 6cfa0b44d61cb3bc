/- Layer 6: the document's over. -/
import Derived.Test.YtlapemeoffpmgaaCloB
namespace Go.Proofs.Ytlapemeoffpmgaa
set_option linter.unusedSimpArgs false
set_option linter.unusedVariables false
open Go.RowKit

/-- Is an open one's authority one over a type? -/
def ovC (p t : Int) (d : Cap) : Bool := decide (2 ≤ t) && decide (t ≤ 255) && authC d p t
theorem ovC_eq (p t : Int) (d : Cap) : ovC p t d = (decide (2 ≤ t) && decide (t ≤ 255) && (hasR d.perms p && inR d t 1)) := by
  rw [ovC, authC, hasR_has, inR_in]
set_option maxRecDepth 100000 in
set_option maxHeartbeats 4000000 in
theorem rcover_ (A : Option Addr) (n ca : Nat) (O : List Cap) (t p : Int) (w : World) (hA : RdF Cap.cells w A O) (hn : O.length = n) (hb : n ≤ 1000000000) : Calls Try.prog 27 #[.slice A n ca, .int .i64 t, .int .i64 p] w fun e w' => e = .returned (.bool (O.any (ovC p t))) ∧ Ext w w' := by
  subst hn
  have HA := hid hA
  clear hA
  go_enter Try.func27, Try.ntmps27
  go_wp2
  go_loopw [7] (fun i wr => ∃ k : Nat, k ≤ O.length ∧ i = .int .i64 k ∧ Hid ((O.take k).any (ovC p t) = false) ∧ Hid (Ext w wr)) (fun i _ => O.length - (intOf i).toNat)
  case atStart => exact ⟨0, Nat.zero_le _, rfl, hid (by first | rfl | simp), hid (Ext.refl _)⟩
  case round =>
    obtain ⟨k, hk, rfl, HN, HX⟩ := hrel
    by_cases hlt : k < O.length
    · have hk1 : (k : Int) < (O.length : Int) := by omega
      have hk0 : (0 : Int) ≤ (k : Int) := by omega
      obtain ⟨d, hd⟩ : ∃ d, O[k] = d := ⟨_, rfl⟩
      have HT : Hid ((O.take (k + 1)).any (ovC p t) = ovC p t d) := hid (by rw [List.take_succ_eq_append_getElem hlt, List.any_append, HN.out, Bool.false_or, hd]; simp)
      have HM : Hid (d ∈ O) := hid (by rw [← hd]; exact List.getElem_mem _)
      obtain ⟨b', o', rfl, hb1, c0, c1, c2, c3, c4, c5⟩ := (HA.out.ext HX.out).cap hlt d hd
      clear hd
      by_cases h2 : 2 ≤ t
      · by_cases h3 : t ≤ 255
        · cases hh : hasR d.perms p with
          | false =>
            have hv : ovC p t d = false := by rw [ovC_eq]; simp [*]
            rw [hv] at HT
            clear hv
            go_wp2_with fail
            refine (rhas _ _ _).mono ?_; rintro e W1 ⟨he, rfl⟩
            rw [hh] at he
            subst he
            clear hh
            go_wp2
            go_roundw
            case rel => exact ⟨k + 1, by omega, by go_num, HT, HX⟩
            case measure => simp [intOf]; omega
          | true =>
            cases hi : inR d t 1 with
            | false =>
              have hv : ovC p t d = false := by rw [ovC_eq]; simp [*]
              rw [hv] at HT
              clear hv
              go_wp2_with fail
              refine (rhas _ _ _).mono ?_; rintro e W1 ⟨he, rfl⟩
              rw [hh] at he
              subst he
              clear hh
              go_wp2_with fail
              refine (rcapIn _ _ _ _ _ _ _ _ _).mono ?_; rintro e W1 ⟨he, hy⟩
              replace he := he.trans (congrArg (fun z => Ending.returned (Value.bool z)) hi)
              subst he
              clear hi
              go_wp2
              go_roundw
              case rel => exact ⟨k + 1, by omega, by go_num, HT, hid (HX.out.trans hy)⟩
              case measure => simp [intOf]; omega
            | true =>
              have hv : O.any (ovC p t) = true := List.any_eq_true.2 ⟨d, HM.out, by rw [ovC_eq]; simp [*]⟩
              have HV := hid hv
              clear hv
              go_wp2_with fail
              refine (rhas _ _ _).mono ?_; rintro e W1 ⟨he, rfl⟩
              rw [hh] at he
              subst he
              clear hh
              go_wp2_with fail
              refine (rcapIn _ _ _ _ _ _ _ _ _).mono ?_; rintro e W1 ⟨he, hy⟩
              replace he := he.trans (congrArg (fun z => Ending.returned (Value.bool z)) hi)
              subst he
              clear hi
              go_wp2
              go_ret
              exact ⟨by rw [HV.out]; rfl, HX.out.trans hy⟩
        · have hv : ovC p t d = false := by rw [ovC_eq]; simp [*]
          rw [hv] at HT
          clear hv
          go_wp2
          go_roundw
          case rel => exact ⟨k + 1, by omega, by go_num, HT, HX⟩
          case measure => simp [intOf]; omega
      · have hv : ovC p t d = false := by rw [ovC_eq]; simp [*]
        rw [hv] at HT
        clear hv
        go_wp2
        go_roundw
        case rel => exact ⟨k + 1, by omega, by go_num, HT, HX⟩
        case measure => simp [intOf]; omega
    · obtain rfl : k = O.length := by omega
      have hv : O.any (ovC p t) = false := by have := HN.out; rwa [List.take_length] at this
      have HV := hid hv
      clear hv
      go_wp2
      go_ret
      exact ⟨by rw [HV.out]; rfl, HX.out⟩

end Go.Proofs.Ytlapemeoffpmgaa
