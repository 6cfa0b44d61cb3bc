/- Layer 1: the document's Parse; Of of some. -/
import Derived.Test.YtgjnobjoijehaaaOneR
namespace Go.Proofs.Ytgjnobjoijehaaa
set_option linter.unusedSimpArgs false
set_option linter.unusedVariables false
open Go.RowKit


theorem parse_none {s : ByteArray} (h : ∀ q : Nat, q < 128 → eqT (q : Int) s = false) : parseV s = .tuple #[.int .i64 0, .bool false] := by
  unfold parseV
  cases hf : findP s with
  | none => rfl
  | some q =>
    have h1 := List.find?_some hf
    have h2 : q < 128 := by simpa using List.mem_of_find?_eq_some hf
    rw [h q h2] at h1
    cases h1
theorem parse_form (s : ByteArray) : parseV s = .tuple #[.int .i64 0, .bool false] ∨ ∃ n : Int, (0 ≤ n ∧ n ≤ 127) ∧ eqT n s = true ∧ parseV s = .tuple #[.int .i64 n, .bool true] := by
  cases hf : findP s with
  | none => exact .inl (by unfold parseV; rw [hf])
  | some q =>
    have h1 := List.find?_some hf
    have h2 : q < 128 := by simpa using List.mem_of_find?_eq_some hf
    exact .inr ⟨q, by omega, h1, parse_yes (by omega) h1⟩
set_option maxHeartbeats 2000000 in
theorem rparse (s : ByteArray) (w : World) :
    Calls Try.prog 12 #[.string s] w fun e w' => e = .returned (parseV s) ∧ w = w' := by
  go_enter Try.func12, Try.ntmps12
  go_wp2
  go_loop [4] (fun v => ∃ k : Nat, k ≤ 128 ∧ v = .int .i64 k ∧ Hid (∀ j : Nat, j < k → eqT (j : Int) s = false)) (fun v => 128 - (intOf v).toNat)
  case atStart => exact ⟨0, by omega, rfl, hid fun j hj => absurd hj (by omega)⟩
  case round =>
    obtain ⟨k, hk, rfl, hall⟩ := hrel
    by_cases hlt : k < 128
    · have hlt' : (k : Int) ≤ 127 := by omega
      have hk0 : (0 : Int) ≤ (k : Int) := by omega
      have HE := hid (eqT_list (k : Int) s)
      cases hE : eqT (k : Int) s with
      | true =>
        have HV := hid (parse_yes (s := s) (p := (k : Int)) ⟨by omega, by omega⟩ hE)
        rw [hE] at HE
        have hee := HE.out
        clear hE HE
        go_wp2_with (go_at_call 18; refine (rtext _ _).mono ?_; rintro e w' ⟨rfl, rfl⟩)
        refine bodyPost_ret (v := parseV s) (by rw [HV.out]; simp [results, Try.results12, go_sem]) rfl ⟨rfl, rfl⟩
      | false =>
        have HA := hid (upto_snoc (p := fun j => eqT (j : Int) s = false) hall.out hE)
        rw [hE] at HE
        have hee := HE.out
        clear hE HE hall
        go_wp2_with (go_at_call 18; refine (rtext _ _).mono ?_; rintro e w' ⟨rfl, rfl⟩)
        go_round
        case rel => exact ⟨k + 1, by omega, by go_num, HA⟩
        case measure => simp [intOf]; omega
    · obtain rfl : k = 128 := by omega
      have HV := hid (parse_none hall.out)
      clear hall
      go_wp2
      refine bodyPost_ret (v := parseV s) (by rw [HV.out]; simp [results, Try.results12, go_sem]) rfl ⟨rfl, rfl⟩


theorem of_pair (x y : Int) (w : World) (q : Nat) (hq : q = w.heap.size) :
    Calls Try.prog 21 #[.slice (some ⟨q, 0, none⟩) 2 2] (w.alloc (.cells #[.int .i64 x, .int .i64 y] 3)) fun e w' => e = .returned (.int .i64 (ofL [x, y] 0)) ∧ w.alloc (.cells #[.int .i64 x, .int .i64 y] 3) = w' :=
  of_any _ _ [x, y] _ (pair_slAt _ _ _ _ hq) (by simp [maxLen])
theorem of_three (x y z : Int) (w : World) (q : Nat) (hq : q = w.heap.size) :
    Calls Try.prog 21 #[.slice (some ⟨q, 0, none⟩) 3 3] (w.alloc (.cells #[.int .i64 x, .int .i64 y, .int .i64 z] 3)) fun e w' => e = .returned (.int .i64 (ofL [x, y, z] 0)) ∧ w.alloc (.cells #[.int .i64 x, .int .i64 y, .int .i64 z] 3) = w' :=
  of_any _ _ [x, y, z] _ (by subst hq; exact slAtNew _ _ _) (by simp [maxLen])
theorem of_four (x y z u : Int) (w : World) (q : Nat) (hq : q = w.heap.size) :
    Calls Try.prog 21 #[.slice (some ⟨q, 0, none⟩) 4 4] (w.alloc (.cells #[.int .i64 x, .int .i64 y, .int .i64 z, .int .i64 u] 3)) fun e w' => e = .returned (.int .i64 (ofL [x, y, z, u] 0)) ∧ w.alloc (.cells #[.int .i64 x, .int .i64 y, .int .i64 z, .int .i64 u] 3) = w' :=
  of_any _ _ [x, y, z, u] _ (by subst hq; exact slAtNew _ _ _) (by simp [maxLen])

end Go.Proofs.Ytgjnobjoijehaaa
