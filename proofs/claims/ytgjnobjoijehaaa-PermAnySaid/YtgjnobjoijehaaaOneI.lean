/- Layer 1: the permission of a letter. -/
import Derived.Test.YtgjnobjoijehaaaIndex
import Derived.Laws.Runes
namespace Go.Proofs.Ytgjnobjoijehaaa
set_option linter.unusedSimpArgs false
set_option linter.unusedVariables false
open Go.RowKit


theorem index_any (r : Int) (h0 : 128 ≤ r) (h1 : r ≤ 1114111) (w : World) :
    Calls Try.prog 28 #[.string letters, .int .i32 r] w fun e w' => e = .returned (.int .i64 (-1)) ∧ Ext w w' := by
  by_cases he : r = 65533
  · subst he
    exact indexErr w
  · have hne : (r == 65533) = false := by simpa using he
    cases hv : Lib.validRune r with
    | false => exact indexBad r h0 hne hv w
    | true =>
      have hv2 : Utf8.valid r = true := by
        simp only [Lib.validRune, decide_eq_true_eq] at hv
        simp only [Utf8.valid, Bool.or_eq_true, Bool.and_eq_true, decide_eq_true_eq]
        omega
      obtain ⟨f1, f2, f3⟩ := encode_facts r hv2 h0
      refine indexGood r h0 hne hv (Utf8.encode r) ((Utf8.encode r).size - 1) (by omega) (by omega) (f3 (by omega)) (fun w => run_convert_int_string w _ _ _ _ (by rw [Try.underlying21]; rfl) Try.underlying9) w
def permB (b : UInt8) : Int := if Lib.indexByte letters.data.toList b < 0 then 0 else wrap64 (2 ^ (Lib.indexByte letters.data.toList b).toNat)
def permR (r : Int) : Int := if r < 128 then permB r.toNat.toUInt8 else 0
theorem idx_cases : ∀ b : Fin 128, Lib.indexByte letters.data.toList b.val.toUInt8 = -1 ∨ Lib.indexByte letters.data.toList b.val.toUInt8 = 0 ∨ Lib.indexByte letters.data.toList b.val.toUInt8 = 1 ∨ Lib.indexByte letters.data.toList b.val.toUInt8 = 2 ∨ Lib.indexByte letters.data.toList b.val.toUInt8 = 3 ∨ Lib.indexByte letters.data.toList b.val.toUInt8 = 4 ∨ Lib.indexByte letters.data.toList b.val.toUInt8 = 5 ∨ Lib.indexByte letters.data.toList b.val.toUInt8 = 6 := by decide +kernel
set_option maxHeartbeats 1000000 in
theorem permission_ (r : Int) (w : World) (h0 : 0 ≤ r) (h1 : r ≤ 1114111) :
    Calls Try.prog 23 #[.int .i32 r] w fun e w' => e = .returned (.int .i64 (permR r)) ∧ Ext w w' := by
  by_cases h : r < 128
  · have hc := idx_cases ⟨r.toNat, by omega⟩
    simp only at hc
    rcases hc with hi | hi | hi | hi | hi | hi | hi | hi
    · skip
      have hv : permR r = 0 := by unfold permR permB; rw [if_pos h, hi]; decide +kernel
      rw [hv]
      have HI := hid hi
      clear hi hv
      go_enter Try.func23, Try.ntmps23
      go_wp2_with (go_at_call 28; refine (Try.strings_IndexRune_ascii letters r _ h0 h).mono ?_; rw [HI.out]; rintro e w' ⟨rfl, rfl⟩)
      go_ret
      exact ⟨rfl, Ext.refl _⟩
    · skip
      have hv : permR r = 1 := by unfold permR permB; rw [if_pos h, hi]; decide +kernel
      rw [hv]
      have HI := hid hi
      clear hi hv
      go_enter Try.func23, Try.ntmps23
      go_wp2_with (go_at_call 28; refine (Try.strings_IndexRune_ascii letters r _ h0 h).mono ?_; rw [HI.out]; rintro e w' ⟨rfl, rfl⟩)
      go_ret
      exact ⟨rfl, Ext.refl _⟩
    · skip
      have hv : permR r = 2 := by unfold permR permB; rw [if_pos h, hi]; decide +kernel
      rw [hv]
      have HI := hid hi
      clear hi hv
      go_enter Try.func23, Try.ntmps23
      go_wp2_with (go_at_call 28; refine (Try.strings_IndexRune_ascii letters r _ h0 h).mono ?_; rw [HI.out]; rintro e w' ⟨rfl, rfl⟩)
      go_ret
      exact ⟨rfl, Ext.refl _⟩
    · skip
      have hv : permR r = 4 := by unfold permR permB; rw [if_pos h, hi]; decide +kernel
      rw [hv]
      have HI := hid hi
      clear hi hv
      go_enter Try.func23, Try.ntmps23
      go_wp2_with (go_at_call 28; refine (Try.strings_IndexRune_ascii letters r _ h0 h).mono ?_; rw [HI.out]; rintro e w' ⟨rfl, rfl⟩)
      go_ret
      exact ⟨rfl, Ext.refl _⟩
    · skip
      have hv : permR r = 8 := by unfold permR permB; rw [if_pos h, hi]; decide +kernel
      rw [hv]
      have HI := hid hi
      clear hi hv
      go_enter Try.func23, Try.ntmps23
      go_wp2_with (go_at_call 28; refine (Try.strings_IndexRune_ascii letters r _ h0 h).mono ?_; rw [HI.out]; rintro e w' ⟨rfl, rfl⟩)
      go_ret
      exact ⟨rfl, Ext.refl _⟩
    · skip
      have hv : permR r = 16 := by unfold permR permB; rw [if_pos h, hi]; decide +kernel
      rw [hv]
      have HI := hid hi
      clear hi hv
      go_enter Try.func23, Try.ntmps23
      go_wp2_with (go_at_call 28; refine (Try.strings_IndexRune_ascii letters r _ h0 h).mono ?_; rw [HI.out]; rintro e w' ⟨rfl, rfl⟩)
      go_ret
      exact ⟨rfl, Ext.refl _⟩
    · skip
      have hv : permR r = 32 := by unfold permR permB; rw [if_pos h, hi]; decide +kernel
      rw [hv]
      have HI := hid hi
      clear hi hv
      go_enter Try.func23, Try.ntmps23
      go_wp2_with (go_at_call 28; refine (Try.strings_IndexRune_ascii letters r _ h0 h).mono ?_; rw [HI.out]; rintro e w' ⟨rfl, rfl⟩)
      go_ret
      exact ⟨rfl, Ext.refl _⟩
    · skip
      have hv : permR r = 64 := by unfold permR permB; rw [if_pos h, hi]; decide +kernel
      rw [hv]
      have HI := hid hi
      clear hi hv
      go_enter Try.func23, Try.ntmps23
      go_wp2_with (go_at_call 28; refine (Try.strings_IndexRune_ascii letters r _ h0 h).mono ?_; rw [HI.out]; rintro e w' ⟨rfl, rfl⟩)
      go_ret
      exact ⟨rfl, Ext.refl _⟩
  · have hv : permR r = 0 := if_neg h
    rw [hv]
    clear hv
    go_enter Try.func23, Try.ntmps23
    go_wp2_with (go_at_call 28; refine (index_any r (by omega) h1 _).mono ?_; rintro e w' ⟨rfl, hy⟩)
    go_ret
    exact ⟨rfl, hy⟩


end Go.Proofs.Ytgjnobjoijehaaa
