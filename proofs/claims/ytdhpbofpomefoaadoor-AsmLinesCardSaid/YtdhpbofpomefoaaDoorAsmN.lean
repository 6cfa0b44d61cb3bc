/- Layer 16: values for the laws. -/
import Derived.Test.YtdhpbofpomefoaaDoorAsmI
import Derived.Test.YtdhpbofpomefoaaDoorAsmG
namespace Go.Proofs.YtdhpbofpomefoaaDoor
set_option linter.unusedSimpArgs false
set_option linter.unusedVariables false
open Go.RowKit

theorem nm_alpha : ∀ w ∈ nmL, ∀ c ∈ w, 97 ≤ c.toNat ∧ c.toNat ≤ 122 := by decide +kernel
theorem nameL_alpha (op : Int) : ∀ c ∈ nameL op, 97 ≤ c.toNat ∧ c.toNat ≤ 122 := by
  by_cases h : 0 ≤ op ∧ op ≤ 29
  · exact nm_alpha _ (nameL_mem h)
  · rw [nameL_no h]
    intro c hc
    cases hc
theorem nameL_ne {op : Int} (h : 0 ≤ op ∧ op ≤ 29) : nameL op ≠ [] := (nm_no _ (nameL_mem h)).2.2
theorem nameL_inj {i k : Int} (hi : 0 ≤ i ∧ i ≤ 29) (hk : 0 ≤ k ∧ k ≤ 29) (h : nameL i = nameL k) : i = k := by
  rw [← idxN_name hi, h, idxN_name hk]
theorem bs_eq (a b : List UInt8) : ((⟨a.toArray⟩ : ByteArray) == ⟨b.toArray⟩) = decide (a = b) := by
  have h0 : ((⟨a.toArray⟩ : ByteArray) == ⟨b.toArray⟩) = (a.toArray == b.toArray) := rfl
  rw [h0]
  by_cases h : a = b
  · subst h; simp
  · have : ¬ a.toArray = b.toArray := fun e => h (by simpa using congrArg Array.toList e)
    simp [h, this]
theorem bs_eqL (a b : List UInt8) : ((⟨a.toArray⟩ : ByteArray).toList == (⟨b.toArray⟩ : ByteArray).toList) = decide (a = b) := by
  rw [ByteArray.toList_eq, ByteArray.toList_eq]
  by_cases h : a = b
  · subst h; simp
  · simp [h]
/-- A name as bytes. -/
structure NmB (op : Int) (s : ByteArray) : Prop where
  al : ∀ (n : Nat) (h : n < s.size), 97 ≤ (s[n]'h).toNat ∧ (s[n]'h).toNat ≤ 122
  le : s.size ≤ 4
  e1 : (0 ≤ op ∧ op ≤ 29) → s.toList.isEmpty = false
  e2 : ¬ (0 ≤ op ∧ op ≤ 29) → s = ⟨#[]⟩
theorem nmB (op : Int) : NmB op ⟨(nameL op).toArray⟩ := by
  refine ⟨fun n h => ?_, by show (nameL op).toArray.size ≤ 4; rw [List.size_toArray]; exact nameL_len op, fun h => ?_, fun h => by rw [nameL_no h]⟩
  · rw [ba_at h]
    exact nameL_alpha op _ (List.getElem_mem _)
  · have h2 := nameL_ne h
    rw [empties, decide_eq_false]
    show ¬ (nameL op).toArray.size = 0
    rw [List.size_toArray]
    exact fun e => h2 (List.eq_nil_of_length_eq_zero e)
theorem wfu8' {n : Int} (h : (Lit.int .u8 n).wf = true) : 0 ≤ n ∧ n ≤ 255 := by
  simpa [Lit.wf, IntKind.min, IntKind.max, IntKind.signed, IntKind.bits] using h

end Go.Proofs.YtdhpbofpomefoaaDoor
