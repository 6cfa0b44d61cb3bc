/- Layer 16: the document's Read: values. -/
import Derived.Test.YtdhpbofpomefoaaDoorAsmM0
import Derived.Test.YtdhpbofpomefoaaDoorAsmK
namespace Go.Proofs.YtdhpbofpomefoaaDoor
set_option linter.unusedSimpArgs false
set_option linter.unusedVariables false
open Go.RowKit

/-- Where the document's Read stands. -/
def rst (S : List UInt8) (k fr : Nat) (acc : List In) : Prop := fr ≤ k ∧ (10 : UInt8) ∉ (S.drop fr).take (k - fr) ∧ ∀ m, S.length - fr < m → readL numR S = readN numR m acc (S.drop fr)
theorem rst_start (S : List UInt8) : rst S 0 0 [] := ⟨Nat.le_refl _, by simp, fun m hm => by
  unfold readL
  rw [List.drop_zero]
  exact readN_fuel numR _ _ _ _ (by omega) (by omega)⟩
theorem rst_more {S : List UInt8} {k fr : Nat} {acc : List In} (h : rst S k fr acc) (hk : k < S.length) (hc : ¬ S[k] = 10) : rst S (k + 1) fr acc := by
  obtain ⟨h1, h2, h3⟩ := h
  refine ⟨by omega, ?_, h3⟩
  have e : k + 1 - fr = (k - fr) + 1 := by omega
  have hl : k - fr < (S.drop fr).length := by rw [List.length_drop]; omega
  rw [e, List.take_succ_eq_append_getElem hl, List.mem_append]
  rintro (h | h)
  · exact h2 h
  · obtain h := List.mem_singleton.1 h
    rw [List.getElem_drop] at h
    apply hc
    rw [h]
    congr 1
    omega
theorem rst_cut {S : List UInt8} {k fr : Nat} {acc : List In} (h : rst S k fr acc) (hk : k < S.length) (hc : S[k] = 10) :
    readL numR S = (match parseN numR ((S.drop fr).take (k - fr)) with | (x, true) => readN numR (S.length - fr) (acc ++ [x]) (S.drop (k + 1)) | (_, false) => ([], acc.length, false)) := by
  obtain ⟨h1, h2, h3⟩ := h
  have e : S.drop fr = (S.drop fr).take (k - fr) ++ 10 :: S.drop (k + 1) := by
    have e1 : (S.drop fr).drop (k - fr) = S.drop k := by rw [List.drop_drop]; congr 1; omega
    rw [← hc, ← List.drop_eq_getElem_cons hk, ← e1, List.take_append_drop]
  rw [h3 (S.length - fr + 1) (by omega)]
  conv => lhs; rw [e]
  rw [readN_line numR _ acc _ h2]
  rfl
theorem rst_yes {S : List UInt8} {k fr : Nat} {acc : List In} {x : In} (h : rst S k fr acc) (hk : k < S.length) (hc : S[k] = 10) (hp : parseN numR ((S.drop fr).take (k - fr)) = (x, true)) : rst S (k + 1) (k + 1) (acc ++ [x]) := by
  have h4 := rst_cut h hk hc
  rw [hp] at h4
  refine ⟨Nat.le_refl _, by simp, fun m hm => ?_⟩
  rw [h4]
  have := h.1
  exact readN_fuel numR _ _ _ _ (by rw [List.length_drop]; omega) (by rw [List.length_drop]; omega)
theorem rst_no {S : List UInt8} {k fr : Nat} {acc : List In} {x : In} (h : rst S k fr acc) (hk : k < S.length) (hc : S[k] = 10) (hp : parseN numR ((S.drop fr).take (k - fr)) = (x, false)) : readL numR S = ([], acc.length, false) := by
  have h4 := rst_cut h hk hc
  rw [hp] at h4
  exact h4
theorem rst_end1 {S : List UInt8} {fr : Nat} {acc : List In} (h : rst S S.length fr acc) (hf : fr < S.length) : readL numR S = ([], acc.length, false) := by
  obtain ⟨h1, h2, h3⟩ := h
  rw [List.take_of_length_le (by rw [List.length_drop]; exact Nat.le_refl _)] at h2
  rw [h3 (S.length - fr + 1) (by omega), readN_eq, if_neg, if_pos h2]
  intro e
  have := congrArg List.length e
  simp at this
  omega
theorem rst_end2 {S : List UInt8} {fr : Nat} {acc : List In} (h : rst S S.length fr acc) (hf : ¬ fr < S.length) : readL numR S = (acc, acc.length, true) := by
  obtain ⟨h1, h2, h3⟩ := h
  rw [h3 (S.length - fr + 1) (by omega), readN_eq, if_pos (List.drop_of_length_le (by omega))]
theorem rdF_ins {w : World} {b : Nat} {z : In} (h : Row w b 0 (insC z)) : RdF insC w (some ⟨b, 0, none⟩) [z] := fun _ => ⟨b, 0, rfl, h.lt, fun j u hj => by
  have := h.at_ j u (by simpa [rowF] using hj)
  simpa using this⟩

end Go.Proofs.YtdhpbofpomefoaaDoor
