/- Layer 16: how many are read. -/
import Derived.Test.YtdhpbofpomefoaaDoorAsmV
namespace Go.Proofs.YtdhpbofpomefoaaDoor
set_option linter.unusedSimpArgs false
set_option linter.unusedVariables false
open Go.RowKit

theorem readN_cnt (val : List UInt8 → Int) : ∀ (n : Nat) (acc : List In) (s : List UInt8), (readN val n acc s).1.length ≤ acc.length + n
  | 0, acc, s => by simp [readN]
  | n + 1, acc, s => by
    rw [readN_eq]
    split
    · simp
    · split
      · simp
      · split
        · rename_i x _
          have := readN_cnt val n (acc ++ [x]) (s.drop ((s.takeWhile (· != 10)).length + 1))
          rw [List.length_append] at this
          simp only [List.length_cons, List.length_nil] at this
          omega
        · simp
theorem readL_cnt (val : List UInt8 → Int) (s : List UInt8) : (readL val s).1.length ≤ s.length + 1 := by
  have h := readN_cnt val (s.length + 1) [] s
  rw [List.length_nil, Nat.zero_add] at h
  exact h

end Go.Proofs.YtdhpbofpomefoaaDoor
