/- Layer 20: bytes as a text. -/
import Derived.Test.YtemeckdjkjnieaaAluS
namespace Go.Proofs.Ytemeckdjkjnieaa
set_option linter.unusedSimpArgs false
set_option linter.unusedVariables false
open Go.RowKit

theorem str_at1 (W : World) (b o c : Nat) (a0 : Int) (h0 : W.cell? ⟨b, o, none⟩ = some (.int .u8 a0)) : (convert 22 9 (.slice (some ⟨b, o, none⟩) 1 c)).run Try.prog W = .ok (.string (strOf [a0])) W := by
  refine run_str _ 22 9 5 Try.underlying22 Try.underlying5 Try.underlying9 b o c [a0] (fun j hj => ?_)
  match j, hj with
  | 0, _ => exact h0
theorem str_at2 (W : World) (b o c : Nat) (a0 a1 : Int) (h0 : W.cell? ⟨b, o, none⟩ = some (.int .u8 a0)) (h1 : W.cell? ⟨b, o + 1, none⟩ = some (.int .u8 a1)) : (convert 22 9 (.slice (some ⟨b, o, none⟩) 2 c)).run Try.prog W = .ok (.string (strOf [a0, a1])) W := by
  refine run_str _ 22 9 5 Try.underlying22 Try.underlying5 Try.underlying9 b o c [a0, a1] (fun j hj => ?_)
  match j, hj with
  | 0, _ => exact h0
  | 1, _ => exact h1
theorem str_at3 (W : World) (b o c : Nat) (a0 a1 a2 : Int) (h0 : W.cell? ⟨b, o, none⟩ = some (.int .u8 a0)) (h1 : W.cell? ⟨b, o + 1, none⟩ = some (.int .u8 a1)) (h2 : W.cell? ⟨b, o + 2, none⟩ = some (.int .u8 a2)) : (convert 22 9 (.slice (some ⟨b, o, none⟩) 3 c)).run Try.prog W = .ok (.string (strOf [a0, a1, a2])) W := by
  refine run_str _ 22 9 5 Try.underlying22 Try.underlying5 Try.underlying9 b o c [a0, a1, a2] (fun j hj => ?_)
  match j, hj with
  | 0, _ => exact h0
  | 1, _ => exact h1
  | 2, _ => exact h2
theorem str_at4 (W : World) (b o c : Nat) (a0 a1 a2 a3 : Int) (h0 : W.cell? ⟨b, o, none⟩ = some (.int .u8 a0)) (h1 : W.cell? ⟨b, o + 1, none⟩ = some (.int .u8 a1)) (h2 : W.cell? ⟨b, o + 2, none⟩ = some (.int .u8 a2)) (h3 : W.cell? ⟨b, o + 3, none⟩ = some (.int .u8 a3)) : (convert 22 9 (.slice (some ⟨b, o, none⟩) 4 c)).run Try.prog W = .ok (.string (strOf [a0, a1, a2, a3])) W := by
  refine run_str _ 22 9 5 Try.underlying22 Try.underlying5 Try.underlying9 b o c [a0, a1, a2, a3] (fun j hj => ?_)
  match j, hj with
  | 0, _ => exact h0
  | 1, _ => exact h1
  | 2, _ => exact h2
  | 3, _ => exact h3

end Go.Proofs.Ytemeckdjkjnieaa
