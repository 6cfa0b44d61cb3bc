/- Layer 16: how long a text is. -/
import Derived.Test.YtdhpbofpomefoaaDoorAsmF
namespace Go.Proofs.YtdhpbofpomefoaaDoor
set_option linter.unusedSimpArgs false
set_option linter.unusedVariables false
open Go.RowKit

theorem joinW_len : ∀ (ws : List (List UInt8)) (k : Nat), (∀ w ∈ ws, w.length ≤ k) → (joinW ws).length ≤ ws.length * (k + 1)
  | [], k, _ => by simp [joinW]
  | w :: ws, k, h => by
    have h1 := h w (by simp)
    have h2 := joinW_len ws k (fun v hv => h v (by simp [hv]))
    simp only [joinW, List.length_cons, List.length_append, Nat.succ_mul]
    omega
theorem textL_len (op a b c : Int) : (textL op a b c).length ≤ 60 := by
  cases h : rightI op a b c with
  | false => unfold textL; rw [if_neg (by rw [h]; decide)]; simp
  | true =>
    have hk0 := right_kd h
    have hs3 : (kstr (kd op)).size = 3 := by have := kstr_size ⟨kd op, kd_lt op⟩; simp only at this; rw [this, if_neg hk0]
    have htx : textL op a b c = nameL op ++ partT (kstr (kd op)) (v3 a b c) 3 := by unfold textL; rw [if_pos h, ← partT_all hk0, hs3]
    rw [htx, List.length_append]
    have h1 := nameL_len op
    have h2 := partT_len (kstr (kd op)) (v3 a b c) (right_bd h) 3
    omega

end Go.Proofs.YtdhpbofpomefoaaDoor
