/- Layer 20: a number is told by its bytes. -/
import Derived.Test.YtemeckdjkjnieaaAluT
namespace Go.Proofs.Ytemeckdjkjnieaa
set_option linter.unusedSimpArgs false
set_option linter.unusedVariables false
open Go.RowKit

theorem number_of (b c : Nat) (n : Int) (w : World) (hk : 4 ≤ c) (hcc : c ≤ 9223372036854775807) (h0 : 0 ≤ n) (h1 : n ≤ 4294967295) (hc : w.cell? ⟨b, 0, none⟩ = some (.int .u8 (n / 16777216 % 256)) ∧ w.cell? ⟨b, 1, none⟩ = some (.int .u8 (n / 65536 % 256)) ∧ w.cell? ⟨b, 2, none⟩ = some (.int .u8 (n / 256 % 256)) ∧ w.cell? ⟨b, 3, none⟩ = some (.int .u8 (n % 256))) :
    Calls Try.prog 16 #[.slice (some ⟨b, 0, none⟩) 4 c] w fun e w' => e = .returned (.int .i64 n) ∧ w = w' := by
  obtain ⟨c0, c1, c2, c3⟩ := hc
  have h := number4 b 0 c 0 (n / 16777216 % 256) (n / 65536 % 256) (n / 256 % 256) (n % 256) w (by omega) hcc (by
    simp only [Nat.add_zero, Nat.zero_add]
    exact ⟨c0, by omega, by omega, c1, by omega, by omega, c2, by omega, by omega, c3, by omega, by omega⟩)
  have he : (((n / 16777216 % 256) * 256 + n / 65536 % 256) * 256 + n / 256 % 256) * 256 + n % 256 = n := by omega
  rw [he] at h
  exact h

end Go.Proofs.Ytemeckdjkjnieaa
