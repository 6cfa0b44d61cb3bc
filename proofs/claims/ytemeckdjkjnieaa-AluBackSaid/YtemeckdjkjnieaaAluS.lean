/- Layer 20: of any slice both tell the same number. -/
import Derived.Test.YtemeckdjkjnieaaAluR
namespace Go.Proofs.Ytemeckdjkjnieaa
set_option linter.unusedSimpArgs false
set_option linter.unusedVariables false
open Go.RowKit


/-- Of any slice both tell the same number. -/
def NumAt (w : World) (v : Value) (n : Int) : Prop :=
  (Calls Try.prog 16 #[v] w fun e w' => e = .returned (.int .i64 n) ∧ w = w') ∧ (Calls Try.prog 17 #[v] w fun e w' => e = .returned (.int .i64 n) ∧ w = w')
theorem num_at {w : World} {A : Option Addr} {zs : List Int} {cap : Nat} (hs : SlAt w A (zs.map (Value.int .u8))) (hz : ∀ z ∈ zs, 0 ≤ z ∧ z ≤ 255) (hc : zs.length ≤ cap) (hm : cap ≤ 9223372036854775807) (hn : A = none → zs.length = 0 ∧ cap = 0) :
    ∃ n, ∀ w', Ext w w' → NumAt w' (.slice A zs.length cap) n := by
  cases hA : A with
  | none =>
    obtain ⟨h1, h2⟩ := hn hA
    rw [h1, h2]
    exact ⟨0, fun w' _ => ⟨numberN w', rnumberN w'⟩⟩
  | some a =>
    match zs, hz, hc, hs with
    | [], _, hc, _ => exact ⟨0, fun w' _ => ⟨number0g a cap w' hm, rnumber0g a cap w' hm⟩⟩
    | [x0], hz, hc, hs =>
      obtain ⟨b, o, hab, hb, hcell⟩ := hs (by simp)
      rw [hA] at hab
      injection hab with hab
      subst hab
      refine ⟨x0, fun w' x => ?_⟩
      have hcs : w'.cell? ⟨b, o, none⟩ = some (.int .u8 x0) ∧ 0 ≤ x0 ∧ x0 ≤ 255 := by
        refine ⟨?_, ?_, ?_⟩
        · rw [x.cells b _ hb]; exact hcell 0 (by simp)
        · exact (hz x0 (by simp)).1
        · exact (hz x0 (by simp)).2
      exact ⟨number1 b o cap x0 w' hc hm hcs, rnumber1 b o cap x0 w' hc hm hcs⟩
    | [x0, x1], hz, hc, hs =>
      obtain ⟨b, o, hab, hb, hcell⟩ := hs (by simp)
      rw [hA] at hab
      injection hab with hab
      subst hab
      refine ⟨x0 * 256 + x1, fun w' x => ?_⟩
      have hcs : w'.cell? ⟨b, o, none⟩ = some (.int .u8 x0) ∧ 0 ≤ x0 ∧ x0 ≤ 255 ∧ w'.cell? ⟨b, o + 1, none⟩ = some (.int .u8 x1) ∧ 0 ≤ x1 ∧ x1 ≤ 255 := by
        refine ⟨?_, ?_, ?_, ?_, ?_, ?_⟩
        · rw [x.cells b _ hb]; exact hcell 0 (by simp)
        · exact (hz x0 (by simp)).1
        · exact (hz x0 (by simp)).2
        · rw [x.cells b _ hb]; exact hcell 1 (by simp)
        · exact (hz x1 (by simp)).1
        · exact (hz x1 (by simp)).2
      exact ⟨number2 b o cap x0 x1 w' hc hm hcs, rnumber2 b o cap x0 x1 w' hc hm hcs⟩
    | [x0, x1, x2], hz, hc, hs =>
      obtain ⟨b, o, hab, hb, hcell⟩ := hs (by simp)
      rw [hA] at hab
      injection hab with hab
      subst hab
      refine ⟨(x0 * 256 + x1) * 256 + x2, fun w' x => ?_⟩
      have hcs : w'.cell? ⟨b, o, none⟩ = some (.int .u8 x0) ∧ 0 ≤ x0 ∧ x0 ≤ 255 ∧ w'.cell? ⟨b, o + 1, none⟩ = some (.int .u8 x1) ∧ 0 ≤ x1 ∧ x1 ≤ 255 ∧ w'.cell? ⟨b, o + 2, none⟩ = some (.int .u8 x2) ∧ 0 ≤ x2 ∧ x2 ≤ 255 := by
        refine ⟨?_, ?_, ?_, ?_, ?_, ?_, ?_, ?_, ?_⟩
        · rw [x.cells b _ hb]; exact hcell 0 (by simp)
        · exact (hz x0 (by simp)).1
        · exact (hz x0 (by simp)).2
        · rw [x.cells b _ hb]; exact hcell 1 (by simp)
        · exact (hz x1 (by simp)).1
        · exact (hz x1 (by simp)).2
        · rw [x.cells b _ hb]; exact hcell 2 (by simp)
        · exact (hz x2 (by simp)).1
        · exact (hz x2 (by simp)).2
      exact ⟨number3 b o cap x0 x1 x2 w' hc hm hcs, rnumber3 b o cap x0 x1 x2 w' hc hm hcs⟩
    | z0 :: z1 :: z2 :: z3 :: l, hz, hc, hs =>
      obtain ⟨b, o, hab, hb, hcell⟩ := hs (by simp)
      rw [hA] at hab
      injection hab with hab
      subst hab
      have hm' : (z0 :: z1 :: z2 :: z3 :: l).length = l.length + 4 := rfl
      have hg : ∀ j (hj : j < 4), 0 ≤ (z0 :: z1 :: z2 :: z3 :: l)[l.length + j] ∧ (z0 :: z1 :: z2 :: z3 :: l)[l.length + j] ≤ 255 := fun j hj => hz _ (List.getElem_mem _)
      refine ⟨(((z0 :: z1 :: z2 :: z3 :: l)[l.length + 0]'(by omega) * 256 + (z0 :: z1 :: z2 :: z3 :: l)[l.length + 1]'(by omega)) * 256 + (z0 :: z1 :: z2 :: z3 :: l)[l.length + 2]'(by omega)) * 256 + (z0 :: z1 :: z2 :: z3 :: l)[l.length + 3]'(by omega), fun w' x => ?_⟩
      have hcs : ∀ j (hj : j < 4), w'.cell? ⟨b, o + l.length + j, none⟩ = some (.int .u8 (z0 :: z1 :: z2 :: z3 :: l)[l.length + j]) := fun j hj => by
        rw [x.cells b _ hb, Nat.add_assoc, hcell (l.length + j) (by rw [List.length_map]; omega), List.getElem_map]
      have h4 : w'.cell? ⟨b, o + l.length, none⟩ = some (.int .u8 (z0 :: z1 :: z2 :: z3 :: l)[l.length + 0]) ∧ 0 ≤ (z0 :: z1 :: z2 :: z3 :: l)[l.length + 0] ∧ (z0 :: z1 :: z2 :: z3 :: l)[l.length + 0] ≤ 255 ∧ w'.cell? ⟨b, o + l.length + 1, none⟩ = some (.int .u8 (z0 :: z1 :: z2 :: z3 :: l)[l.length + 1]) ∧ 0 ≤ (z0 :: z1 :: z2 :: z3 :: l)[l.length + 1] ∧ (z0 :: z1 :: z2 :: z3 :: l)[l.length + 1] ≤ 255 ∧ w'.cell? ⟨b, o + l.length + 2, none⟩ = some (.int .u8 (z0 :: z1 :: z2 :: z3 :: l)[l.length + 2]) ∧ 0 ≤ (z0 :: z1 :: z2 :: z3 :: l)[l.length + 2] ∧ (z0 :: z1 :: z2 :: z3 :: l)[l.length + 2] ≤ 255 ∧ w'.cell? ⟨b, o + l.length + 3, none⟩ = some (.int .u8 (z0 :: z1 :: z2 :: z3 :: l)[l.length + 3]) ∧ 0 ≤ (z0 :: z1 :: z2 :: z3 :: l)[l.length + 3] ∧ (z0 :: z1 :: z2 :: z3 :: l)[l.length + 3] ≤ 255 :=
        ⟨hcs 0 (by omega), (hg 0 (by omega)).1, (hg 0 (by omega)).2, hcs 1 (by omega), (hg 1 (by omega)).1, (hg 1 (by omega)).2, hcs 2 (by omega), (hg 2 (by omega)).1, (hg 2 (by omega)).2, hcs 3 (by omega), (hg 3 (by omega)).1, (hg 3 (by omega)).2⟩
      exact ⟨number4 b o cap l.length _ _ _ _ w' (by omega) hm h4, rnumber4 b o cap l.length _ _ _ _ w' (by omega) hm h4⟩


end Go.Proofs.Ytemeckdjkjnieaa
