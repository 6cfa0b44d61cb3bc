/- Layer 18: the calls of the laws. -/
import Derived.Test.YtjepkdfiihgheaaHead18
namespace Go.Proofs.Ytjepkdfiihgheaa
set_option linter.unusedSimpArgs false
set_option linter.unusedVariables false
open Go.RowKit


structure RegOp where
  what : Int
  a : Int
  b : Int
  c : Cap
  A : Option Addr
  n : Nat
  ca : Nat
  M : Nat → Cap
instance : Inhabited RegOp := ⟨⟨0, 0, 0, nullC, none, 0, 0, fun _ => nullC⟩⟩
def RegOp.cells (z : RegOp) : List Value := [.int .i64 z.what, .int .i64 z.a, .int .i64 z.b, .bool z.c.tag, .int .i64 z.c.base, .int .i64 z.c.top, .int .i64 z.c.at_, .int .i64 z.c.perms, .int .i64 z.c.type, .slice z.A z.n z.ca]
def RegOp.good (w : World) (z : RegOp) : Prop := (Lit.int .i64 z.what).wf = true ∧ (Lit.int .i64 z.a).wf = true ∧ (Lit.int .i64 z.b).wf = true ∧ wfC z.c ∧ RdC w z.A z.n z.M ∧ z.n ≤ z.ca ∧ z.ca ≤ maxLen ∧ (∀ b o, z.A = some ⟨b, o, none⟩ → 0 < z.n → b < w.heap.size)
open Go.ChangeShapes Go.WideShapes Go.ChangeAt Go.RowKit Go.Deep
section
variable {H : Type} {enc : TypeId × Value → H} {w : World} {base : Nat} {spare : Nat → Bool} {held : Bool} {fuel : Nat} {cs : List Value} {x : DataW H × List MemPlace}
theorem trodOp (h : DataW.trod enc Try.prog w base spare held fuel 32 cs = some x) : ∃ z : RegOp, cs = z.cells ∧ z.good w := by
  obtain ⟨xs, n, _, _, hcl, hlen, hg⟩ := DataW.trod_struct Try.underlying32 h
  have hl : cs.length = 10 := hcl.trans (by kernel_rfl)
  have z0 : Try.prog.cellsOf 30 = 1 := by kernel_rfl
  have z1 : Try.prog.cellsOf 29 = 6 := by kernel_rfl
  have z2 : Try.prog.cellsOf 3 = 1 := by kernel_rfl
  match cs, hl with
  | [c0, c1, c2, c3, c4, c5, c6, c7, c8, c9], _ =>
    have g0 : DataW.trod enc Try.prog w base spare held n 3 (([c0, c1, c2, c3, c4, c5, c6, c7, c8, c9].drop 0).take (Try.prog.cellsOf 3)) = xs[0]? := hg 0 _ rfl
    rw [z2, List.getElem?_eq_getElem (by rw [hlen]; decide)] at g0
    have g1 : DataW.trod enc Try.prog w base spare held n 3 (([c0, c1, c2, c3, c4, c5, c6, c7, c8, c9].drop 1).take (Try.prog.cellsOf 3)) = xs[1]? := hg 1 _ rfl
    rw [z2, List.getElem?_eq_getElem (by rw [hlen]; decide)] at g1
    have g2 : DataW.trod enc Try.prog w base spare held n 3 (([c0, c1, c2, c3, c4, c5, c6, c7, c8, c9].drop 2).take (Try.prog.cellsOf 3)) = xs[2]? := hg 2 _ rfl
    rw [z2, List.getElem?_eq_getElem (by rw [hlen]; decide)] at g2
    have g3 : DataW.trod enc Try.prog w base spare held n 29 (([c0, c1, c2, c3, c4, c5, c6, c7, c8, c9].drop 3).take (Try.prog.cellsOf 29)) = xs[3]? := hg 3 _ rfl
    rw [z1, List.getElem?_eq_getElem (by rw [hlen]; decide)] at g3
    have g4 : DataW.trod enc Try.prog w base spare held n 30 (([c0, c1, c2, c3, c4, c5, c6, c7, c8, c9].drop 9).take (Try.prog.cellsOf 30)) = xs[4]? := hg 4 _ rfl
    rw [z0, List.getElem?_eq_getElem (by rw [hlen]; decide)] at g4
    obtain ⟨what, e0, _, k0⟩ := DataW.trod_int Try.underlying3 g0
    obtain ⟨a, e1, _, k1⟩ := DataW.trod_int Try.underlying3 g1
    obtain ⟨b, e2, _, k2⟩ := DataW.trod_int Try.underlying3 g2
    obtain ⟨c, e3, k3⟩ := trodCap g3
    obtain ⟨A, n', ca, M, e4, k4⟩ := trodCaps g4
    simp [Cap.cells] at e0 e1 e2 e3 e4
    subst e0
    subst e1
    subst e2
    obtain ⟨rfl, rfl, rfl, rfl, rfl, rfl⟩ := e3
    subst e4
    exact ⟨⟨what, a, b, c, A, n', ca, M⟩, rfl, k0, k1, k2, k3, k4.2.2.1, k4.1, k4.2.1, k4.2.2.2.2⟩
end
theorem wfu8 {n : Int} (h : (Lit.int .u8 n).wf = true) : 0 ≤ n ∧ n ≤ 255 := by
  simpa [Lit.wf, IntKind.min, IntKind.max, IntKind.signed, IntKind.bits] using h
theorem getL_nat (L : Nat → Cap) {k : Nat} (hk : k < 8) : getL L (k : Int) = L k := by unfold getL; rw [if_pos ⟨by omega, by omega⟩]; simp
theorem RegOp.facts {w : World} {A : Option Addr} {zs : List RegOp} (h : SlAtN w A 10 (zs.map RegOp.cells)) {k : Nat} (hk : k < zs.length) (z : RegOp) (hz : zs[k] = z) : ∃ b o, A = some ⟨b, o, none⟩ ∧ b < w.heap.size ∧ w.cell? ⟨b, o + k * 10, none⟩ = some (.int .i64 z.what) ∧ w.cell? ⟨b, o + k * 10 + 1, none⟩ = some (.int .i64 z.a) ∧ w.cell? ⟨b, o + k * 10 + 2, none⟩ = some (.int .i64 z.b) ∧ w.cell? ⟨b, o + k * 10 + 3, none⟩ = some (.bool z.c.tag) ∧ w.cell? ⟨b, o + k * 10 + 4, none⟩ = some (.int .i64 z.c.base) ∧ w.cell? ⟨b, o + k * 10 + 5, none⟩ = some (.int .i64 z.c.top) ∧ w.cell? ⟨b, o + k * 10 + 6, none⟩ = some (.int .i64 z.c.at_) ∧ w.cell? ⟨b, o + k * 10 + 7, none⟩ = some (.int .i64 z.c.perms) ∧ w.cell? ⟨b, o + k * 10 + 8, none⟩ = some (.int .i64 z.c.type) ∧ w.cell? ⟨b, o + k * 10 + 9, none⟩ = some (.slice z.A z.n z.ca) := by
  obtain ⟨b, o, hA, hb, hc⟩ := h (by simpa using Nat.lt_of_le_of_lt (Nat.zero_le _) hk)
  have hc := hc k (by simpa using hk)
  simp only [List.getElem_map, hz] at hc
  exact ⟨b, o, hA, hb, hc 0 (by omega), hc 1 (by omega), hc 2 (by omega), hc 3 (by omega), hc 4 (by omega), hc 5 (by omega), hc 6 (by omega), hc 7 (by omega), hc 8 (by omega), hc 9 (by omega)⟩

end Go.Proofs.Ytjepkdfiihgheaa
