/- Layer 19: data that come in. -/
import Derived.Test.YtfpfmjcajdknoaaFraO
import Derived.Test.YtfpfmjcajdknoaaLawB
namespace Go.Proofs.Ytfpfmjcajdknoaa
set_option linter.unusedSimpArgs false
set_option linter.unusedVariables false
open Go.RowKit

open Go.ChangeShapes Go.WideShapes Go.ChangeAt Go.RowKit Go.Deep
section
variable {H : Type} {enc : TypeId × Value → H} {w : World} {base : Nat} {spare : Nat → Bool} {held : Bool} {fuel : Nat} {cs : List Value} {x : DataW H × List MemPlace}

theorem trodFrame (h : DataW.trod enc Try.prog w base spare held fuel 32 cs = some x) : ∃ F : Nat → Cap, cs = capsList 5 F ∧ ∀ i, i < 5 → wfC (F i) := by
  obtain ⟨xs, n, _, _, hcl, hlen, hg⟩ := DataW.trod_struct Try.underlying32 h
  have hl : cs.length = 30 := hcl.trans (by kernel_rfl)
  have z0 : Try.prog.cellsOf 29 = 6 := by kernel_rfl
  have z1 : Try.prog.cellsOf 30 = 24 := by kernel_rfl
  have g0 : DataW.trod enc Try.prog w base spare held n 29 ((cs.drop 0).take (Try.prog.cellsOf 29)) = xs[0]? := hg 0 _ rfl
  have g1 : DataW.trod enc Try.prog w base spare held n 30 ((cs.drop 6).take (Try.prog.cellsOf 30)) = xs[1]? := hg 1 _ rfl
  rw [z0, List.getElem?_eq_getElem (by rw [hlen]; decide)] at g0
  rw [z1, List.getElem?_eq_getElem (by rw [hlen]; decide)] at g1
  obtain ⟨c0, e0, k0⟩ := trodCap g0
  obtain ⟨ys, m, _, _, _, hlen2, hg2⟩ := DataW.trod_array Try.underlying30 g1
  obtain ⟨V, hV⟩ := choose_lt (n := 4) (α := Cap) (p := fun i c => (((cs.drop 6).take 24).drop (i * 6)).take 6 = c.cells ∧ wfC c) (fun i hi => by
    have := hg2 i hi
    rw [z0, List.getElem?_eq_getElem (by omega)] at this
    exact trodCap this)
  refine ⟨fun i => if i = 0 then c0 else V (i - 1), List.ext_getElem? fun j => ?_, fun i hi => ?_⟩
  · by_cases hj : j < 30
    · have e2 := capsList_at 5 (fun i => if i = 0 then c0 else V (i - 1)) (j / 6) (j % 6) (by omega) (by omega)
      rw [show j / 6 * 6 + j % 6 = j by omega] at e2
      rw [e2]
      by_cases h6 : j < 6
      · rw [if_pos (by omega), ← e0, List.getElem?_take, if_pos (by omega), List.getElem?_drop, show 0 + j % 6 = j by omega]
      · rw [if_neg (by omega), ← (hV (j / 6 - 1) (by omega)).1, List.getElem?_take, if_pos (by omega), List.getElem?_drop, List.getElem?_take, if_pos (by omega), List.getElem?_drop, show 6 + ((j / 6 - 1) * 6 + j % 6) = j by omega]
    · rw [List.getElem?_eq_none (by omega), List.getElem?_eq_none (by rw [capsList_length]; omega)]
  · show wfC (if i = 0 then c0 else V (i - 1))
    split
    · exact k0
    · exact (hV (i - 1) (by omega)).2
theorem openFrame {r : Reach} {b0 : Nat} {v : Value} {d : DataW H} {p : List MemPlace} (hv : Value.okWide Try.prog w r b0 32 v) (h : DataW.Trod enc Try.prog w base spare held 32 v d p) :
    ∃ F : Nat → Cap, v = .agg #[.bool (F 0).tag, .int .i64 (F 0).base, .int .i64 (F 0).top, .int .i64 (F 0).at_, .int .i64 (F 0).perms, .int .i64 (F 0).type, .bool (F 1).tag, .int .i64 (F 1).base, .int .i64 (F 1).top, .int .i64 (F 1).at_, .int .i64 (F 1).perms, .int .i64 (F 1).type, .bool (F 2).tag, .int .i64 (F 2).base, .int .i64 (F 2).top, .int .i64 (F 2).at_, .int .i64 (F 2).perms, .int .i64 (F 2).type, .bool (F 3).tag, .int .i64 (F 3).base, .int .i64 (F 3).top, .int .i64 (F 3).at_, .int .i64 (F 3).perms, .int .i64 (F 3).type, .bool (F 4).tag, .int .i64 (F 4).base, .int .i64 (F 4).top, .int .i64 (F 4).at_, .int .i64 (F 4).perms, .int .i64 (F 4).type] ∧ ∀ i, i < 5 → wfC (F i) := by
  obtain ⟨cs, rfl, hsz⟩ := okWide_struct Try.underlying32 hv
  obtain ⟨fuel, hf⟩ := h
  obtain ⟨F, e, hF⟩ := trodFrame hf
  refine ⟨F, ?_, hF⟩
  have : cs.toList = capsList 5 F := e
  show Value.agg cs = Value.agg (capsList 5 F).toArray
  rw [← this]
structure FOp where
  what : Int
  F : Nat → Cap
  c : Cap
  at_ : Int
instance : Inhabited FOp := ⟨⟨0, fun _ => nullC, nullC, 0⟩⟩
def FOp.cells (z : FOp) : List Value := .int .i64 z.what :: (capsList 5 z.F ++ (z.c.cells ++ [.int .i64 z.at_]))
def FOp.good (z : FOp) : Prop := (Lit.int .i64 z.what).wf = true ∧ (∀ i, i < 5 → wfC (z.F i)) ∧ wfC z.c ∧ (Lit.int .i64 z.at_).wf = true
theorem FOp.len (z : FOp) : z.cells.length = 38 := by simp [FOp.cells, capsList_length, cells_length]
theorem trodFOp (h : DataW.trod enc Try.prog w base spare held fuel 34 cs = some x) : ∃ z : FOp, cs = z.cells ∧ z.good := by
  obtain ⟨xs, n, _, _, hcl, hlen, hg⟩ := DataW.trod_struct Try.underlying34 h
  have hl : cs.length = 38 := hcl.trans (by kernel_rfl)
  have z0 : Try.prog.cellsOf 3 = 1 := by kernel_rfl
  have z1 : Try.prog.cellsOf 32 = 30 := by kernel_rfl
  have z2 : Try.prog.cellsOf 29 = 6 := by kernel_rfl
  have g0 : DataW.trod enc Try.prog w base spare held n 3 ((cs.drop 0).take (Try.prog.cellsOf 3)) = xs[0]? := hg 0 _ rfl
  have g1 : DataW.trod enc Try.prog w base spare held n 32 ((cs.drop 1).take (Try.prog.cellsOf 32)) = xs[1]? := hg 1 _ rfl
  have g2 : DataW.trod enc Try.prog w base spare held n 29 ((cs.drop 31).take (Try.prog.cellsOf 29)) = xs[2]? := hg 2 _ rfl
  have g3 : DataW.trod enc Try.prog w base spare held n 3 ((cs.drop 37).take (Try.prog.cellsOf 3)) = xs[3]? := hg 3 _ rfl
  rw [z0, List.getElem?_eq_getElem (by rw [hlen]; decide)] at g0 g3
  rw [z1, List.getElem?_eq_getElem (by rw [hlen]; decide)] at g1
  rw [z2, List.getElem?_eq_getElem (by rw [hlen]; decide)] at g2
  obtain ⟨a0, e0, _, k0⟩ := DataW.trod_int Try.underlying3 g0
  obtain ⟨F, e1, k1⟩ := trodFrame g1
  obtain ⟨c, e2, k2⟩ := trodCap g2
  obtain ⟨a3, e3, _, k3⟩ := DataW.trod_int Try.underlying3 g3
  refine ⟨⟨a0, F, c, a3⟩, ?_, k0, k1, k2, k3⟩
  have s0 : cs = cs.take 1 ++ ((cs.drop 1).take 30 ++ ((cs.drop 31).take 6 ++ (cs.drop 37).take 1)) := by
    have t1 := List.take_append_drop 1 cs
    have t2 := List.take_append_drop 30 (cs.drop 1)
    have t3 := List.take_append_drop 6 (cs.drop 31)
    have t4 : (cs.drop 37).take 1 = cs.drop 37 := List.take_of_length_le (by simp; omega)
    rw [List.drop_drop] at t2 t3
    rw [t4, t3, t2, t1]
  rw [s0, e1, e2, e3, show cs.take 1 = [.int .i64 a0] from by simpa using e0]
  rfl
end
theorem FOp.facts {w : World} {A : Option Addr} {zs : List FOp} (h : SlAtN w A 38 (zs.map FOp.cells)) {k : Nat} (hk : k < zs.length) (z : FOp) (hz : zs[k] = z) : ∃ b o, A = some ⟨b, o, none⟩ ∧ b < w.heap.size ∧ Rng w b (o + k * 38) z.cells := by
  obtain ⟨b, o, hA, hb, hc⟩ := h (by simpa using Nat.lt_of_le_of_lt (Nat.zero_le _) hk)
  have hc := hc k (by simpa using hk)
  simp only [List.getElem_map, hz] at hc
  refine ⟨b, o, hA, hb, hb, fun j v hj => ?_⟩
  have hlt : j < 38 := by have := (List.getElem?_eq_some_iff.1 hj).1; rwa [FOp.len] at this
  rw [hc j hlt, hj]
theorem Rng.frame {w : World} {b o : Nat} {z : FOp} (h : Rng w b o z.cells) : Rng w b (o + 1) (capsList 5 z.F) := ⟨h.lt, fun j v hj => by
  have hlt := (List.getElem?_eq_some_iff.1 hj).1
  have := h.at_ (1 + j) v (by rw [Nat.add_comm, FOp.cells, List.getElem?_cons_succ, List.getElem?_append_left hlt]; exact hj)
  rwa [← Nat.add_assoc] at this⟩
theorem Rng.opCap {w : World} {b o : Nat} {z : FOp} (h : Rng w b o z.cells) : Rng w b (o + 31) z.c.cells := ⟨h.lt, fun j v hj => by
  have hlt := (List.getElem?_eq_some_iff.1 hj).1
  have := h.at_ (31 + j) v (by rw [show 31 + j = (30 + j) + 1 by omega, FOp.cells, List.getElem?_cons_succ, List.getElem?_append_right (by rw [capsList_length]; omega), capsList_length, show 30 + j - 5 * 6 = j by omega, List.getElem?_append_left hlt]; exact hj)
  rwa [← Nat.add_assoc] at this⟩
theorem Rng.opWhat {w : World} {b o : Nat} {z : FOp} (h : Rng w b o z.cells) : w.cell? ⟨b, o, none⟩ = some (.int .i64 z.what) := h.at_ 0 _ rfl
theorem Rng.opAt {w : World} {b o : Nat} {z : FOp} (h : Rng w b o z.cells) : w.cell? ⟨b, o + 37, none⟩ = some (.int .i64 z.at_) := h.at_ 37 _ (by
  rw [FOp.cells, show 37 = 36 + 1 by omega, List.getElem?_cons_succ, List.getElem?_append_right (by rw [capsList_length]; omega), capsList_length, List.getElem?_append_right (by rw [cells_length]; omega)]
  rfl)
/-- What a change of the stack leaves of all else. -/
theorem Stk.extOf {w0 w w' : World} {q base : Nat} {v : Value} {n : Nat} {L : Nat → Cap} (h : Stk w q base v n L) (hE : Ext w0 w) (hb : w0.heap.size ≤ base) (ho : Only (tch q v) w w') : Ext w0 w' :=
  Ext.only hE ho (by
    rintro i (rfl | h')
    · exact Nat.le_trans hb h.2.2.2.2.1
    · exact Nat.le_trans hb (h.2.2.2.1.lt i h').1)
theorem Stk.rowOf {w w' : World} {q base b o : Nat} {v : Value} {n : Nat} {L : Nat → Cap} {vs : List Value} (h : Stk w q base v n L) (hr : Row w b o vs) (hb : b < base) (ho : Only (tch q v) w w') : Row w' b o vs :=
  hr.only ho (by
    rintro (rfl | h')
    · have := h.2.2.2.2.1; omega
    · have := (h.2.2.2.1.lt _ h').1; omega)
theorem Only.tch {q : Nat} {v : Value} {w w' : World} (h : Only (· = q) w w') : Only (tch q v) w w' := h.mono fun _ e => .inl e

end Go.Proofs.Ytfpfmjcajdknoaa
