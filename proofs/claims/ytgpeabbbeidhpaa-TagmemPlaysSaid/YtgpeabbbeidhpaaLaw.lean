/- How a law's statement follows of its walk: arguments opened, and read again behind the call. -/
import Derived.Test.YtgpeabbbeidhpaaG
import Derived.Test.YtgpeabbbeidhpaaRows
import Derived.Lib.SmallJoins
import Derived.Deep.Fields
import Derived.Deep.Slices
namespace Go.Proofs.Ytgpeabbbeidhpaa
set_option linter.unusedSimpArgs false
set_option linter.unusedVariables false
open Go.ChangeShapes Go.WideShapes Go.ChangeAt Go.RowKit Go.Deep

theorem lawOwn : ownKnob Try.prog.godebug = none := by kernel_rfl
theorem lawLaid : laidOutB Try.prog = true := by kernel_rfl

section
variable {H : Type} {enc : TypeId × Value → H} {P : Program}

/-- What the statement asks behind the call, of a law that answered true and turned nothing that was there. -/
theorem lawPost {f : Func} {s : ChangeSpec} {W W' : World} {args : Array Value} {ds : List (DataW H)} {before : List MemPlace} {tb : TypeId}
    (hv : s.vars = []) (hW : DataW.Whole enc P f.params.toList s.vars false W args.toList ds [] before)
    (hr : (s.fn H (ds ++ [])).results = [.lit (.bool true)]) (ha : (s.fn H (ds ++ [])).args = ds) (hvs : (s.fn H (ds ++ [])).vars = [])
    (ht : f.resultTypes = #[tb]) (hb : P.underlying tb = some .bool)
    (hargs : DataW.TrodAll enc P W' 0 (fun b => decide (b < W.heap.size)) true f.params.toList args.toList ds before) (he : Ext W W') :
    s.post enc P f false true false false W args (.bool true) W' := by
  refine ⟨ds, [], before, [], before, [], hW, ?_, by rw [ha]; exact hargs, ?_, Below.frame he _, fun h => by cases h⟩
  · rw [hr, ht]
    exact trodAll_mk1 (shut_bool hb true)
  · rw [hvs, hv]
    rfl

/-- An argument reads behind the call as it did. -/
theorem lawKept (hl : laidOutB P = true) {t : TypeId} (hr : P.readableRec t = true) (hrow : t < P.types.size) {W W' : World} {v : Value} {d : DataW H} {p before : List MemPlace}
    (hW : ∀ x ∈ before, x.block < W.heap.size) (hp : ∀ x ∈ p, x ∈ before) (h : DataW.Trod enc P W 0 (fun _ => true) true t v d p) (he : Ext W W') :
    DataW.Trod enc P W' 0 (fun b => decide (b < W.heap.size)) true t v d p :=
  Below.trod hl hr hrow h he (fun x hx => hW x (hp x hx))

variable {w : World} {base : Nat} {spare : Nat → Bool} {held : Bool}

/-- A capability that came in by value. -/
theorem openCap {r : Reach} {b0 : Nat} {T : TypeId} {f0 f1 f2 f3 f4 f5 : Field} {v : Value} {d : DataW H} {p : List MemPlace} (hs : P.underlying T = some (.struct #[f0, f1, f2, f3, f4, f5]))
    (hone : oneCellFields P #[f0, f1, f2, f3, f4, f5] = true) (hC : P.cellsOf T = 6)
    (k0 : P.underlying f0.type = some .bool) (k1 : P.underlying f1.type = some (.int .i64)) (k2 : P.underlying f2.type = some (.int .i64)) (k3 : P.underlying f3.type = some (.int .i64))
    (k4 : P.underlying f4.type = some (.int .i64)) (k5 : P.underlying f5.type = some (.int .i64))
    (hv : Value.okWide P w r b0 T v) (h : DataW.Trod enc P w base spare held T v d p) :
    ∃ (t : Bool) (b tp a pm ty : Int), v = .agg #[.bool t, .int .i64 b, .int .i64 tp, .int .i64 a, .int .i64 pm, .int .i64 ty] ∧
      (Lit.int .i64 b).wf = true ∧ (Lit.int .i64 tp).wf = true ∧ (Lit.int .i64 a).wf = true ∧ (Lit.int .i64 pm).wf = true ∧ (Lit.int .i64 ty).wf = true := by
  obtain ⟨cs, rfl, hsz⟩ := okWide_struct hs hv
  obtain ⟨l⟩ := cs
  match l, hsz.trans hC with
  | [c0, c1, c2, c3, c4, c5], _ =>
    obtain ⟨fuel, hf⟩ := h
    obtain ⟨xs, n, _, hx, _, hlen, hg⟩ := DataW.trod_struct hs hf
    have fld : ∀ (i : Nat) (f : Field), #[f0, f1, f2, f3, f4, f5][i]? = some f → ∃ y, DataW.trod enc P w base spare held n f.type (([c0, c1, c2, c3, c4, c5].drop i).take 1) = some y := by
      intro i f hi
      obtain ⟨o, k⟩ := hone_of hone i f hi
      have := hg i f hi
      rw [o, k] at this
      have hlt : i < xs.length := by
        rw [hlen]
        exact (Array.getElem?_eq_some_iff.1 hi).1
      exact ⟨xs[i], by rw [List.getElem?_eq_getElem hlt] at this; exact this⟩
    obtain ⟨y0, g0⟩ := fld 0 f0 rfl
    obtain ⟨y1, g1⟩ := fld 1 f1 rfl
    obtain ⟨y2, g2⟩ := fld 2 f2 rfl
    obtain ⟨y3, g3⟩ := fld 3 f3 rfl
    obtain ⟨y4, g4⟩ := fld 4 f4 rfl
    obtain ⟨y5, g5⟩ := fld 5 f5 rfl
    obtain ⟨t, e0, _⟩ := DataW.trod_bool k0 g0
    obtain ⟨b, e1, _, w1⟩ := DataW.trod_int k1 g1
    obtain ⟨tp, e2, _, w2⟩ := DataW.trod_int k2 g2
    obtain ⟨a, e3, _, w3⟩ := DataW.trod_int k3 g3
    obtain ⟨pm, e4, _, w4⟩ := DataW.trod_int k4 g4
    obtain ⟨ty, e5, _, w5⟩ := DataW.trod_int k5 g5
    simp at e0 e1 e2 e3 e4 e5
    subst e0 e1 e2 e3 e4 e5
    exact ⟨t, b, tp, a, pm, ty, rfl, w1, w2, w3, w4, w5⟩

/-- A slice of numbers that came in: its cells. -/
theorem openInts {r : Reach} {b0 : Nat} {t e : TypeId} {k : IntKind} {v : Value} {d : DataW H} {p : List MemPlace} (ht : P.underlying t = some (.slice e)) (hk : P.underlying e = some (.int k)) (hc : P.cellsOf e = 1)
    (hv : Value.okWide P w r b0 t v) (h : DataW.Trod enc P w base spare held t v d p) :
    ∃ (A : Option Addr) (cap : Nat) (zs : List Int), v = .slice A zs.length cap ∧ zs.length ≤ maxLen ∧ SlAt w A (zs.map (Value.int k)) ∧ ∀ z ∈ zs, (Lit.int k z).wf = true := by
  obtain ⟨a0, len, cap, rfl⟩ := okWide_slice ht hv
  obtain ⟨fuel, hf⟩ := h
  rcases open_ints ht hk hc hf with ⟨hcs, hx⟩ | ⟨a, len', cap', zs, hcs, _, hl, hm, hz, hx, hcell, hwz⟩
  · simp [Value.cells] at hcs
    obtain ⟨rfl, rfl, rfl⟩ := hcs
    exact ⟨none, 0, [], rfl, by simp, fun h => absurd h (by simp), by simp⟩
  · simp [Value.cells] at hcs
    obtain ⟨rfl, rfl, rfl⟩ := hcs
    have hlz : len ≤ zs.length := by
      rw [hz]; split
      · exact hl
      · exact Nat.le_refl _
    have hlen : (zs.take len).length = len := by simp [hlz]
    refine ⟨some a, cap, zs.take len, by rw [hlen], by rw [hlen]; exact Nat.le_trans hl hm, ?_, fun z hz => hwz z (List.mem_of_mem_take hz)⟩
    intro h0
    have hlen0 : 0 < len := by rw [List.length_map, hlen] at h0; exact h0
    have hc0 := hcell 0 (by omega)
    obtain ⟨b, o, sp⟩ := a
    have hsp : sp = none := by
      cases sp with
      | none => rfl
      | some x => 
        simp [Addr.add, World.cell?] at hc0
        split at hc0 <;> simp at hc0
    subst hsp
    have hb : b < w.heap.size := by
      simp [Addr.add, World.cell?] at hc0
      split at hc0
      · rename_i h
        exact (Array.getElem?_eq_some_iff.1 h).1
      · simp at hc0
    refine ⟨b, o, rfl, hb, fun j hj => ?_⟩
    have hj' : j < len := by rw [List.length_map, hlen] at hj; exact hj
    have hcj := hcell j (by omega)
    rw [Addr.add_lit] at hcj
    rw [hcj]
    simp [List.getD, show j < zs.length by omega]
end
end Go.Proofs.Ytgpeabbbeidhpaa
