/- Rows of bytes. -/
import Derived.Test.YtgpeabbbeidhpaaProg
import Derived.Test.YtgpeabbbeidhpaaH
import Derived.Deep.AppendLies
import Derived.OwnWalk
import Derived.Laws.BytesString
import Derived.Laws.BytesArg
import Derived.Laws.Cells
namespace Go.Proofs.Ytgpeabbbeidhpaa
set_option linter.unusedSimpArgs false
set_option linter.unusedVariables false
open Go.RowKit


def b8 (n : Int) : Int := n % 256
/-- Bytes, as they lie in memory. -/
def bvals (l : List Int) : List Value := l.map (Value.int .u8)
theorem bvals_length (l : List Int) : (bvals l).length = l.length := by simp [bvals]
theorem bvals_append (l m : List Int) : bvals (l ++ m) = bvals l ++ bvals m := by simp [bvals]
theorem bvals_one (l : List Int) : ∀ v ∈ bvals l, v.oneCell' = true := by
  intro v hv
  obtain ⟨z, _, rfl⟩ := List.mem_map.1 hv
  rfl
theorem info_u8 : (Try.prog.info? 5).map (fun i => (i.zero, i.size, i.bytes)) = some (some (.int .u8 0), 1, 1) := by kernel_rfl
/-- A slice of bytes, to be read. -/
def RdB (w : World) (A : Option Addr) (l : List Int) : Prop := 0 < l.length → ∃ b o, A = some ⟨b, o, none⟩ ∧ b < w.heap.size ∧ ∀ j (h : j < l.length), w.cell? ⟨b, o + j, none⟩ = some (.int .u8 l[j])
theorem RdB.ext {w w' : World} {A : Option Addr} {l : List Int} (h : RdB w A l) (x : Ext w w') : RdB w' A l := fun h0 => by
  obtain ⟨b, o, hA, hb, hc⟩ := h h0
  exact ⟨b, o, hA, Nat.lt_of_lt_of_le hb x.size, fun j hj => by rw [x.cells b _ hb]; exact hc j hj⟩
/-- Bytes of the call's own. -/
def OwnB (w : World) (base : Nat) (v : Value) (l : List Int) : Prop := w.ownsRow base 5 1 v l.length (bvals l)
theorem OwnB.nil (w : World) (base : Nat) : OwnB w base (.slice none 0 0) [] := ⟨by simp [bvals], .inl ⟨rfl, rfl⟩⟩
theorem OwnB.rd {w : World} {base : Nat} {v : Value} {l : List Int} (h : OwnB w base v l) : ∃ A ca, v = .slice A l.length ca ∧ RdB w A l ∧ l.length ≤ ca := by
  rcases h.2 with ⟨rfl, h0⟩ | ⟨g, cap, cur, rfl, hb, hg, hn, _, hs, ht⟩
  · exact ⟨none, 0, by rw [h0], fun h1 => absurd h1 (by omega), by omega⟩
  · refine ⟨some ⟨g, 0, none⟩, cap, rfl, fun _ => ⟨g, 0, rfl, (Array.getElem?_eq_some_iff.1 hg).1, fun j hj => ?_⟩, hn⟩
    rw [cell_of_row w g _ cur 5 (0, 0) hg]
    have h1 : (cur.toList.take (l.length * 1))[j]? = (bvals l)[j]? := by rw [ht]
    rw [List.getElem?_take, if_pos (by omega)] at h1
    rw [Nat.zero_add]
    have h2 : (bvals l)[j]? = some (.int .u8 l[j]) := by simp [bvals, hj]
    rw [h2] at h1
    simpa using h1
theorem OwnB.rd2 {w : World} {base : Nat} {v : Value} {l : List Int} (h : OwnB w base v l) (h0 : 0 < l.length) : ∃ q ca, v = .slice (some ⟨q, 0, none⟩) l.length ca ∧ l.length ≤ ca ∧ ca ≤ maxLen ∧ base ≤ q ∧ RdB w (some ⟨q, 0, none⟩) l := by
  obtain ⟨A, ca, hv, hr, hl⟩ := h.rd
  rcases h.2 with ⟨hn, h1⟩ | ⟨g, cap, cur, hg, hb, _, _, hm, _, _⟩
  · omega
  · rw [hg] at hv
    injection hv with e1 e2 e3
    subst e1 e3
    exact ⟨g, cap, hg, hl, hm, hb, hr⟩
theorem RdB.range {w : World} {b o : Nat} {l : List Int} (h : RdB w (some ⟨b, o, none⟩) l) : w.rangeAt b o (bvals l) := fun j v hj => by
  have hlt : j < l.length := by simpa [bvals] using (List.getElem?_eq_some_iff.1 hj).1
  obtain ⟨b', o', hA, _, hc⟩ := h (by omega)
  cases hA
  rw [hc j hlt]
  simpa [bvals, hlt] using hj
theorem RdB.lt {w : World} {b o : Nat} {l : List Int} (h : RdB w (some ⟨b, o, none⟩) l) (h0 : 0 < l.length) : b < w.heap.size := by
  obtain ⟨b', o', hA, hb, _⟩ := h h0
  cases hA
  exact hb
theorem quiet_load {P : Program} {o : Oper} {a : Act} {w : World} {K : Act → Prop} (ty : TypeId) (x : Operand) (ho : o.op = .load ty x) (b off : Nat) (hx : a.eval x = .pointer (some ⟨b, off, none⟩)) (cs : List Value) (d : TypeDesc)
    (hc : w.rangeAt b off cs) (hb : b < w.heap.size) (hu : P.underlying ty = some d) (hd : d.isRow = true) (hi : (P.info? ty).map (·.size) = some cs.length) (k : K (a.put o.dst (.agg cs.toArray))) : o.quiet P a (Grown w) K := by
  refine ⟨_, fun w' hw' => ?_, k⟩
  have hc' : w'.rangeAt b off cs := fun j v hj => by rw [hw'.ext.cells b _ hb]; exact hc j v hj
  unfold Oper.quietAt execOp
  rw [ho]
  simp only [hx, run_loadAt_mid w' b off ty cs d hc' hu hd hi, Sem.run_bind, Sem.run_map, Sem.run_pure, Result.andThen, Oper.quietUpon, and_self]
theorem OwnB.rebase {w : World} {base base' : Nat} {v : Value} {l : List Int} (h : OwnB w base v l) (hb : base' ≤ base) : OwnB w base' v l := by
  refine ⟨h.1, ?_⟩
  rcases h.2 with h0 | ⟨g, cap, cur, hv, hg, r⟩
  · exact .inl h0
  · exact .inr ⟨g, cap, cur, hv, Nat.le_trans hb hg, r⟩
def strOf (ns : List Int) : ByteArray := ns.foldl (fun r n => r.push (UInt8.ofNat n.toNat)) ByteArray.empty
theorem run_str {P : Program} (w : World) (src dst e : TypeId) (hs : P.underlying src = some (.slice e)) (he : P.underlying e = some (.int .u8)) (hd : P.underlying dst = some .string) (b o c : Nat) (ns : List Int)
    (h : ∀ j (hj : j < ns.length), w.cell? ⟨b, o + j, none⟩ = some (.int .u8 ns[j])) : (convert src dst (.slice (some ⟨b, o, none⟩) ns.length c)).run P w = .ok (.string (strOf ns)) w := by
  rw [run_convert_bytes_string w src dst e _ _ _ hs he hd]
  refine run_bytesToString w ⟨b, o, none⟩ ns.length c ns ?_
  have := run_loadCells_list (P := P) (w := w) ⟨b, o, none⟩ (ns.map (Value.int .u8)) (fun j v hv => by
    rw [Addr.add_lit]
    rw [List.getElem?_map] at hv
    by_cases hj : j < ns.length
    · rw [List.getElem?_eq_getElem hj] at hv
      rw [h j hj]
      exact hv
    · simp [hj] at hv)
  simpa using this

theorem strOf_list (l : List Int) : (strOf l).data.toList = l.map fun n => UInt8.ofNat n.toNat := by
  have h : ∀ (l : List Int) (r : ByteArray), (l.foldl (fun r n => r.push (UInt8.ofNat n.toNat)) r).data.toList = r.data.toList ++ l.map fun n => UInt8.ofNat n.toNat := by
    intro l
    induction l with
    | nil => intro r; simp
    | cons n l ih => intro r; rw [List.foldl_cons, ih]; simp [ByteArray.push]
  simpa [strOf] using h l ByteArray.empty
def byteL (l : List Int) : Prop := ∀ n ∈ l, 0 ≤ n ∧ n ≤ 255
theorem strOf_inj {l m : List Int} (hl : byteL l) (hm : byteL m) (h : strOf l = strOf m) : l = m := by
  have e : (l.map fun n => UInt8.ofNat n.toNat) = m.map fun n => UInt8.ofNat n.toNat := by rw [← strOf_list, ← strOf_list, h]
  clear h
  induction l generalizing m with
  | nil => cases m with
    | nil => rfl
    | cons y m => simp at e
  | cons x l ih => cases m with
    | nil => simp at e
    | cons y m =>
      simp only [List.map_cons, List.cons.injEq] at e
      have hx := hl x (by simp)
      have hy := hm y (by simp)
      have e1 := congrArg UInt8.toNat e.1
      simp only [UInt8.toNat_ofNat'] at e1
      rw [ih (fun n hn => hl n (by simp [hn])) (fun n hn => hm n (by simp [hn])) e.2]
      rw [show x = y by omega]
theorem strOf_eq {l m : List Int} (hl : byteL l) (hm : byteL m) : (strOf l = strOf m) = (l = m) := propext ⟨strOf_inj hl hm, fun h => by rw [h]⟩
theorem run_str_any {P : Program} (w : World) (src dst e : TypeId) (hs : P.underlying src = some (.slice e)) (he : P.underlying e = some (.int .u8)) (hd : P.underlying dst = some .string) (A : Option Addr) (c : Nat) (ns : List Int)
    (h : RdB w A ns) (h0 : ns = [] → A = none) : (convert src dst (.slice A ns.length c)).run P w = .ok (.string (strOf ns)) w := by
  by_cases hn : 0 < ns.length
  · obtain ⟨b, o, rfl, _, hc⟩ := h hn
    exact run_str w src dst e hs he hd b o c ns hc
  · have e0 : ns = [] := by cases ns with
      | nil => rfl
      | cons x l => simp at hn
    rw [h0 e0, e0]
    exact run_convert_bytes_nil (w := w) src e hs he _ c dst hd
/-- A text of bytes, in a region that draws. -/
theorem quiet_str {P : Program} {o : Oper} {a : Act} {w : World} {K : Act → Prop} (src dst e : TypeId) (x : Operand) (ho : o.op = .convert src dst x) (hs : P.underlying src = some (.slice e)) (he : P.underlying e = some (.int .u8))
    (hd : P.underlying dst = some .string) (A : Option Addr) (c n : Nat) (l : List Int) (hx : a.eval x = .slice A n c) (hn : n = l.length) (hr : RdB w A l) (h0 : l = [] → A = none) (k : K (a.put o.dst (.string (strOf l)))) : o.quiet P a (Grown w) K := by
  subst hn
  refine ⟨_, fun w' hw' => ?_, k⟩
  have h1 := run_str_any (P := P) w' src dst e hs he hd A c l (hr.ext hw'.ext) h0
  unfold Oper.quietAt execOp
  rw [ho]
  simp [hx, h1, Sem.run_bind, Sem.run_pure, Result.andThen, Oper.quietUpon]

end Go.Proofs.Ytgpeabbbeidhpaa
