/- Layer 16: a Builder. -/
import Derived.Test.YtdhpbofpomefoaaDoorAsmB0
import Derived.Test.YtdhpbofpomefoaaDoorAsmJ
import Derived.Test.YtdhpbofpomefoaaDoorAsmN
import Derived.Maps.AppendAt
import Derived.Lib.Builder
import Derived.Lib.OthersKept
import Derived.Lib.AppendStr
import Derived.Shelf.Strings.Builder1
namespace Go.Proofs.YtdhpbofpomefoaaDoor
set_option linter.unusedSimpArgs false
set_option linter.unusedVariables false
open Go.RowKit

set_option maxRecDepth 100000
theorem byteInfo : (Tryd.prog.info? 5).map (fun i => (i.zero, i.size, i.bytes)) = some (some (.int .u8 0), 1, 1) := by kernel_rfl
theorem bldSize : (Tryd.prog.info? 61).map (·.size) = some 2 := by kernel_rfl
theorem bldLies : liesAt Tryd.prog Tryd.prog.depth 61 (2 / Tryd.prog.cellsOf 61) 0 61 1 = true := by kernel_rfl
set_option maxHeartbeats 1000000 in
theorem copyUsed (b : Nat) (w : World) (h0 : w.cell? ⟨b, 0, none⟩ = some (.pointer (some ⟨b, 0, none⟩))) :
    Calls Tryd.prog 49 #[.pointer (some ⟨b, 0, none⟩)] w fun e w' => e = .returned (.tuple #[]) ∧ w = w' := by
  obtain ⟨j, hj, hjs⟩ := Option.map_eq_some_iff.1 bldSize
  clear hjs
  go_enter Tryd.func49, Tryd.ntmps49
  go_wp2
  rw [Lib.run_neq_ptr_same w _ Tryd.underlying58 hj]
  go_wp2
  go_end0
  exact ⟨rfl, rfl⟩
set_option maxHeartbeats 1000000 in
theorem copyFresh (b : Nat) (w : World) (h0 : w.cell? ⟨b, 0, none⟩ = some (.pointer none)) (hsh : w.shape? b = some (61, 2)) (hfz : w.frozen? ⟨b, 0, none⟩ = false) :
    Calls Tryd.prog 49 #[.pointer (some ⟨b, 0, none⟩)] w fun e w' => e = .returned (.tuple #[]) ∧ w.setCell ⟨b, 0, none⟩ (.pointer (some ⟨b, 0, none⟩)) = w' := by
  obtain ⟨j, hj, hjs⟩ := Option.map_eq_some_iff.1 bldSize
  have hjz : j.size ≠ 0 := by omega
  clear hjs
  go_enter Tryd.func49, Tryd.ntmps49
  go_wp2
  rw [Lib.run_to_unsafe w ⟨b, 0, none⟩ Tryd.underlying58 Tryd.underlying93 hj hjz hsh (Nat.zero_lt_succ 1)]
  simp only [Result.andThen]
  rw [Oper.upon_value]
  go_wp2
  rw [run_callFunc_extern Tryd.func64 (by kernel_rfl) (by kernel_rfl) (by kernel_rfl) (e := Extern.AbiNoEscape.same) (by kernel_rfl)]
  rw [Lib.run_noEscape]
  simp only [Result.andThen]
  rw [Oper.upon_value]
  go_wp2
  rw [Lib.run_from_unsafe w ⟨b, 0, none⟩ Tryd.underlying93 Tryd.underlying58 hj hsh bldLies]
  simp only [Result.andThen]
  rw [Oper.upon_value]
  go_wp2
  go_end0
  exact ⟨rfl, rfl⟩
theorem copyCheck (B b : Nat) (bs : List Value) (w : World) (h : Lib.IsBuilder 61 5 B b bs w) :
    Calls Tryd.prog 49 #[.pointer (some ⟨b, 0, none⟩)] w fun e w' => e = .returned (.tuple #[]) ∧
      Lib.BuilderAt 61 5 B b (.pointer (some ⟨b, 0, none⟩)) bs w' ∧ w.grownBy w' (some b) := by
  rcases h with h | h
  · refine (copyFresh b w h.cell0 h.shape h.frozen0).mono ?_
    rintro e w' ⟨rfl, rfl⟩
    exact ⟨rfl, h.used _, ⟨rfl, rfl, rfl, by simp [World.setCell], fun k _ hk => Below.heap_setCell _ _ _ _ (fun e => hk (by rw [e]))⟩⟩
  · refine (copyUsed b w h.cell0).mono ?_
    rintro e w' ⟨rfl, rfl⟩
    exact ⟨rfl, h, World.grownBy.refl _ _⟩
theorem ownsRow_form {w : World} {B : Nat} {e : TypeId} {size : Nat} {v : Value} {n : Nat} {xs : List Value} (h : w.ownsRow B e size v n xs) : ∃ A cp, v = .slice A n cp := by
  rcases h.2 with ⟨rfl, rfl⟩ | ⟨g, cap, cur, rfl, _⟩
  · exact ⟨none, 0, rfl⟩
  · exact ⟨_, cap, rfl⟩
theorem builderAt_alloc {T e : TypeId} {B b : Nat} {p : Value} {bs : List Value} {w : World} (h : Lib.BuilderAt T e B b p bs w) (o : Obj) : Lib.BuilderAt T e B b p bs (w.alloc o) := by
  obtain ⟨h1, v, h2, h3, h4⟩ := h
  exact ⟨h1, v, (Below.heap_alloc _ _ _ (Array.getElem?_eq_some_iff.1 h2).1).trans h2, h3.alloc o, h4⟩
theorem ownsRow_cells {w w' : World} {base : Nat} {e : TypeId} {size : Nat} {v : Value} {n : Nat} {xs : List Value} (h : w.ownsRow base e size v n xs)
    (hk : ∀ (j : Nat) c t f, w.heap[j]? = some (Obj.cells c t f) → w'.heap[j]? = some (Obj.cells c t f)) : w'.ownsRow base e size v n xs := by
  obtain ⟨h1, h2⟩ := h
  refine ⟨h1, ?_⟩
  rcases h2 with h2 | ⟨g, cap, cur, hv, hg, hh, r⟩
  · exact .inl h2
  · exact .inr ⟨g, cap, cur, hv, hg, hk _ _ _ _ hh, r⟩
theorem isBuilder_cells {T e : TypeId} {B b : Nat} {bs : List Value} {w w' : World} (h : Lib.IsBuilder T e B b bs w)
    (hk : ∀ (j : Nat) c t f, w.heap[j]? = some (Obj.cells c t f) → w'.heap[j]? = some (Obj.cells c t f)) : Lib.IsBuilder T e B b bs w' := by
  rcases h with ⟨h1, v, h2, h3, h4⟩ | ⟨h1, v, h2, h3, h4⟩
  · exact .inl ⟨h1, v, hk _ _ _ _ h2, ownsRow_cells h3 hk, h4⟩
  · exact .inr ⟨h1, v, hk _ _ _ _ h2, ownsRow_cells h3 hk, h4⟩
theorem isBuilder_alloc {T e : TypeId} {B b : Nat} {bs : List Value} {w : World} (h : Lib.IsBuilder T e B b bs w) (o : Obj) : Lib.IsBuilder T e B b bs (w.alloc o) := by
  rcases h with h | h
  · exact .inl (builderAt_alloc h o)
  · exact .inr (builderAt_alloc h o)
theorem isBuilder_ext {T e : TypeId} {B b : Nat} {bs : List Value} {w w' : World} (h : Lib.IsBuilder T e B b bs w) (x : Ext w w') : Lib.IsBuilder T e B b bs w' :=
  isBuilder_cells h fun j c t f hj => (x.block j (Array.getElem?_eq_some_iff.1 hj).1).trans hj
set_option maxHeartbeats 1000000 in
theorem writeStr (B b : Nat) (bs : List Value) (s : ByteArray) (w : World) (h : Lib.IsBuilder 61 5 B b bs w) (hn : bs.length + s.size ≤ 100000000) (hB : B ≤ w.heap.size) :
    Calls Tryd.prog 34 #[.pointer (some ⟨b, 0, none⟩), .string s] w fun e w' => e = .returned (.tuple #[.int .i64 s.size, .nilIface]) ∧ Hid (Lib.IsBuilder 61 5 B b (bs ++ Lib.strCells s) w') ∧ Hid (Below B w w') := by
  obtain ⟨i0, hi, hz0, hz1, hz2⟩ := info_parts byteInfo
  have HI := hid h
  clear h
  go_enter Tryd.func34, Tryd.ntmps34
  go_wp2_with fail
  refine (copyCheck B b bs w HI.out).mono ?_
  rintro e w1 ⟨rfl, ⟨hBb, v, hb, hown, hne⟩, hg1⟩
  obtain ⟨A, cp, rfl⟩ := ownsRow_form hown
  have c1 : w1.cell? ⟨b, 1, none⟩ = some (.slice A bs.length cp) := Lib.cell_of_heap hb 1
  have f1 := Lib.frozen_of_heap hb 1
  have hb1 : Below B w w1 := (Below.refl B w).grown hg1 hB (fun k e => by cases e; exact hBb)
  have hB1 : B ≤ w1.heap.size := Nat.le_trans hB hb1.size
  have hlt : b < w1.heap.size := (Array.getElem?_eq_some_iff.1 hb).1
  have HN := hid hne
  have HO := hid hown
  have HBB := hid hb
  clear hne hown hb hg1
  go_wp2_with (at_builtin; refine Lib.wpList_append_own_string _ rfl _ _ 59 9 rfl B 5 i0 Tryd.underlying59 Tryd.underlying9 hi hz0 hz1 hz2 (.slice A bs.length cp) bs.length bs rfl HO.out s rfl (by unfold maxLen; omega) (by omega) hB1 ?_; intro v' w2 hown2 hg2 hat2; obtain ⟨A', cp', rfl⟩ := ownsRow_form hown2; have HB2 := hid ((hg2.block b hlt (fun e => HN.out e.symm)).trans HBB.out); have c2 : w2.cell? ⟨b, 1, none⟩ = some (.slice A bs.length cp) := Lib.cell_of_heap HB2.out 1; have f2 := Lib.frozen_of_heap HB2.out 1; have HBW := hid ((Below.refl B w1).grown hg2 hB1 (fun k e => (HO.out.lt k e).1)); have HO2 := hid hown2; clear hg2 hown2 hat2)
  go_ret2
  exact ⟨rfl, hid (.inr (Lib.BuilderAt.put hBb HB2.out (by rw [List.length_append, Lib.strCells_length]; exact HO2.out) (by decide))), hid ((hb1.trans HBW.out).setCell hBb _)⟩
theorem linesL_take {l : List In} {k : Nat} (h : k < l.length) : linesL (l.take (k + 1)) = linesL (l.take k) ++ lineL l[k] := by
  unfold linesL
  rw [List.take_succ_eq_append_getElem h, List.flatMap_append]
  simp
theorem lineL_len (x : In) : (lineL x).length ≤ 61 := by
  unfold lineL
  split
  · have := textL_len x.op x.a x.b x.c
    show (textL x.op x.a x.b x.c ++ [10]).length ≤ 61
    rw [List.length_append]
    simp
    omega
  · simp
theorem linesL_len (l : List In) : (linesL l).length ≤ 61 * l.length := by
  induction l with
  | nil => simp [linesL]
  | cons x l ih =>
    have h1 := lineL_len x
    have h2 : linesL (x :: l) = lineL x ++ linesL l := by simp [linesL]
    rw [h2, List.length_append, List.length_cons]
    omega

end Go.Proofs.YtdhpbofpomefoaaDoor
