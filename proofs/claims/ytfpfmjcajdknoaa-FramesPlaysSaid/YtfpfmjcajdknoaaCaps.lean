/- Rows of capabilities in memory. -/
import Derived.Test.YtfpfmjcajdknoaaH
import Derived.Test.YtfpfmjcajdknoaaCap
namespace Go.Proofs.Ytfpfmjcajdknoaa
set_option linter.unusedSimpArgs false
set_option linter.unusedVariables false
open Go.RowKit


def Cap.cells (c : Cap) : List Value := [.bool c.tag, .int .i64 c.base, .int .i64 c.top, .int .i64 c.at_, .int .i64 c.perms, .int .i64 c.type]
def nullC : Cap := ⟨false, 0, 0, 0, 0, 0⟩
theorem Row.six {w : World} {b o : Nat} {c : Cap} (h : Row w b o c.cells) : b < w.heap.size ∧ w.cell? ⟨b, o, none⟩ = some (.bool c.tag) ∧ w.cell? ⟨b, o + 1, none⟩ = some (.int .i64 c.base) ∧ w.cell? ⟨b, o + 2, none⟩ = some (.int .i64 c.top) ∧
    w.cell? ⟨b, o + 3, none⟩ = some (.int .i64 c.at_) ∧ w.cell? ⟨b, o + 4, none⟩ = some (.int .i64 c.perms) ∧ w.cell? ⟨b, o + 5, none⟩ = some (.int .i64 c.type) :=
  ⟨h.lt, h.at_ 0 _ rfl, h.at_ 1 _ rfl, h.at_ 2 _ rfl, h.at_ 3 _ rfl, h.at_ 4 _ rfl, h.at_ 5 _ rfl⟩
theorem Row.frees {w : World} {b o : Nat} {c : Cap} (h : Row w b o c.cells) : w.frozen? ⟨b, o, none⟩ = false ∧ w.frozen? ⟨b, o + 1, none⟩ = false ∧ w.frozen? ⟨b, o + 2, none⟩ = false ∧
    w.frozen? ⟨b, o + 3, none⟩ = false ∧ w.frozen? ⟨b, o + 4, none⟩ = false ∧ w.frozen? ⟨b, o + 5, none⟩ = false :=
  have hl : c.cells.length = 6 := rfl
  ⟨h.free 0 (by omega), h.free 1 (by omega), h.free 2 (by omega), h.free 3 (by omega), h.free 4 (by omega), h.free 5 (by omega)⟩
theorem size_setCells (b : Nat) : ∀ (vs : List Value) (o : Nat) (w : World), (w.setCells b o vs).heap.size = w.heap.size
  | [], _, _ => rfl
  | v :: r, o, w => by rw [World.setCells, size_setCells b r, World.size_setCell]
theorem Row.put {w : World} {b o : Nat} {vs us : List Value} (h : Row w b o vs) (hl : us.length = vs.length) : Row (w.setCells b o us) b o us :=
  ⟨by rw [size_setCells]; exact h.lt, World.rangeAt_setCells_same w b o us (by rw [hl]; exact h.there), fun j hj => by rw [World.frozen?_setCells]; exact h.free j (by omega)⟩
theorem Row.apart {w : World} {b o b' o' : Nat} {vs us : List Value} (h : Row w b o vs) (hap : b ≠ b' ∨ o + vs.length ≤ o' ∨ o' + us.length ≤ o) : Row (w.setCells b' o' us) b o vs :=
  ⟨by rw [size_setCells]; exact h.lt, World.rangeAt_setCells_apart h.range b' o' us hap, fun j hj => by rw [World.frozen?_setCells]; exact h.free j hj⟩
/-- So many capabilities at a block, one behind the other. -/
def Caps (w : World) (b o n : Nat) (L : Nat → Cap) : Prop := ∀ i, i < n → Row w b (o + i * 6) (L i).cells
theorem Caps.only {S : Nat → Prop} {w w' : World} {b o n : Nat} {L : Nat → Cap} (h : Caps w b o n L) (x : Only S w w') (hs : ¬ S b) : Caps w' b o n L := fun i hi => (h i hi).only x hs
theorem Caps.keep {w w' : World} {b o n : Nat} {L : Nat → Cap} (h : Caps w b o n L) (x : Keep b w w') : Caps w' b o n L := h.only x (by simp)
theorem Caps.ext {w w' : World} {b o n : Nat} {L : Nat → Cap} (h : Caps w b o n L) (x : Ext w w') : Caps w' b o n L := fun i hi => (h i hi).ext x
def upd (L : Nat → Cap) (k : Nat) (c : Cap) : Nat → Cap := fun i => if i = k then c else L i
theorem Caps.put {w : World} {b o n : Nat} {L : Nat → Cap} (h : Caps w b o n L) {k : Nat} (hk : k < n) (c : Cap) : Caps (w.setCells b (o + k * 6) c.cells) b o n (upd L k c) := fun i hi => by
  unfold upd
  by_cases e : i = k
  · subst e
    rw [if_pos rfl]
    exact (h i hi).put rfl
  · rw [if_neg e]
    refine (h i hi).apart (.inr ?_)
    simp only [Cap.cells, List.length_cons, List.length_nil]
    omega
theorem capField0 (t : Bool) (b tp a p ty : Int) (w : World) : (Instr.field 29 (.agg #[.bool t, .int .i64 b, .int .i64 tp, .int .i64 a, .int .i64 p, .int .i64 ty]) 0).run Try.prog w = .ok (.bool t) w := by kernel_rfl
theorem capField1 (t : Bool) (b tp a p ty : Int) (w : World) : (Instr.field 29 (.agg #[.bool t, .int .i64 b, .int .i64 tp, .int .i64 a, .int .i64 p, .int .i64 ty]) 1).run Try.prog w = .ok (.int .i64 b) w := by kernel_rfl
theorem capField2 (t : Bool) (b tp a p ty : Int) (w : World) : (Instr.field 29 (.agg #[.bool t, .int .i64 b, .int .i64 tp, .int .i64 a, .int .i64 p, .int .i64 ty]) 2).run Try.prog w = .ok (.int .i64 tp) w := by kernel_rfl
theorem capField3 (t : Bool) (b tp a p ty : Int) (w : World) : (Instr.field 29 (.agg #[.bool t, .int .i64 b, .int .i64 tp, .int .i64 a, .int .i64 p, .int .i64 ty]) 3).run Try.prog w = .ok (.int .i64 a) w := by kernel_rfl
theorem capField4 (t : Bool) (b tp a p ty : Int) (w : World) : (Instr.field 29 (.agg #[.bool t, .int .i64 b, .int .i64 tp, .int .i64 a, .int .i64 p, .int .i64 ty]) 4).run Try.prog w = .ok (.int .i64 p) w := by kernel_rfl
theorem capField5 (t : Bool) (b tp a p ty : Int) (w : World) : (Instr.field 29 (.agg #[.bool t, .int .i64 b, .int .i64 tp, .int .i64 a, .int .i64 p, .int .i64 ty]) 5).run Try.prog w = .ok (.int .i64 ty) w := by kernel_rfl
attribute [go_sem] capField0 capField1 capField2 capField3 capField4 capField5
theorem cells_agg (c : Cap) : (.agg c.cells.toArray : Value) = .agg #[.bool c.tag, .int .i64 c.base, .int .i64 c.top, .int .i64 c.at_, .int .i64 c.perms, .int .i64 c.type] := rfl

/-- Their cells, in a row. -/
def capsList (n : Nat) (L : Nat → Cap) : List Value := (List.range n).flatMap fun i => (L i).cells
theorem capsList_succ (n : Nat) (L : Nat → Cap) : capsList (n + 1) L = capsList n L ++ (L n).cells := by
  simp [capsList, List.range_succ, List.flatMap_append]
theorem cells_length (c : Cap) : c.cells.length = 6 := rfl
theorem capsList_length : ∀ (n : Nat) (L : Nat → Cap), (capsList n L).length = n * 6
  | 0, _ => rfl
  | n + 1, L => by rw [capsList_succ, List.length_append, capsList_length n L, cells_length]; omega
theorem capsList_at : ∀ (n : Nat) (L : Nat → Cap) (i j : Nat), i < n → j < 6 → (capsList n L)[i * 6 + j]? = (L i).cells[j]?
  | 0, _, _, _, h, _ => absurd h (by omega)
  | n + 1, L, i, j, hi, hj => by
    rw [capsList_succ]
    by_cases e : i < n
    · rw [List.getElem?_append_left (by rw [capsList_length]; omega)]
      exact capsList_at n L i j e hj
    · obtain rfl : i = n := by omega
      rw [List.getElem?_append_right (by rw [capsList_length]; omega), capsList_length]
      congr 1
      omega
theorem capsArr_size (n : Nat) (L : Nat → Cap) : (capsList n L).toArray.size = n * 6 := by simp [capsList_length]
theorem capsList_one (n : Nat) (L : Nat → Cap) : ∀ v ∈ capsList n L, v.oneCell' = true := by
  intro v hv
  obtain ⟨i, _, hi⟩ := List.mem_flatMap.1 hv
  simp only [Cap.cells, List.mem_cons, List.not_mem_nil, or_false] at hi
  rcases hi with rfl | rfl | rfl | rfl | rfl | rfl <;> rfl
theorem cells_one (c : Cap) : ∀ v ∈ c.cells, v.oneCell' = true := by
  intro v hi
  simp only [Cap.cells, List.mem_cons, List.not_mem_nil, or_false] at hi
  rcases hi with rfl | rfl | rfl | rfl | rfl | rfl <;> rfl
theorem capsList_congr {n : Nat} {L M : Nat → Cap} (h : ∀ i, i < n → L i = M i) : capsList n L = capsList n M := by
  induction n with
  | zero => rfl
  | succ n ih => rw [capsList_succ, capsList_succ, ih (fun i hi => h i (by omega)), h n (by omega)]
/-- Cells lie there, to be read. -/
structure Rng (w : World) (b o : Nat) (vs : List Value) : Prop where
  lt : b < w.heap.size
  at_ : ∀ j v, vs[j]? = some v → w.cell? ⟨b, o + j, none⟩ = some v
theorem Rng.range {w : World} {b o : Nat} {vs : List Value} (h : Rng w b o vs) : w.rangeAt b o vs := h.at_
theorem Row.rng {w : World} {b o : Nat} {vs : List Value} (h : Row w b o vs) : Rng w b o vs := ⟨h.lt, h.at_⟩
theorem Rng.only {S : Nat → Prop} {w w' : World} {b o : Nat} {vs : List Value} (h : Rng w b o vs) (x : Only S w w') (hs : ¬ S b) : Rng w' b o vs :=
  ⟨Nat.lt_of_lt_of_le h.lt x.size, fun j v hj => by rw [x.cells b _ h.lt hs]; exact h.at_ j v hj⟩
theorem Rng.ext {w w' : World} {b o : Nat} {vs : List Value} (h : Rng w b o vs) (x : Ext w w') : Rng w' b o vs := h.only (Only.ofExt (S := fun _ => False) x) id
theorem Rng.six {w : World} {b o : Nat} {c : Cap} (h : Rng w b o c.cells) : b < w.heap.size ∧ w.cell? ⟨b, o, none⟩ = some (.bool c.tag) ∧ w.cell? ⟨b, o + 1, none⟩ = some (.int .i64 c.base) ∧ w.cell? ⟨b, o + 2, none⟩ = some (.int .i64 c.top) ∧
    w.cell? ⟨b, o + 3, none⟩ = some (.int .i64 c.at_) ∧ w.cell? ⟨b, o + 4, none⟩ = some (.int .i64 c.perms) ∧ w.cell? ⟨b, o + 5, none⟩ = some (.int .i64 c.type) :=
  ⟨h.lt, h.at_ 0 _ rfl, h.at_ 1 _ rfl, h.at_ 2 _ rfl, h.at_ 3 _ rfl, h.at_ 4 _ rfl, h.at_ 5 _ rfl⟩
/-- A slice of capabilities, to be read. -/
def RdC (w : World) (A : Option Addr) (n : Nat) (M : Nat → Cap) : Prop := 0 < n → ∃ b o, A = some ⟨b, o, none⟩ ∧ ∀ i, i < n → Rng w b (o + i * 6) (M i).cells
theorem RdC.ext {w w' : World} {A : Option Addr} {n : Nat} {M : Nat → Cap} (h : RdC w A n M) (x : Ext w w') : RdC w' A n M := fun h0 => by
  obtain ⟨b, o, hA, hc⟩ := h h0
  exact ⟨b, o, hA, fun i hi => (hc i hi).ext x⟩
theorem RdC.keep {w w' : World} {b o n : Nat} {M : Nat → Cap} (h : RdC w (some ⟨b, o, none⟩) n M) (x : Keep b w w') : RdC w' (some ⟨b, o, none⟩) n M := fun h0 => by
  obtain ⟨b', o', hA, hc⟩ := h h0
  cases hA
  exact ⟨b, o, rfl, fun i hi => (hc i hi).only x (by simp)⟩
theorem RdC.only {S : Nat → Prop} {w w' : World} {b o n : Nat} {M : Nat → Cap} (h : RdC w (some ⟨b, o, none⟩) n M) (x : Only S w w') (hs : ¬ S b) : RdC w' (some ⟨b, o, none⟩) n M := fun h0 => by
  obtain ⟨b', o', hA, hc⟩ := h h0
  cases hA
  exact ⟨b, o, rfl, fun i hi => (hc i hi).only x hs⟩
theorem Caps.rd {w : World} {b o n : Nat} {L : Nat → Cap} (h : Caps w b o n L) : RdC w (some ⟨b, o, none⟩) n L := fun _ => ⟨b, o, rfl, fun i hi => (h i hi).rng⟩
theorem Caps.row {w : World} {b o n : Nat} {L : Nat → Cap} (h : Caps w b o n L) (h0 : 0 < n) : Row w b o (capsList n L) := by
  refine ⟨(h 0 h0).lt, fun j v hj => ?_, fun j hj => ?_⟩
  · have hlt : j < n * 6 := by
      have := (List.getElem?_eq_some_iff.1 hj).1
      rwa [capsList_length] at this
    have e : j = j / 6 * 6 + j % 6 := by omega
    rw [e, capsList_at n L (j / 6) (j % 6) (by omega) (by omega)] at hj
    have := (h (j / 6) (by omega)).at_ _ v hj
    rwa [show o + j / 6 * 6 + j % 6 = o + j by omega] at this
  · rw [capsList_length] at hj
    have := (h (j / 6) (by omega)).free (j % 6) (by rw [cells_length]; omega)
    rwa [show o + j / 6 * 6 + j % 6 = o + j by omega] at this
theorem RdC.rng {w : World} {b o n : Nat} {M : Nat → Cap} (h0 : 0 < n) (h : ∀ i, i < n → Rng w b (o + i * 6) (M i).cells) : Rng w b o (capsList n M) := by
  refine ⟨(h 0 h0).lt, fun j v hj => ?_⟩
  have hlt : j < n * 6 := by
    have := (List.getElem?_eq_some_iff.1 hj).1
    rwa [capsList_length] at this
  have e : j = j / 6 * 6 + j % 6 := by omega
  rw [e, capsList_at n M (j / 6) (j % 6) (by omega) (by omega)] at hj
  have := (h (j / 6) (by omega)).at_ _ v hj
  rwa [show o + j / 6 * 6 + j % 6 = o + j by omega] at this
theorem Caps.there {w : World} {b o n : Nat} {L : Nat → Cap} (h : Caps w b o n L) (h0 : 0 < n) : w.there b o (n * 6) := by
  have := (h.row h0).there
  rwa [capsList_length] at this
theorem there_ext {w w' : World} {b o n : Nat} (h : b < w.heap.size ∧ w.there b o n) (x : Ext w w') : w'.there b o n := fun j hj => by
  rw [x.cells b _ h.1, x.frozens b _ h.1]
  exact h.2 j hj
theorem Caps.thereArr {w : World} {b o n : Nat} {L : Nat → Cap} (h : Caps w b o n L) (h0 : 0 < n) (M : Nat → Cap) : b < w.heap.size ∧ w.there b o (capsList n M).toArray.size := ⟨(h 0 h0).lt, by rw [capsArr_size]; exact h.there h0⟩
theorem Caps.ofRow {w : World} {b o n : Nat} {L : Nat → Cap} (h : Row w b o (capsList n L)) : Caps w b o n L := fun i hi => by
  refine ⟨h.lt, fun j v hj => ?_, fun j hj => ?_⟩
  · have hlt : j < 6 := (List.getElem?_eq_some_iff.1 hj).1
    rw [show o + i * 6 + j = o + (i * 6 + j) by omega]
    exact h.at_ _ v (by rw [capsList_at n L i j hi hlt]; exact hj)
  · rw [cells_length] at hj
    rw [show o + i * 6 + j = o + (i * 6 + j) by omega]
    exact h.free _ (by rw [capsList_length]; omega)
theorem Row.new (w : World) (cs : Array Value) (T : TypeId) : Row (w.alloc (.cells cs T)) w.heap.size 0 cs.toList :=
  ⟨by simp, fun j v hj => by simp [go_sem]; simpa using hj, fun j hj => by simp [go_sem]⟩
theorem there_new (w : World) (cs : Array Value) (T : TypeId) (n : Nat) (h : cs.size = n) : (w.alloc (.cells cs T)).there w.heap.size 0 n := by
  have := (Row.new w cs T).there
  rwa [Array.length_toList, h] at this
theorem capsArr_one (n : Nat) (L : Nat → Cap) : (capsList n L).toArray.all (·.oneCell') = true := all_oneCell_toArray (capsList_one n L)
theorem Caps.ofAlloc {w : World} {cs : Array Value} {T : TypeId} {n : Nat} {L : Nat → Cap} (h : cs.toList = capsList n L) : Caps (w.alloc (.cells cs T)) w.heap.size 0 n L :=
  Caps.ofRow (h ▸ Row.new w cs T)
theorem Caps.ofAllocAt {w : World} {b : Nat} {cs : Array Value} {T : TypeId} {n : Nat} {L : Nat → Cap} (hb : b = w.heap.size) (h : cs.toList = capsList n L) : Caps (w.alloc (.cells cs T)) b 0 n L := by
  subst hb
  exact Caps.ofAlloc h
theorem Caps.congr {w : World} {b o n : Nat} {L M : Nat → Cap} (h : Caps w b o n L) (e : ∀ i, i < n → L i = M i) : Caps w b o n M := fun i hi => e i hi ▸ h i hi

end Go.Proofs.Ytfpfmjcajdknoaa
