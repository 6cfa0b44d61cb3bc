/- MBase: G H Step StepT StepO StepM OwnAt Perm Cap Ref2 Bytes Law LawB -/
import Derived.Test.YtgldlkoohfclpaaProg
import Derived.Test.YtgldlkoohfclpaaRows
import Derived.WalkKit
import Derived.WalkSpells
import Derived.WalkLawsBesides
import Derived.ProofKit
import Derived.OpenShut
import Derived.Deep.QuietTactic
import Derived.BigQuiet
import Derived.Deep.RegionHeld3
import Derived.Deep.Cut
import Derived.Deep.MidRow
import Derived.Deep.AppendLies
import Derived.Great.BuildSlice
import Derived.Deep.AppendSrc
import Derived.Maps.AppendAt
import Derived.OwnWalk
import Derived.Laws.BytesString
import Derived.Laws.BytesArg
import Derived.Laws.Cells
import Derived.Lib.SmallJoins
import Derived.Deep.Fields
import Derived.Deep.Slices
namespace Go.Proofs.Ytgldlkoohfclpaa
set_option maxRecDepth 100000
set_option linter.unusedSimpArgs false
set_option linter.unusedVariables false
open Go.RowKit

theorem hid {p : Prop} (h : p) : Hid p := h

/-- Nothing that was there has turned; there may be new blocks. -/
def Ext (w w' : World) : Prop := Below w.heap.size w w'

theorem Ext.refl (w : World) : Ext w w := Below.refl _ _
theorem Ext.trans {a b c : World} (h : Ext a b) (k : Ext b c) : Ext a c := Below.trans h (Below.mono k h.size)
theorem Ext.drew {a w : World} (h : Ext a w) : Ext a w.drew := Below.drew h
theorem Ext.undrew {a w : World} (h : Ext a w) : Ext a.drew w := ⟨h.os, h.tape, h.output, h.size, h.block⟩
theorem Ext.drewN {a w : World} (h : Ext a w) (n : Nat) : Ext a (w.drewN n) := ⟨h.os, h.tape, h.output, h.size, h.block⟩
theorem Ext.alloc {a w : World} (h : Ext a w) (o : Obj) : Ext a (w.alloc o) := Below.alloc h h.size o
theorem Ext.size {a w : World} (h : Ext a w) : a.heap.size ≤ w.heap.size := Below.size h
theorem Ext.setCell {a w : World} (h : Ext a w) {p : Addr} (hp : a.heap.size ≤ p.block) (u : Value) : Ext a (w.setCell p u) := Below.setCell h hp u
theorem Ext.cells {a w : World} (h : Ext a w) : ∀ b o, b < a.heap.size → w.cell? ⟨b, o, none⟩ = a.cell? ⟨b, o, none⟩ :=
  fun _ _ hb => Below.cell (p := ⟨_, _, none⟩) h hb
theorem Ext.frozens {a w : World} (h : Ext a w) : ∀ b o, b < a.heap.size → w.frozen? ⟨b, o, none⟩ = a.frozen? ⟨b, o, none⟩ :=
  fun _ _ hb => Below.frozen (p := ⟨_, _, none⟩) h hb

/-- What a call adds to the world: new blocks, and draws. -/
structure Delta where
  objs : Array Obj
  drawn : Nat

instance : Nonempty Delta := ⟨⟨#[], 0⟩⟩
/-- How many blocks these are. -/
def Delta.n (d : Delta) : Nat := d.objs.size
/-- It is among the last ones. -/
def far (a b c : Nat) : Prop := b ≤ a ∧ a < b + c
theorem far_add (a b : Nat) (d : Delta) : (a < b + d.n) = (a < b ∨ far a b d.n) := by unfold far; apply propext; omega
theorem far_add_add (a b k : Nat) (d : Delta) : (a < b + d.n + k) = (a < b + d.n ∨ far a (b + d.n) k) := by unfold far; apply propext; omega
theorem far_le (a b : Nat) (d : Delta) : (a ≤ b + d.n) = (a ≤ b ∨ far a (b + 1) d.n) := by unfold far; apply propext; omega
theorem far_le_add (a b k : Nat) (d : Delta) : (a ≤ b + d.n + k) = (a ≤ b + d.n ∨ far a (b + d.n + 1) k) := by unfold far; apply propext; omega
theorem ltS2 (n : Nat) : n < n + 1 + 1 := by omega
theorem ltA2 {a b : Nat} (h : a < b) : a < b + 1 + 1 := by omega
theorem ltS3 (n : Nat) : n < n + 1 + 1 + 1 := by omega
theorem ltA3 {a b : Nat} (h : a < b) : a < b + 1 + 1 + 1 := by omega
theorem ltS4 (n : Nat) : n < n + 1 + 1 + 1 + 1 := by omega
theorem ltA4 {a b : Nat} (h : a < b) : a < b + 1 + 1 + 1 + 1 := by omega
theorem ltS5 (n : Nat) : n < n + 1 + 1 + 1 + 1 + 1 := by omega
theorem ltA5 {a b : Nat} (h : a < b) : a < b + 1 + 1 + 1 + 1 + 1 := by omega
theorem ltS6 (n : Nat) : n < n + 1 + 1 + 1 + 1 + 1 + 1 := by omega
theorem ltA6 {a b : Nat} (h : a < b) : a < b + 1 + 1 + 1 + 1 + 1 + 1 := by omega
theorem ltS7 (n : Nat) : n < n + 1 + 1 + 1 + 1 + 1 + 1 + 1 := by omega
theorem ltA7 {a b : Nat} (h : a < b) : a < b + 1 + 1 + 1 + 1 + 1 + 1 + 1 := by omega
theorem ltS8 (n : Nat) : n < n + 1 + 1 + 1 + 1 + 1 + 1 + 1 + 1 := by omega
theorem ltA8 {a b : Nat} (h : a < b) : a < b + 1 + 1 + 1 + 1 + 1 + 1 + 1 + 1 := by omega
theorem ltS9 (n : Nat) : n < n + 1 + 1 + 1 + 1 + 1 + 1 + 1 + 1 + 1 := by omega
theorem ltA9 {a b : Nat} (h : a < b) : a < b + 1 + 1 + 1 + 1 + 1 + 1 + 1 + 1 + 1 := by omega
/-- The world behind a call that turned nothing. -/
def grow (w : World) (d : Delta) : World := { w with heap := w.heap ++ d.objs, drawn := d.drawn }

theorem grow_size (w : World) (d : Delta) : (grow w d).heap.size = w.heap.size + d.n := by simp [grow, Delta.n]
theorem grow_heap (w : World) (d : Delta) (k : Nat) : (grow w d).heap[k]? = if k < w.heap.size then w.heap[k]? else d.objs[k - w.heap.size]? := by
  simp only [grow]
  split
  · rename_i h; rw [Array.getElem?_append_left h]
  · rename_i h; rw [Array.getElem?_append_right (by omega)]
theorem grow_old (w : World) (d : Delta) (k : Nat) (h : k < w.heap.size) : (grow w d).heap[k]? = w.heap[k]? := by rw [grow_heap, if_pos h]
theorem grow_cell (w : World) (d : Delta) (b o : Nat) (h : b < w.heap.size) : (grow w d).cell? ⟨b, o, none⟩ = w.cell? ⟨b, o, none⟩ := by
  simp [World.cell?, grow_heap, h]
theorem grow_frozen (w : World) (d : Delta) (b o : Nat) (h : b < w.heap.size) : (grow w d).frozen? ⟨b, o, none⟩ = w.frozen? ⟨b, o, none⟩ := by
  simp [World.frozen?, grow_heap, h]
theorem grow_setCell (w : World) (d : Delta) (b o : Nat) (v : Value) (h : b < w.heap.size) : (grow w d).setCell ⟨b, o, none⟩ v = grow (w.setCell ⟨b, o, none⟩ v) d := by
  simp only [World.setCell, grow, World.mk.injEq, and_true]
  apply Array.ext
  · simp
  · intro i h1 h2
    simp only [Array.getElem_modify, Array.getElem_append, Array.size_modify]
    by_cases hi : i < w.heap.size
    · simp [hi]
    · simp [hi, show ¬ b = i by omega]
theorem grow_drew (w : World) (d : Delta) : (grow w d).drew = grow w ⟨d.objs, d.drawn + 1⟩ := rfl
theorem grow_of_drew (w : World) (d : Delta) : grow w.drew d = grow w d := rfl
theorem grow_grow (w : World) (d d' : Delta) : grow (grow w d) d' = grow w ⟨d.objs ++ d'.objs, d'.drawn⟩ := by
  simp [grow, Array.append_assoc]
theorem lt_add_of {a b c : Nat} (h : a < b) : a < b + c := by omega
theorem Ext.grown {w w' : World} (h : Ext w w') : ∃ d, w' = grow w d := by
  refine ⟨⟨w'.heap.extract w.heap.size w'.heap.size, w'.drawn⟩, ?_⟩
  obtain ⟨heap, tape, drawn, os, output⟩ := w
  obtain ⟨heap', tape', drawn', os', output'⟩ := w'
  obtain ⟨h1, h2, h3, h4, h5⟩ := h
  simp only at h1 h2 h3 h4 h5
  subst h1 h2 h3
  simp only [grow, World.mk.injEq, and_true]
  apply Array.ext
  · simp; omega
  · intro i hi hi'
    have : heap'[i]? = (heap ++ heap'.extract heap.size heap'.size)[i]? := by
      by_cases hlt : i < heap.size
      · rw [h5 i hlt, Array.getElem?_append_left hlt]
      · rw [Array.getElem?_append_right (by omega), Array.getElem?_extract]
        have hi2 : i < heap'.size := hi
        rw [if_pos (by omega)]
        congr 1
        omega
    rw [Array.getElem?_eq_getElem hi, Array.getElem?_eq_getElem hi'] at this
    exact Option.some.inj this
theorem Ext.grow {a w : World} (h : Ext a w) (d : Delta) : Ext a (grow w d) :=
  Ext.trans h ⟨rfl, rfl, rfl, by rw [grow_size]; omega, fun k hk => by rw [grow_heap, if_pos hk]⟩
theorem Ext.ofGrow {w w' : World} (h : ∃ d, w' = Go.Proofs.Ytgldlkoohfclpaa.grow w d) : Ext w w' := by
  obtain ⟨d, rfl⟩ := h
  exact Ext.grow (Ext.refl w) d
theorem grow_start (w : World) : ∃ d, { w with drawn := w.drawn + 1 } = Go.Proofs.Ytgldlkoohfclpaa.grow w d := ⟨⟨#[], w.drawn + 1⟩, by simp [Go.Proofs.Ytgldlkoohfclpaa.grow]⟩

attribute [go_sem] grow_cell grow_frozen grow_setCell grow_size far_add far_add_add far_le far_le_add ltS2 ltA2 ltS3 ltA3 ltS4 ltA4 ltS5 ltA5 ltS6 ltA6 ltS7 ltA7 ltS8 ltA8 ltS9 ltA9

/-- A contract, met in a region whose order is drawn: what it leaves is the region's world, grown. -/
theorem growOf {P : Program} {f : FuncId} {args : Array Value} {w : World} {d : Delta} {v : Value}
    (h : Calls P f args (Go.Proofs.Ytgldlkoohfclpaa.grow w d) fun e w' => e = .returned v ∧ Ext (Go.Proofs.Ytgldlkoohfclpaa.grow w d) w') :
    Calls P f args (Go.Proofs.Ytgldlkoohfclpaa.grow w d) fun e w'' => e = .returned v ∧ ∃ d', w'' = Go.Proofs.Ytgldlkoohfclpaa.grow w d' :=
  h.mono fun _ _ ⟨he, hx⟩ => ⟨he, by obtain ⟨d', rfl⟩ := hx.grown; exact ⟨_, grow_grow _ _ _⟩⟩
theorem growOfSame {P : Program} {f : FuncId} {args : Array Value} {w : World} {d : Delta} {v : Value}
    (h : Calls P f args (Go.Proofs.Ytgldlkoohfclpaa.grow w d) fun e w' => e = .returned v ∧ Go.Proofs.Ytgldlkoohfclpaa.grow w d = w') :
    Calls P f args (Go.Proofs.Ytgldlkoohfclpaa.grow w d) fun e w'' => e = .returned v ∧ ∃ d', w'' = Go.Proofs.Ytgldlkoohfclpaa.grow w d' :=
  h.mono fun _ _ ⟨he, hx⟩ => ⟨he, d, hx.symm⟩

/-- A region that draws its order, whose operations read and whose calls turn nothing: one walk, in the order of the text. -/
theorem wp_region_grow {P : Program} {id : Nat} {Q : Exit → Act → World → Prop} {a : Act} {w : World} {l l' : List Oper} (hm : P.follows .mixedOrders = true) (hB : Region.lexB .any l.toArray = true) (hl : l = l')
    (h : wpQuiet P l'.toArray (fun w' => ∃ d, w' = Go.Proofs.Ytgldlkoohfclpaa.grow w d) (fun a' => ∀ w', (∃ d, w' = Go.Proofs.Ytgldlkoohfclpaa.grow w d) → Q .normal a' w') l' a) : (Code.region id l.toArray true).wp P Q a w := by
  subst hl
  exact wp_region_quiet (C := fun w' => ∃ d, w' = Go.Proofs.Ytgldlkoohfclpaa.grow w d) hm hB (grow_start w) (by simpa using h)
/-- The slice's cells, from its address on. -/
def SlAt (w : World) (A : Option Addr) (xs : List Value) : Prop :=
  0 < xs.length → ∃ b o, A = some ⟨b, o, none⟩ ∧ b < w.heap.size ∧ ∀ j (h : j < xs.length), w.cell? ⟨b, o + j, none⟩ = some xs[j]
theorem SlAt.ext {w w' : World} {A : Option Addr} {xs : List Value} (h : SlAt w A xs) (e : Ext w w') : SlAt w' A xs := fun h0 => by
  obtain ⟨b, o, hA, hb, hc⟩ := h h0
  exact ⟨b, o, hA, Nat.lt_of_lt_of_le hb e.size, fun j hj => by rw [e.cells b _ hb]; exact hc j hj⟩
theorem slAtNew (w : World) (vs : List Value) (t : TypeId) : SlAt (w.alloc (.cells vs.toArray t)) (some ⟨w.heap.size, 0, none⟩) vs := fun _ =>
  ⟨_, _, rfl, by simp, fun j hj => by simp [go_sem, hj]⟩
theorem slAtNewAt (w : World) (n : Nat) (hn : n = w.heap.size) (vs : List Value) (t : TypeId) : SlAt (w.alloc (.cells vs.toArray t)) (some ⟨n, 0, none⟩) vs := by
  subst hn
  exact slAtNew w vs t
theorem upto_snoc {k : Nat} {p : Nat → Prop} (h : ∀ j, j < k → p j) (hk : p k) : ∀ j, j < k + 1 → p j := fun j hj =>
  if e : j = k then e ▸ hk else h j (by omega)
theorem all_range_false {n k : Nat} {f : Nat → Bool} (hk : k < n) (h : f k = false) : (List.range n).all f = false := by
  rw [List.all_eq_false]; exact ⟨k, by simpa using hk, by simp [h]⟩
theorem all_range_true {n : Nat} {f : Nat → Bool} (h : ∀ k, k < n → f k = true) : (List.range n).all f = true := by
  rw [List.all_eq_true]; intro k hk; exact h k (by simpa using hk)

/-- A region in the order of the text, whose operations read and whose calls turn nothing. -/
theorem wpList_grow {P : Program} {ops : Array Oper} {Q : Exit → Act → World → Prop} {C : World → Prop} : ∀ (l : List Oper) (a : Act) (w : World), C w →
    wpQuiet P ops C (fun a' => ∀ w', C w' → Q .normal a' w') l a → wpList P ops Q l a w
  | [], a, w, hw, h => h w hw
  | o :: l, a, w, hw, h => by
    unfold wpQuiet at h
    unfold wpList
    split
    · rename_i hc
      rw [if_pos hc] at h
      exact .inl (Oper.wp_of_quiet hw (fun a' w' hw' h' => wpList_grow l a' w' hw' h') h)
    · rename_i hc
      rw [if_neg hc] at h
      exact wpList_grow l _ w hw h
theorem wp_region_plain {P : Program} {id : Nat} {Q : Exit → Act → World → Prop} {a : Act} {w : World} {l l' : List Oper} (hl : l = l')
    (h : wpQuiet P l'.toArray (fun w' => ∃ d, w' = Go.Proofs.Ytgldlkoohfclpaa.grow w d) (fun a' => ∀ w', (∃ d, w' = Go.Proofs.Ytgldlkoohfclpaa.grow w d) → Q .normal a' w') l' a) : (Code.region id l.toArray false).wp P Q a w := by
  subst hl
  exact wp_region_lit (wpList_grow l a w ⟨⟨#[], w.drawn⟩, by simp [Go.Proofs.Ytgldlkoohfclpaa.grow]⟩ h)

/-! ### Guards that are not decided -/
/-- A value that is there if a guard says so. -/
@[irreducible] def guarded (X want : Bool) (v : Value) : Value := if X = want then v else undef
theorem guarded_self (b : Bool) (v : Value) : guarded b b v = v := by unfold guarded; rw [if_pos rfl]
theorem guarded_of {X want : Bool} {v : Value} (h : X = want) : guarded X want v = v := by unfold guarded; rw [if_pos h]
theorem guarded_not {X want : Bool} {v : Value} (h : ¬ X = want) : guarded X want v = undef := by unfold guarded; rw [if_neg h]
attribute [go_sem] guarded_self
section
variable {P : Program} {ops : Array Oper} {C : World → Prop} {Q : Act → Prop} {a : Act} {o : Oper} {rest : List Oper}
theorem wanted_of {j : Nat} {want X : Bool} (hg : o.guard = some (j, want)) (hj : yielded ops a.tmps j = some X) : Region.wanted o (yielded ops a.tmps) = (X == want) := by
  simp only [Region.wanted, hg, hj]
  rfl
/-- An operation whose guard is a Bool that is not known: its value, or none. -/
theorem quiet_guard {j : Nat} {want X : Bool} {v : Value} (hg : o.guard = some (j, want)) (hj : yielded ops a.tmps j = some X)
    (h : X = want → ∀ w, C w → o.quietAt P a C w v) (k : wpQuiet P ops C Q rest (a.put o.dst (guarded X want v))) : wpQuiet P ops C Q (o :: rest) a := by
  unfold wpQuiet
  rw [wanted_of hg hj]
  by_cases e : X = want
  · subst e
    rw [if_pos (by simp)]
    exact ⟨v, h rfl, by simpa [guarded_self] using k⟩
  · rw [if_neg (by simpa using e)]
    simpa [guarded_not e] using k
theorem run_pick {P : Program} {c x y : Operand} {X : Bool} (ho : o.op = .pick c x y) (hc : a.eval c = .bool X) (w : World) : (execOp a.eval o).run P w = .ok (.value (if X then a.eval x else a.eval y)) w := by
  unfold execOp
  rw [ho]
  simp [hc, asBool, pure, Sem.run, bind, Sem.bind]
theorem pick_and_val {X Y : Bool} : (if X then guarded X true (.bool Y) else .bool false) = Value.bool (X && Y) := by cases X <;> simp [guarded_self]
theorem pick_or_val {X Y : Bool} : (if X then .bool true else guarded X false (.bool Y)) = Value.bool (X || Y) := by cases X <;> simp [guarded_self]
theorem quiet_pick_and {c x : Operand} {X Y : Bool} (ho : o.op = .pick c x (.const (.bool false))) (hg : o.guard = none) (hc : a.eval c = .bool X) (hx : a.eval x = guarded X true (.bool Y))
    (k : wpQuiet P ops C Q rest (a.put o.dst (.bool (X && Y)))) : wpQuiet P ops C Q (o :: rest) a := by
  unfold wpQuiet
  rw [if_pos (by simp [Region.wanted, hg])]
  refine ⟨_, fun w _ => ?_, k⟩
  unfold Oper.quietAt
  rw [run_pick ho hc, hx]
  exact ⟨rfl, pick_and_val⟩
theorem quiet_pick_or {c x : Operand} {X Y : Bool} (ho : o.op = .pick c (.const (.bool true)) x) (hg : o.guard = none) (hc : a.eval c = .bool X) (hx : a.eval x = guarded X false (.bool Y))
    (k : wpQuiet P ops C Q rest (a.put o.dst (.bool (X || Y)))) : wpQuiet P ops C Q (o :: rest) a := by
  unfold wpQuiet
  rw [if_pos (by simp [Region.wanted, hg])]
  refine ⟨_, fun w _ => ?_, k⟩
  unfold Oper.quietAt
  rw [run_pick ho hc, hx]
  exact ⟨rfl, pick_or_val⟩
end

/-! ### A region that draws its order, whose calls come one behind the other -/
/-- The worlds that are one, grown. -/
def Grown (w : World) : World → Prop := fun w' => ∃ d, w' = Go.Proofs.Ytgldlkoohfclpaa.grow w d
attribute [go_sem] Grown
/-- What hands on a value, and enters nothing. -/
def isValueOp : Op → Bool
  | .move _ | .assign _ | .pick .. | .load .. | .build .. | .fieldAddr .. | .field .. | .binOp .. | .unOp .. | .convert .. | .extract .. | .index .. | .indexAddr .. | .slice .. | .makeFunc .. | .lookup .. | .makeInterface .. | .box .. | .alloc .. | .nilCheck _ | .makeSlice .. | .sliceToArrayPointer .. => true
  | .call { callee := .builtin .len, .. } => true
  | _ => false
def onlyV : Sem Next → Prop
  | .pure n => ∃ v, n = .value v
  | .load _ _ k => ∀ v, onlyV (k v)
  | .store _ _ _ k => onlyV k
  | .new _ k => ∀ v, onlyV (k v)
  | .shape _ k => ∀ v, onlyV (k v)
  | .freeze _ _ k => onlyV k
  | .frozen _ k => ∀ v, onlyV (k v)
  | .getObj _ k => ∀ v, onlyV (k v)
  | .setObj _ _ k => onlyV k
  | .choose _ k => ∀ v, onlyV (k v)
  | .sys _ k => ∀ v, onlyV (k v)
  | .program k => ∀ v, onlyV (k v)
  | .mark _ k => onlyV k
  | .halt _ => True
theorem onlyV_run {P : Program} (s : Sem Next) : ∀ {w w' : World} {n : Next}, onlyV s → s.run P w = .ok n w' → ∃ v, n = .value v := by
  induction s with
  | pure a => intro w w' n h hr; simp only [Sem.run] at hr; injection hr with h1 h2; obtain ⟨v, hv⟩ := h; exact ⟨v, by rw [← h1, hv]⟩
  | load m a k ih =>
    intro w w' n h hr
    simp only [Sem.run] at hr
    split at hr
    · exact ih _ (h _) hr
    · split at hr
      · exact ih _ (h _) hr
      · cases hr
  | store m a v k ih =>
    intro w w' n h hr
    cases v <;> simp only [Sem.run] at hr <;> first
      | cases hr
      | (split at hr
         · split at hr
           · cases hr
           · exact ih h hr
         · split at hr
           · exact ih h hr
           · cases hr)
  | new o k ih => intro w w' n h hr; simp only [Sem.run] at hr; exact ih _ (h _) hr
  | shape r k ih => intro w w' n h hr; simp only [Sem.run] at hr; exact ih _ (h _) hr
  | freeze a n k ih => intro w w' n h hr; simp only [Sem.run] at hr; exact ih h hr
  | frozen a k ih => intro w w' n h hr; simp only [Sem.run] at hr; exact ih _ (h _) hr
  | getObj r k ih =>
    intro w w' n h hr
    simp only [Sem.run] at hr
    split at hr
    · cases hr
    · exact ih _ (h _) hr
    · cases hr
  | setObj r o k ih =>
    intro w w' n h hr
    simp only [Sem.run] at hr
    split at hr
    · cases hr
    · exact ih h hr
    · cases hr
  | choose q k ih =>
    intro w w' n h hr
    simp only [Sem.run] at hr
    split at hr <;> exact ih _ (h _) hr
  | sys c k ih => intro w w' n h hr; simp only [Sem.run] at hr; exact ih _ (h _) hr
  | program k ih => intro w w' n h hr; simp only [Sem.run] at hr; exact ih _ (h _) hr
  | mark m k ih => intro w w' n h hr; simp only [Sem.run] at hr; exact ih h hr
  | halt x => intro w w' n h hr; simp only [Sem.run] at hr; cases hr
theorem onlyV_bind {α : Type} (s : Sem α) (f : α → Sem Next) (h : ∀ x, onlyV (f x)) : onlyV (s.bind f) := by
  induction s <;> simp only [Sem.bind, onlyV] <;> first | exact h _ | (intro v; rename_i ih; exact ih v) | assumption | trivial
theorem onlyV_panic (e : RuntimeError) : onlyV (runtimePanic e) := by
  unfold runtimePanic
  refine onlyV_bind _ _ fun p => ?_
  cases e <;> simp only [goPanic] <;> first | trivial | exact onlyV_bind _ _ fun _ => onlyV_bind _ _ fun _ => trivial
theorem execOp_only {o : Oper} {ρ : Operand → Value} (ho : isValueOp o.op = true) : onlyV (execOp ρ o) := by
  obtain ⟨dst, op, type, pos, after, guard⟩ := o
  cases op <;> simp only [isValueOp, Bool.false_eq_true] at ho <;> simp only [execOp]
  case nilCheck x =>
    split
    · exact onlyV_panic _
    · exact onlyV_panic _
    · exact onlyV_panic _
    · split
      · exact onlyV_panic _
      · refine onlyV_bind _ _ fun p => ?_
        refine onlyV_bind _ _ fun q => ?_
        split
        · exact onlyV_bind _ _ fun _ => ⟨_, rfl⟩
        · exact ⟨_, rfl⟩
      · exact ⟨_, rfl⟩
    · exact ⟨_, rfl⟩
  case call c =>
    obtain ⟨callee, args, ts⟩ := c
    cases callee with
    | value f => simp at ho
    | invoke r m => simp at ho
    | builtin b =>
      cases b <;> simp at ho
      exact onlyV_bind (Builtin.len_ ts type (args.map ρ)) (fun x => Sem.pure (Next.value x)) fun _ => ⟨_, rfl⟩
  all_goals first
    | exact ⟨_, rfl⟩
    | exact onlyV_bind _ _ fun _ => ⟨_, rfl⟩
theorem execOp_value {P : Program} {o : Oper} {ρ : Operand → Value} {w w' : World} {n : Next} (ho : isValueOp o.op = true) (h : (execOp ρ o).run P w = .ok n w') : ∃ v, n = .value v := onlyV_run _ (execOp_only ho) h
/-- In which order operations come up: what reads as soon as it may; what acts one behind the other, or one of two. -/
inductive Ord (α : Type) where
  | done
  | rd (i : α) (t : Ord α)
  | ac (i : α) (t : Ord α)
  | br (i : α) (t : Ord α) (j : α) (u : Ord α)
def Ord.map {α β : Type} (f : α → β) : Ord α → Ord β
  | .done => .done
  | .rd i t => .rd (f i) (t.map f)
  | .ac i t => .ac (f i) (t.map f)
  | .br i t j u => .br (f i) (t.map f) (f j) (u.map f)
def Ord.depth {α : Type} : Ord α → Nat
  | .done => 0
  | .rd _ t => t.depth + 1
  | .ac _ t => t.depth + 1
  | .br _ t _ u => max t.depth u.depth + 1
def chainOk (md : Region.Mode) (ops : Array Oper) : Ord Nat → Array Bool → Bool
  | .done, listed => (Region.ready md ops listed).isEmpty
  | .rd i r, listed => (match ops[i]? with | some o => isValueOp o.op | none => false) && Region.free md ops listed i && (Region.ready md ops listed).contains i && chainOk md ops r (listed.setIfInBounds i true)
  | .ac i r, listed => decide (i < ops.size) && (Region.ready md ops listed == [i]) && chainOk md ops r (listed.setIfInBounds i true)
  | .br i r j u, listed => decide (i < ops.size) && decide (j < ops.size) && (Region.ready md ops listed == [i, j]) && chainOk md ops r (listed.setIfInBounds i true) && chainOk md ops u (listed.setIfInBounds j true)
/-- One walk: what reads as soon as it may, what acts one behind the other. -/
def wpChain (P : Program) (ops : Array Oper) (Q : Exit → Act → World → Prop) (W : World) : Ord Oper → Act → World → Prop
  | .done, a, w => Q .normal a w
  | .rd o r, a, w => if Region.wanted o (yielded ops a.tmps) then o.quiet P a (Grown W) (fun a' => wpChain P ops Q W r a' w) else wpChain P ops Q W r (a.put o.dst undef) w
  | .ac o r, a, w => if Region.wanted o (yielded ops a.tmps) then o.wp P a w (fun a' w' => Ext W w' ∧ wpChain P ops Q W r a' w') Q else Ext W w ∧ wpChain P ops Q W r (a.put o.dst undef) w
  | .br o r o' r', a, w =>
    (if Region.wanted o (yielded ops a.tmps) then o.wp P a w (fun a' w' => Ext W w' ∧ wpChain P ops Q W r a' w') Q else Ext W w ∧ wpChain P ops Q W r (a.put o.dst undef) w) ∧
    (if Region.wanted o' (yielded ops a.tmps) then o'.wp P a w (fun a' w' => Ext W w' ∧ wpChain P ops Q W r' a' w') Q else Ext W w ∧ wpChain P ops Q W r' (a.put o'.dst undef) w)
def nthOp : List Oper → Nat → Oper
  | [], _ => default
  | o :: _, 0 => o
  | _ :: l, n + 1 => nthOp l n
theorem nthOp_get : ∀ (l : List Oper) (i : Nat), i < l.length → l.toArray[i]? = some (nthOp l i)
  | [], i, h => absurd h (by simp)
  | o :: l, 0, _ => by simp [nthOp]
  | o :: l, i + 1, h => by
    have := nthOp_get l i (by simpa using h)
    simpa [nthOp] using this
section
variable {P : Program} {ops : Array Oper} {Q : Exit → Act → World → Prop} {W : World} {a : Act} {w : World} {o o' : Oper} {r r' : Ord Oper}
theorem Grown.of {w w' : World} (h : Ext w w') : Grown w w' := h.grown
theorem Grown.ext {w w' : World} (h : Grown w w') : Ext w w' := Ext.ofGrow h
theorem yieldsIf_quiet {v : Value} (hv : isValueOp o.op = true) (hw : Region.wanted o (yielded ops a.tmps) = true) (h : ∀ w, Grown W w → o.quietAt P a (Grown W) w v) : YieldsIf P ops (Ext W) o v a := by
  refine .inl ⟨hw, fun w hS => ?_⟩
  have h1 := h w (Grown.of hS)
  unfold Oper.quietAt at h1
  cases hr : (execOp a.eval o).run P w with
  | halt x w' => rw [hr] at h1; exact h1.elim
  | ok n w' =>
    obtain ⟨u, rfl⟩ := execOp_value hv hr
    rw [hr] at h1
    obtain ⟨e1, e2⟩ := h1
    rw [e1, e2]
theorem chain_op {l : List Oper} {j : Nat} {K : Act → World → Prop} (hj : j < l.length)
    (h : if Region.wanted (nthOp l j) (yielded l.toArray a.tmps) then (nthOp l j).wp P a w K Q else K (a.put (nthOp l j).dst undef) w) : wpOp P l.toArray Q j K a w := by
  unfold wpOp
  simp only [nthOp_get l j hj]
  split
  · rename_i hw; simp only [hw, if_true] at h; exact .inl h
  · rename_i hw; simp only [hw] at h; exact h
theorem chain_held {md : Region.Mode} {l : List Oper} (hs : Region.noSelect l.toArray = true) (hQ : ∀ c (a : Act) d v w, Q (.panic c) (a.put d v) w → Q (.panic c) a w) :
    ∀ (order : Ord Nat) (fuel : Nat) (listed : Array Bool) (a : Act) (w : World), order.depth ≤ fuel → chainOk md l.toArray order listed = true → Ext W w →
      wpChain P l.toArray Q W (order.map (nthOp l)) a w → wpAnyH P md l.toArray Q (Ext W) fuel listed a w
  | .done, fuel, listed, a, w, _, hok, _, h => wpAnyH_done (by simpa [chainOk] using hok) h fuel
  | .rd i r, fuel, listed, a, w, hf, hok, hS, h => by
    obtain ⟨fuel, rfl⟩ : ∃ f, fuel = f + 1 := ⟨fuel - 1, by simp [Ord.depth] at hf; omega⟩
    simp only [chainOk, Bool.and_eq_true] at hok
    obtain ⟨⟨⟨hv, hfree⟩, hr⟩, hok⟩ := hok
    have hlen : i < l.length := by
      rcases Nat.lt_or_ge i l.length with h' | h'
      · exact h'
      · simp [h'] at hv
    have ho := nthOp_get l i hlen
    simp only [ho] at hv
    simp only [Ord.map, wpChain] at h
    by_cases hw : Region.wanted (nthOp l i) (yielded l.toArray a.tmps) = true
    · simp only [hw, if_true] at h
      obtain ⟨v, h1, h2⟩ := h
      exact wpAnyH_take ho hs hfree hr (fun c a w h => hQ c a _ _ w h) (yieldsIf_quiet hv hw h1) hS (chain_held hs hQ r fuel _ _ w (by simp [Ord.depth] at hf; omega) hok hS h2)
    · simp only [hw] at h
      exact wpAnyH_take ho hs hfree hr (fun c a w h => hQ c a _ _ w h) (.inr ⟨by simpa using hw, rfl⟩) hS (chain_held hs hQ r fuel _ _ w (by simp [Ord.depth] at hf; omega) hok hS h)
  | .ac i r, fuel, listed, a, w, hf, hok, hS, h => by
    obtain ⟨fuel, rfl⟩ : ∃ f, fuel = f + 1 := ⟨fuel - 1, by simp [Ord.depth] at hf; omega⟩
    simp only [chainOk, Bool.and_eq_true, beq_iff_eq, decide_eq_true_eq] at hok
    obtain ⟨⟨hlen, hr⟩, hok⟩ := hok
    simp only [Ord.map, wpChain] at h
    refine wpAnyH_all hr (by simp) fun j hj => ?_
    obtain rfl : j = i := by simpa using hj
    exact wpOp_mono (K := fun a' w' => Ext W w' ∧ wpChain P l.toArray Q W (r.map (nthOp l)) a' w') (fun a' w' ⟨h1, h2⟩ => ⟨h1, chain_held hs hQ r fuel _ _ w' (by simp [Ord.depth] at hf; omega) hok h1 h2⟩) (chain_op (by simpa using hlen) h)
  | .br i r k u, fuel, listed, a, w, hf, hok, hS, h => by
    obtain ⟨fuel, rfl⟩ : ∃ f, fuel = f + 1 := ⟨fuel - 1, by simp [Ord.depth] at hf; omega⟩
    simp only [chainOk, Bool.and_eq_true, beq_iff_eq, decide_eq_true_eq] at hok
    obtain ⟨⟨⟨⟨hi, hk⟩, hr⟩, hok⟩, hok'⟩ := hok
    simp only [Ord.map, wpChain] at h
    refine wpAnyH_all hr (by simp) fun j hj => ?_
    rcases (show j = i ∨ j = k by simpa using hj) with rfl | rfl
    · exact wpOp_mono (K := fun a' w' => Ext W w' ∧ wpChain P l.toArray Q W (r.map (nthOp l)) a' w') (fun a' w' ⟨h1, h2⟩ => ⟨h1, chain_held hs hQ r fuel _ _ w' (by simp [Ord.depth] at hf; omega) hok h1 h2⟩) (chain_op (by simpa using hi) h.1)
    · exact wpOp_mono (K := fun a' w' => Ext W w' ∧ wpChain P l.toArray Q W (u.map (nthOp l)) a' w') (fun a' w' ⟨h1, h2⟩ => ⟨h1, chain_held hs hQ u fuel _ _ w' (by simp [Ord.depth] at hf; omega) hok' h1 h2⟩) (chain_op (by simpa using hk) h.2)
/-- The beginning. -/
theorem wp_region_chain {id : Nat} {l : List Oper} {l' : Ord Oper} (order : Ord Nat) (hm : P.follows .mixedOrders = true)
    (hok : (Region.noSelect l.toArray && decide (order.depth ≤ l.length) && chainOk .any l.toArray order (Array.replicate l.length false)) = true)
    (hQ : ∀ c (a : Act) d v w, Q (.panic c) (a.put d v) w → Q (.panic c) a w) (hl : order.map (nthOp l) = l')
    (h : wpChain P l.toArray Q w l' a w.drew) : (Code.region id l.toArray true).wp P Q a w := by
  simp only [Bool.and_eq_true, decide_eq_true_eq] at hok
  obtain ⟨⟨h1, h2⟩, h3⟩ := hok
  subst hl
  refine wp_region_held hm (S := Ext w) ?_
  exact chain_held h1 hQ order _ _ _ _ (by simpa using h2) (by simpa using h3) (Ext.drew (Ext.refl w)) h
theorem chain_nil (h : Q .normal a w) : wpChain P ops Q W .done a w := h
theorem chain_read (hw : Region.wanted o (yielded ops a.tmps) = true) (h : ∀ K : Act → Prop, (∀ a', wpChain P ops Q W r a' w → K a') → o.quiet P a (Grown W) K) : wpChain P ops Q W (.rd o r) a w := by
  simp only [wpChain, hw, if_true]
  exact h _ fun _ h => h
theorem chain_skip (hw : Region.wanted o (yielded ops a.tmps) = false) (h : wpChain P ops Q W r (a.put o.dst undef) w) : wpChain P ops Q W (.rd o r) a w := by
  simp only [wpChain, hw]
  exact h
theorem chain_idle (hw : Region.wanted o (yielded ops a.tmps) = false) (h : Ext W w ∧ wpChain P ops Q W r (a.put o.dst undef) w) : wpChain P ops Q W (.ac o r) a w := by
  simp only [wpChain, hw]
  exact h
theorem chain_guard {j : Nat} {want X : Bool} {v : Value} (hg : o.guard = some (j, want)) (hj : yielded ops a.tmps j = some X)
    (h : X = want → ∀ w, Grown W w → o.quietAt P a (Grown W) w v) (k : wpChain P ops Q W r (a.put o.dst (guarded X want v)) w) : wpChain P ops Q W (.rd o r) a w := by
  simp only [wpChain]
  rw [wanted_of hg hj]
  by_cases e : X = want
  · subst e
    rw [if_pos (by simp)]
    exact ⟨v, h rfl, by simpa [guarded_self] using k⟩
  · rw [if_neg (by simpa using e)]
    simpa [guarded_not e] using k
theorem chain_pick_and {c x : Operand} {X Y : Bool} (ho : o.op = .pick c x (.const (.bool false))) (hg : o.guard = none) (hc : a.eval c = .bool X) (hx : a.eval x = guarded X true (.bool Y))
    (k : wpChain P ops Q W r (a.put o.dst (.bool (X && Y))) w) : wpChain P ops Q W (.rd o r) a w := by
  simp only [wpChain]
  rw [if_pos (by simp [Region.wanted, hg])]
  refine ⟨_, fun w _ => ?_, k⟩
  unfold Oper.quietAt
  rw [run_pick ho hc, hx]
  exact ⟨rfl, pick_and_val⟩
theorem chain_pick_or {c x : Operand} {X Y : Bool} (ho : o.op = .pick c (.const (.bool true)) x) (hg : o.guard = none) (hc : a.eval c = .bool X) (hx : a.eval x = guarded X false (.bool Y))
    (k : wpChain P ops Q W r (a.put o.dst (.bool (X || Y))) w) : wpChain P ops Q W (.rd o r) a w := by
  simp only [wpChain]
  rw [if_pos (by simp [Region.wanted, hg])]
  refine ⟨_, fun w _ => ?_, k⟩
  unfold Oper.quietAt
  rw [run_pick ho hc, hx]
  exact ⟨rfl, pick_or_val⟩
theorem chain_act (hw : Region.wanted o (yielded ops a.tmps) = true) (h : ∀ K : Act → World → Prop, (∀ a' w', (Ext W w' ∧ wpChain P ops Q W r a' w') → K a' w') → o.wp P a w K Q) : wpChain P ops Q W (.ac o r) a w := by
  simp only [wpChain, hw, if_true]
  exact h _ fun _ _ h => h
theorem chain_br (h : wpChain P ops Q W (.ac o r) a w) (h' : wpChain P ops Q W (.ac o' r') a w) : wpChain P ops Q W (.br o r o' r') a w := ⟨h, h'⟩
end
end Go.Proofs.Ytgldlkoohfclpaa

namespace Go.Proofs.Ytgldlkoohfclpaa
set_option maxRecDepth 100000
set_option linter.unusedSimpArgs false
set_option linter.unusedVariables false
open Go.RowKit


/-- All is as it was but for some blocks. -/
structure Only (S : Nat → Prop) (w w' : World) : Prop where
  os : w'.os = w.os
  tape : w'.tape = w.tape
  output : w'.output = w.output
  size : w.heap.size ≤ w'.heap.size
  block : ∀ k, k < w.heap.size → ¬ S k → w'.heap[k]? = w.heap[k]?
theorem Only.refl (S : Nat → Prop) (w : World) : Only S w w := ⟨rfl, rfl, rfl, Nat.le_refl _, fun _ _ _ => rfl⟩
theorem Only.ofExt {S : Nat → Prop} {w w' : World} (h : Ext w w') : Only S w w' := ⟨h.os, h.tape, h.output, h.size, fun k hk _ => h.block k hk⟩
theorem Only.ext {S : Nat → Prop} {w w' : World} (h : Only S w w') (hS : ∀ k, S k → w.heap.size ≤ k) : Ext w w' :=
  ⟨h.os, h.tape, h.output, h.size, fun k hk => h.block k hk (fun hs => by have := hS k hs; omega)⟩
theorem Only.trans {S T : Nat → Prop} {a b c : World} (h : Only S a b) (k : Only T b c) (hT : ∀ i, T i → S i ∨ a.heap.size ≤ i) : Only S a c :=
  ⟨k.os.trans h.os, k.tape.trans h.tape, k.output.trans h.output, Nat.le_trans h.size k.size, fun i hi hs => by
    rw [k.block i (Nat.lt_of_lt_of_le hi h.size) (fun ht => by rcases hT i ht with h1 | h1; exact hs h1; omega)]
    exact h.block i hi hs⟩
theorem Only.trans' {S : Nat → Prop} {a b c : World} (h : Only S a b) (k : Only S b c) : Only S a c := h.trans k fun _ => .inl
theorem Only.transExt {S : Nat → Prop} {a b c : World} (h : Only S a b) (k : Ext b c) : Only S a c := h.trans' (.ofExt k)
/-- Behind new blocks a call that turns only such. -/
theorem Ext.only {S : Nat → Prop} {a b c : World} (h : Ext a b) (k : Only S b c) (hS : ∀ i, S i → a.heap.size ≤ i) : Ext a c :=
  ((Only.ofExt (S := S) h).trans' k).ext hS
theorem Only.cells {S : Nat → Prop} {w w' : World} (h : Only S w w') : ∀ b o, b < w.heap.size → ¬ S b → w'.cell? ⟨b, o, none⟩ = w.cell? ⟨b, o, none⟩ := fun b o hb hs => by
  simp only [World.cell?, h.block b hb hs]
theorem Only.frozens {S : Nat → Prop} {w w' : World} (h : Only S w w') : ∀ b o, b < w.heap.size → ¬ S b → w'.frozen? ⟨b, o, none⟩ = w.frozen? ⟨b, o, none⟩ := fun b o hb hs => by
  simp only [World.frozen?, h.block b hb hs]

theorem Only.setCell {S : Nat → Prop} {a w : World} (h : Only S a w) {b o : Nat} (hb : S b ∨ a.heap.size ≤ b) (u : Value) : Only S a (w.setCell ⟨b, o, none⟩ u) :=
  ⟨h.os, h.tape, h.output, by rw [World.size_setCell]; exact h.size, fun k hk hs => by
    rw [← h.block k hk hs]
    unfold World.setCell
    simp only [Array.getElem?_modify]
    rw [if_neg]
    intro e
    subst e
    rcases hb with hb | hb
    · exact hs hb
    · omega⟩
theorem Only.drew {S : Nat → Prop} {a w : World} (h : Only S a w) : Only S a w.drew := ⟨h.os, h.tape, h.output, h.size, h.block⟩
theorem Only.alloc {S : Nat → Prop} {a w : World} (h : Only S a w) (o : Obj) : Only S a (w.alloc o) := h.transExt (Ext.alloc (Ext.refl w) o)
theorem Only.grow {S : Nat → Prop} {a w : World} (h : Only S a w) (d : Delta) : Only S a (Go.Proofs.Ytgldlkoohfclpaa.grow w d) := h.transExt (Ext.grow (Ext.refl w) d)
theorem Only.setCells {S : Nat → Prop} {a : World} {b : Nat} (hb : S b ∨ a.heap.size ≤ b) : ∀ (vs : List Value) (o : Nat) {w : World}, Only S a w → Only S a (w.setCells b o vs)
  | [], _, _, h => h
  | v :: r, o, w, h => by rw [World.setCells]; exact Only.setCells hb r (o + 1) (h.setCell hb v)

/-- Cells lie there, and may be written. -/
structure Row (w : World) (b o : Nat) (vs : List Value) : Prop where
  lt : b < w.heap.size
  at_ : ∀ j v, vs[j]? = some v → w.cell? ⟨b, o + j, none⟩ = some v
  free : ∀ j, j < vs.length → w.frozen? ⟨b, o + j, none⟩ = false
theorem Row.only {S : Nat → Prop} {w w' : World} {b o : Nat} {vs : List Value} (h : Row w b o vs) (x : Only S w w') (hs : ¬ S b) : Row w' b o vs :=
  ⟨Nat.lt_of_lt_of_le h.lt x.size, fun j v hj => by rw [x.cells b _ h.lt hs]; exact h.at_ j v hj, fun j hj => by rw [x.frozens b _ h.lt hs]; exact h.free j hj⟩
theorem Row.ext {w w' : World} {b o : Nat} {vs : List Value} (h : Row w b o vs) (x : Ext w w') : Row w' b o vs :=
  h.only (Only.ofExt (S := fun _ => False) x) id
theorem Row.range {w : World} {b o : Nat} {vs : List Value} (h : Row w b o vs) : w.rangeAt b o vs := h.at_
theorem Row.there {w : World} {b o : Nat} {vs : List Value} (h : Row w b o vs) : w.there b o vs.length := fun j hj =>
  ⟨by rw [h.at_ j _ (List.getElem?_eq_getElem hj)]; rfl, h.free j hj⟩

theorem enterOf {P : Program} {f : FuncId} {fn : Func} (hf : P.funcs[f]? = some fn) (hname : (fn.name == "runtime.NumGoroutine") = false) (hc : fn.body.isSome = true) (args : Array Value) (w : World) :
    Sem.run P (callFunc f args) w = .ok (.enter f args) w := by
  have h1 : ¬ fn.name = "runtime.NumGoroutine" := by simpa using hname
  obtain ⟨c, hb⟩ := Option.isSome_iff_exists.1 hc
  simp [callFunc, hf, h1, hb, Sem.run]

/-- The world in which one block has turned. -/
def turn (w : World) (q : Nat) (o : Obj) : World := { w with heap := w.heap.setIfInBounds q o }
theorem turn_size (w : World) (q : Nat) (o : Obj) : (turn w q o).heap.size = w.heap.size := by simp [turn]
theorem turn_heap (w : World) (q : Nat) (o : Obj) (k : Nat) (h : ¬ k = q) : (turn w q o).heap[k]? = w.heap[k]? := by
  simp only [turn, Array.getElem?_setIfInBounds]
  rw [if_neg (fun e => h e.symm)]
theorem turn_cell (w : World) (q : Nat) (o : Obj) (b off : Nat) (h : ¬ b = q) : (turn w q o).cell? ⟨b, off, none⟩ = w.cell? ⟨b, off, none⟩ := by simp only [World.cell?, turn_heap w q o b h]
theorem turn_frozen (w : World) (q : Nat) (o : Obj) (b off : Nat) (h : ¬ b = q) : (turn w q o).frozen? ⟨b, off, none⟩ = w.frozen? ⟨b, off, none⟩ := by simp only [World.frozen?, turn_heap w q o b h]
theorem turn_setCell (w : World) (q : Nat) (x : Obj) (b o : Nat) (v : Value) (h : ¬ b = q) : (turn w q x).setCell ⟨b, o, none⟩ v = turn (w.setCell ⟨b, o, none⟩ v) q x := by
  simp only [World.setCell, turn, World.mk.injEq, and_true]
  apply Array.ext_getElem?
  intro i
  simp only [Array.getElem?_modify, Array.getElem?_setIfInBounds, Array.size_modify]
  by_cases e : b = i
  · subst e
    have : ¬ q = b := fun e => h e.symm
    simp [this]
  · simp [e]
theorem turn_cell_gt (w : World) (q : Nat) (o : Obj) (b off : Nat) (h : q < b) : (turn w q o).cell? ⟨b, off, none⟩ = w.cell? ⟨b, off, none⟩ := turn_cell w q o b off (by omega)
theorem turn_frozen_gt (w : World) (q : Nat) (o : Obj) (b off : Nat) (h : q < b) : (turn w q o).frozen? ⟨b, off, none⟩ = w.frozen? ⟨b, off, none⟩ := turn_frozen w q o b off (by omega)
theorem turn_setCell_gt (w : World) (q : Nat) (x : Obj) (b o : Nat) (v : Value) (h : q < b) : (turn w q x).setCell ⟨b, o, none⟩ v = turn (w.setCell ⟨b, o, none⟩ v) q x := turn_setCell w q x b o v (by omega)
attribute [go_sem] turn_size turn_cell turn_frozen turn_setCell turn_cell_gt turn_frozen_gt turn_setCell_gt
theorem Only.turned {w w' : World} {q : Nat} (h : Only (· = q) w w') : ∃ o d, w' = Go.Proofs.Ytgldlkoohfclpaa.grow (turn w q o) d := by
  refine ⟨(w'.heap[q]?).getD default, ⟨w'.heap.extract w.heap.size w'.heap.size, w'.drawn⟩, ?_⟩
  obtain ⟨heap, tape, drawn, os, output⟩ := w
  obtain ⟨heap', tape', drawn', os', output'⟩ := w'
  obtain ⟨h1, h2, h3, h4, h5⟩ := h
  simp only at h1 h2 h3 h4 h5
  subst h1 h2 h3
  simp only [Go.Proofs.Ytgldlkoohfclpaa.grow, turn, World.mk.injEq, and_true]
  apply Array.ext_getElem?
  intro i
  by_cases hi : i < heap.size
  · rw [Array.getElem?_append_left (by simpa using hi), Array.getElem?_setIfInBounds]
    by_cases e : q = i
    · subst e
      rw [if_pos rfl, if_pos hi, Array.getElem?_eq_getElem (by omega)]
      rfl
    · rw [if_neg e]
      exact h5 i hi (fun e' => e e'.symm)
  · rw [Array.getElem?_append_right (by simp; omega), Array.getElem?_extract]
    simp only [Array.size_setIfInBounds]
    by_cases hi2 : i < heap'.size
    · rw [if_pos (by omega)]
      congr 1
      omega
    · rw [if_neg (by omega), Array.getElem?_eq_none (by omega)]
theorem Ext.turn {a w : World} (h : Ext a w) {q : Nat} (hq : a.heap.size ≤ q) (o : Obj) : Ext a (Go.Proofs.Ytgldlkoohfclpaa.turn w q o) :=
  ⟨h.os, h.tape, h.output, by rw [turn_size]; exact h.size, fun k hk => by rw [turn_heap _ _ _ _ (by omega)]; exact h.block k hk⟩
theorem Only.turn {S : Nat → Prop} {a w : World} (h : Only S a w) {q : Nat} (hq : S q ∨ a.heap.size ≤ q) (o : Obj) : Only S a (Go.Proofs.Ytgldlkoohfclpaa.turn w q o) :=
  ⟨h.os, h.tape, h.output, by rw [turn_size]; exact h.size, fun k hk hs => by
    rw [turn_heap _ _ _ _ (fun e => by subst e; rcases hq with hq | hq; exact hs hq; omega)]
    exact h.block k hk hs⟩
/-- A block is as it was. -/
def Keep (q : Nat) (w w' : World) : Prop := Only (fun k => ¬ k = q) w w'
theorem Keep.refl (q : Nat) (w : World) : Keep q w w := Only.refl _ _
theorem Keep.drew {q : Nat} {a w : World} (h : Keep q a w) : Keep q a w.drew := Only.drew h
theorem Keep.alloc {q : Nat} {a w : World} (h : Keep q a w) (o : Obj) : Keep q a (w.alloc o) := Only.alloc h o
theorem Keep.grow {q : Nat} {a w : World} (h : Keep q a w) (d : Delta) : Keep q a (Go.Proofs.Ytgldlkoohfclpaa.grow w d) := Only.grow h d
theorem Keep.setCell {q : Nat} {a w : World} (h : Keep q a w) {b o : Nat} (hb : ¬ b = q) (u : Value) : Keep q a (w.setCell ⟨b, o, none⟩ u) := Only.setCell h (.inl hb) u
theorem Keep.turn {q : Nat} {a w : World} (h : Keep q a w) {b : Nat} (hb : ¬ b = q) (o : Obj) : Keep q a (Go.Proofs.Ytgldlkoohfclpaa.turn w b o) := Only.turn h (.inl hb) o
theorem Keep.ofExt {q : Nat} {a w : World} (h : Ext a w) : Keep q a w := Only.ofExt h
theorem Keep.trans {q : Nat} {a b c : World} (h : Keep q a b) (k : Keep q b c) : Keep q a c := Only.trans' h k
theorem Keep.setCells {q : Nat} {a w : World} (h : Keep q a w) {b : Nat} (hb : ¬ b = q) (vs : List Value) (o : Nat) : Keep q a (w.setCells b o vs) := Only.setCells (.inl hb) vs o h
theorem Row.keep {w w' : World} {b o : Nat} {vs : List Value} (h : Row w b o vs) (x : Keep b w w') : Row w' b o vs := h.only x (by simp)
end Go.Proofs.Ytgldlkoohfclpaa

namespace Go.Proofs.Ytgldlkoohfclpaa
set_option maxRecDepth 100000
set_option linter.unusedSimpArgs false
set_option linter.unusedVariables false
open Go.RowKit


/-- One walk: what reads as soon as it may, asked of the world at hand; what acts one behind the other. -/
def wpStep (P : Program) (ops : Array Oper) (Q : Exit → Act → World → Prop) : Ord Oper → World → Act → World → Prop
  | .done, _, a, w => Q .normal a w
  | .rd o r, W, a, w => if Region.wanted o (yielded ops a.tmps) then o.quiet P a (Grown W) (fun a' => wpStep P ops Q r W a' w) else wpStep P ops Q r W (a.put o.dst undef) w
  | .ac o r, W, a, w => if Region.wanted o (yielded ops a.tmps) then o.wp P a w (fun a' w' => ∃ W', Ext W W' ∧ Ext W' w' ∧ wpStep P ops Q r W' a' w') Q else wpStep P ops Q r W (a.put o.dst undef) w
  | .br o r o' r', W, a, w =>
    (if Region.wanted o (yielded ops a.tmps) then o.wp P a w (fun a' w' => ∃ W', Ext W W' ∧ Ext W' w' ∧ wpStep P ops Q r W' a' w') Q else wpStep P ops Q r W (a.put o.dst undef) w) ∧
    (if Region.wanted o' (yielded ops a.tmps) then o'.wp P a w (fun a' w' => ∃ W', Ext W W' ∧ Ext W' w' ∧ wpStep P ops Q r' W' a' w') Q else wpStep P ops Q r' W (a.put o'.dst undef) w)
section
variable {P : Program} {ops : Array Oper} {Q : Exit → Act → World → Prop} {a : Act} {W w : World} {o o' : Oper} {r r' : Ord Oper}
theorem wpAnyH_weak {md : Region.Mode} {S T : World → Prop} (hST : ∀ w, S w → T w) : ∀ (fuel : Nat) (listed : Array Bool) (a : Act) (w : World), wpAnyH P md ops Q S fuel listed a w → wpAnyH P md ops Q T fuel listed a w
  | 0, _, _, _, h => h
  | fuel + 1, _, _, _, h => ⟨h.1, fun i hi => wpOp_mono (fun a' w' ⟨h1, h2⟩ => ⟨hST w' h1, wpAnyH_weak hST fuel _ a' w' h2⟩) (h.2 i hi)⟩
theorem step_held {md : Region.Mode} {l : List Oper} (hs : Region.noSelect l.toArray = true) (hQ : ∀ c (a : Act) d v w, Q (.panic c) (a.put d v) w → Q (.panic c) a w) :
    ∀ (order : Ord Nat) (fuel : Nat) (listed : Array Bool) (W : World) (a : Act) (w : World), order.depth ≤ fuel → chainOk md l.toArray order listed = true → Ext W w →
      wpStep P l.toArray Q (order.map (nthOp l)) W a w → wpAnyH P md l.toArray Q (Ext W) fuel listed a w
  | .done, fuel, listed, W, a, w, _, hok, _, h => wpAnyH_done (by simpa [chainOk] using hok) h fuel
  | .rd i r, fuel, listed, W, a, w, hf, hok, hS, h => by
    obtain ⟨fuel, rfl⟩ : ∃ f, fuel = f + 1 := ⟨fuel - 1, by simp [Ord.depth] at hf; omega⟩
    simp only [chainOk, Bool.and_eq_true] at hok
    obtain ⟨⟨⟨hv, hfree⟩, hr⟩, hok⟩ := hok
    have hlen : i < l.length := by
      rcases Nat.lt_or_ge i l.length with h' | h'
      · exact h'
      · simp [h'] at hv
    have ho := nthOp_get l i hlen
    simp only [ho] at hv
    simp only [Ord.map, wpStep] at h
    by_cases hw : Region.wanted (nthOp l i) (yielded l.toArray a.tmps) = true
    · simp only [hw, if_true] at h
      obtain ⟨v, h1, h2⟩ := h
      exact wpAnyH_take ho hs hfree hr (fun c a w h => hQ c a _ _ w h) (yieldsIf_quiet hv hw h1) hS (step_held hs hQ r fuel _ W _ w (by simp [Ord.depth] at hf; omega) hok hS h2)
    · simp only [hw] at h
      exact wpAnyH_take ho hs hfree hr (fun c a w h => hQ c a _ _ w h) (.inr ⟨by simpa using hw, rfl⟩) hS (step_held hs hQ r fuel _ W _ w (by simp [Ord.depth] at hf; omega) hok hS h)
  | .ac i r, fuel, listed, W, a, w, hf, hok, hS, h => by
    obtain ⟨fuel, rfl⟩ : ∃ f, fuel = f + 1 := ⟨fuel - 1, by simp [Ord.depth] at hf; omega⟩
    simp only [chainOk, Bool.and_eq_true, beq_iff_eq, decide_eq_true_eq] at hok
    obtain ⟨⟨hlen, hr⟩, hok⟩ := hok
    simp only [Ord.map, wpStep] at h
    refine wpAnyH_all hr (by simp) fun j hj => ?_
    obtain rfl : j = i := by simpa using hj
    exact wpOp_mono (K := fun a' w' => ∃ W', Ext W W' ∧ Ext W' w' ∧ wpStep P l.toArray Q (r.map (nthOp l)) W' a' w') (fun a' w' ⟨W', h1, h2, h3⟩ => ⟨Ext.trans h1 h2, wpAnyH_weak (fun _ hx => Ext.trans h1 hx) _ _ _ _ (step_held hs hQ r fuel _ W' _ w' (by simp [Ord.depth] at hf; omega) hok h2 h3)⟩) (chain_op (by simpa using hlen) (by split at h <;> first | (rename_i hw; simp only [hw, if_true]; exact h) | (rename_i hw; simp only [hw]; exact ⟨W, Ext.refl W, hS, h⟩)))
  | .br i r k u, fuel, listed, W, a, w, hf, hok, hS, h => by
    obtain ⟨fuel, rfl⟩ : ∃ f, fuel = f + 1 := ⟨fuel - 1, by simp [Ord.depth] at hf; omega⟩
    simp only [chainOk, Bool.and_eq_true, beq_iff_eq, decide_eq_true_eq] at hok
    obtain ⟨⟨⟨⟨hi, hk⟩, hr⟩, hok⟩, hok'⟩ := hok
    simp only [Ord.map, wpStep] at h
    obtain ⟨h1, h2⟩ := h
    refine wpAnyH_all hr (by simp) fun j hj => ?_
    rcases (show j = i ∨ j = k by simpa using hj) with rfl | rfl
    · exact wpOp_mono (K := fun a' w' => ∃ W', Ext W W' ∧ Ext W' w' ∧ wpStep P l.toArray Q (r.map (nthOp l)) W' a' w') (fun a' w' ⟨W', h1, h2, h3⟩ => ⟨Ext.trans h1 h2, wpAnyH_weak (fun _ hx => Ext.trans h1 hx) _ _ _ _ (step_held hs hQ r fuel _ W' _ w' (by simp [Ord.depth] at hf; omega) hok h2 h3)⟩) (chain_op (by simpa using hi) (by split at h1 <;> first | (rename_i hw; simp only [hw, if_true]; exact h1) | (rename_i hw; simp only [hw]; exact ⟨W, Ext.refl W, hS, h1⟩)))
    · exact wpOp_mono (K := fun a' w' => ∃ W', Ext W W' ∧ Ext W' w' ∧ wpStep P l.toArray Q (u.map (nthOp l)) W' a' w') (fun a' w' ⟨W', h1, h2, h3⟩ => ⟨Ext.trans h1 h2, wpAnyH_weak (fun _ hx => Ext.trans h1 hx) _ _ _ _ (step_held hs hQ u fuel _ W' _ w' (by simp [Ord.depth] at hf; omega) hok' h2 h3)⟩) (chain_op (by simpa using hk) (by split at h2 <;> first | (rename_i hw; simp only [hw, if_true]; exact h2) | (rename_i hw; simp only [hw]; exact ⟨W, Ext.refl W, hS, h2⟩)))
/-- The beginning. -/
theorem wp_region_step {id : Nat} {l : List Oper} {l' : Ord Oper} (order : Ord Nat) (hm : P.follows .mixedOrders = true)
    (hok : (Region.noSelect l.toArray && decide (order.depth ≤ l.length) && chainOk .any l.toArray order (Array.replicate l.length false)) = true)
    (hQ : ∀ c (a : Act) d v w, Q (.panic c) (a.put d v) w → Q (.panic c) a w) (hl : order.map (nthOp l) = l')
    (h : ∀ d, wpStep P l.toArray Q l' (Go.Proofs.Ytgldlkoohfclpaa.grow w d) a (Go.Proofs.Ytgldlkoohfclpaa.grow w d)) : (Code.region id l.toArray true).wp P Q a w := by
  simp only [Bool.and_eq_true, decide_eq_true_eq] at hok
  obtain ⟨⟨h1, h2⟩, h3⟩ := hok
  subst hl
  refine wp_region_held hm (S := Ext w.drew) ?_
  have e : Go.Proofs.Ytgldlkoohfclpaa.grow w ⟨#[], w.drawn + 1⟩ = w.drew := by simp only [Go.Proofs.Ytgldlkoohfclpaa.grow, Array.append_empty]; rfl
  exact step_held h1 hQ order _ _ w.drew _ w.drew (by simpa using h2) (by simpa using h3) (Ext.refl _) (e ▸ h ⟨#[], w.drawn + 1⟩)
theorem step_nil (h : Q .normal a w) : wpStep P ops Q .done W a w := h
theorem step_read (hw : Region.wanted o (yielded ops a.tmps) = true) (h : ∀ K : Act → Prop, (∀ a', wpStep P ops Q r W a' w → K a') → o.quiet P a (Grown W) K) : wpStep P ops Q (.rd o r) W a w := by
  simp only [wpStep, hw, if_true]
  exact h _ fun _ h => h
theorem step_skip (hw : Region.wanted o (yielded ops a.tmps) = false) (h : wpStep P ops Q r W (a.put o.dst undef) w) : wpStep P ops Q (.rd o r) W a w := by
  simp only [wpStep, hw]
  exact h
theorem step_idle (hw : Region.wanted o (yielded ops a.tmps) = false) (h : wpStep P ops Q r W (a.put o.dst undef) w) : wpStep P ops Q (.ac o r) W a w := by
  simp only [wpStep, hw]
  exact h
theorem step_act (hw : Region.wanted o (yielded ops a.tmps) = true) (h : ∀ K : Act → World → Prop, (∀ a' w', (∃ W', Ext W W' ∧ Ext W' w' ∧ wpStep P ops Q r W' a' w') → K a' w') → o.wp P a w K Q) : wpStep P ops Q (.ac o r) W a w := by
  simp only [wpStep, hw, if_true]
  exact h _ fun _ _ h => h
theorem step_br (h : wpStep P ops Q (.ac o r) W a w) (h' : wpStep P ops Q (.ac o' r') W a w) : wpStep P ops Q (.br o r o' r') W a w := ⟨h, h'⟩
theorem step_guard {j : Nat} {want X : Bool} {v : Value} (hg : o.guard = some (j, want)) (hj : yielded ops a.tmps j = some X)
    (h : X = want → ∀ w', Grown W w' → o.quietAt P a (Grown W) w' v) (k : wpStep P ops Q r W (a.put o.dst (guarded X want v)) w) : wpStep P ops Q (.rd o r) W a w := by
  simp only [wpStep]
  rw [wanted_of hg hj]
  by_cases e : X = want
  · subst e
    rw [if_pos (by simp)]
    exact ⟨v, h rfl, by simpa [guarded_self] using k⟩
  · rw [if_neg (by simpa using e)]
    simpa [guarded_not e] using k
end
end Go.Proofs.Ytgldlkoohfclpaa

namespace Go.Proofs.Ytgldlkoohfclpaa
set_option maxRecDepth 100000
set_option linter.unusedSimpArgs false
set_option linter.unusedVariables false
open Go.RowKit


/-- What one block became, and what else there is. -/
structure TDelta where
  obj : Obj
  d : Delta
instance : Nonempty TDelta := ⟨⟨default, ⟨#[], 0⟩⟩⟩
/-- The worlds that are one, grown, but for one block. -/
def Turned (q : Nat) (w : World) : World → Prop := fun w' => ∃ x : TDelta, w' = Go.Proofs.Ytgldlkoohfclpaa.grow (turn w q x.obj) x.d
attribute [go_sem] Turned
theorem Turned.of {q : Nat} {w w' : World} (h : Only (· = q) w w') : Turned q w w' := by
  obtain ⟨o, d, e⟩ := h.turned
  exact ⟨⟨o, d⟩, e⟩
theorem yieldsIf_quietT {q : Nat} {P : Program} {ops : Array Oper} {W : World} {a : Act} {o : Oper} {v : Value} (hv : isValueOp o.op = true) (hw : Region.wanted o (yielded ops a.tmps) = true) (h : ∀ w, Turned q W w → o.quietAt P a (Turned q W) w v) : YieldsIf P ops (Only (· = q) W) o v a := by
  refine .inl ⟨hw, fun w hS => ?_⟩
  have h1 := h w (Turned.of hS)
  unfold Oper.quietAt at h1
  cases hr : (execOp a.eval o).run P w with
  | halt x w' => rw [hr] at h1; exact h1.elim
  | ok n w' =>
    obtain ⟨u, rfl⟩ := execOp_value hv hr
    rw [hr] at h1
    obtain ⟨e1, e2⟩ := h1
    rw [e1, e2]
theorem Only.grownBy {a w w' : World} {v : Value} {g : Nat} (h : Only (· = g) a w) (hg : w.grownBy w' v.ownBlock) (hv : v.ownBlock = some g) : Only (· = g) a w' :=
  h.trans' ⟨hg.os, hg.tape, hg.output, hg.size, fun k hk hs => hg.block k hk (fun e => hs (by rw [hv] at e; exact Option.some.inj e))⟩

/-- One walk: what reads as soon as it may, asked of the world at hand; what acts one behind the other. -/
def wpTurn (q : Nat) (P : Program) (ops : Array Oper) (Q : Exit → Act → World → Prop) : Ord Oper → World → Act → World → Prop
  | .done, _, a, w => Q .normal a w
  | .rd o r, W, a, w => if Region.wanted o (yielded ops a.tmps) then o.quiet P a (Turned q W) (fun a' => wpTurn q P ops Q r W a' w) else wpTurn q P ops Q r W (a.put o.dst undef) w
  | .ac o r, W, a, w => if Region.wanted o (yielded ops a.tmps) then o.wp P a w (fun a' w' => ∃ W', Only (· = q) W W' ∧ Only (· = q) W' w' ∧ wpTurn q P ops Q r W' a' w') Q else wpTurn q P ops Q r W (a.put o.dst undef) w
  | .br o r o' r', W, a, w =>
    (if Region.wanted o (yielded ops a.tmps) then o.wp P a w (fun a' w' => ∃ W', Only (· = q) W W' ∧ Only (· = q) W' w' ∧ wpTurn q P ops Q r W' a' w') Q else wpTurn q P ops Q r W (a.put o.dst undef) w) ∧
    (if Region.wanted o' (yielded ops a.tmps) then o'.wp P a w (fun a' w' => ∃ W', Only (· = q) W W' ∧ Only (· = q) W' w' ∧ wpTurn q P ops Q r' W' a' w') Q else wpTurn q P ops Q r' W (a.put o'.dst undef) w)
section
variable {q : Nat} {P : Program} {ops : Array Oper} {Q : Exit → Act → World → Prop} {a : Act} {W w : World} {o o' : Oper} {r r' : Ord Oper}
theorem wpAnyH_weakT {md : Region.Mode} {S T : World → Prop} (hST : ∀ w, S w → T w) : ∀ (fuel : Nat) (listed : Array Bool) (a : Act) (w : World), wpAnyH P md ops Q S fuel listed a w → wpAnyH P md ops Q T fuel listed a w
  | 0, _, _, _, h => h
  | fuel + 1, _, _, _, h => ⟨h.1, fun i hi => wpOp_mono (fun a' w' ⟨h1, h2⟩ => ⟨hST w' h1, wpAnyH_weakT hST fuel _ a' w' h2⟩) (h.2 i hi)⟩
theorem turn_held {md : Region.Mode} {l : List Oper} (hs : Region.noSelect l.toArray = true) (hQ : ∀ c (a : Act) d v w, Q (.panic c) (a.put d v) w → Q (.panic c) a w) :
    ∀ (order : Ord Nat) (fuel : Nat) (listed : Array Bool) (W : World) (a : Act) (w : World), order.depth ≤ fuel → chainOk md l.toArray order listed = true → Only (· = q) W w →
      wpTurn q P l.toArray Q (order.map (nthOp l)) W a w → wpAnyH P md l.toArray Q (Only (· = q) W) fuel listed a w
  | .done, fuel, listed, W, a, w, _, hok, _, h => wpAnyH_done (by simpa [chainOk] using hok) h fuel
  | .rd i r, fuel, listed, W, a, w, hf, hok, hS, h => by
    obtain ⟨fuel, rfl⟩ : ∃ f, fuel = f + 1 := ⟨fuel - 1, by simp [Ord.depth] at hf; omega⟩
    simp only [chainOk, Bool.and_eq_true] at hok
    obtain ⟨⟨⟨hv, hfree⟩, hr⟩, hok⟩ := hok
    have hlen : i < l.length := by
      rcases Nat.lt_or_ge i l.length with h' | h'
      · exact h'
      · simp [h'] at hv
    have ho := nthOp_get l i hlen
    simp only [ho] at hv
    simp only [Ord.map, wpTurn] at h
    by_cases hw : Region.wanted (nthOp l i) (yielded l.toArray a.tmps) = true
    · simp only [hw, if_true] at h
      obtain ⟨v, h1, h2⟩ := h
      exact wpAnyH_take ho hs hfree hr (fun c a w h => hQ c a _ _ w h) (yieldsIf_quietT hv hw h1) hS (turn_held hs hQ r fuel _ W _ w (by simp [Ord.depth] at hf; omega) hok hS h2)
    · simp only [hw] at h
      exact wpAnyH_take ho hs hfree hr (fun c a w h => hQ c a _ _ w h) (.inr ⟨by simpa using hw, rfl⟩) hS (turn_held hs hQ r fuel _ W _ w (by simp [Ord.depth] at hf; omega) hok hS h)
  | .ac i r, fuel, listed, W, a, w, hf, hok, hS, h => by
    obtain ⟨fuel, rfl⟩ : ∃ f, fuel = f + 1 := ⟨fuel - 1, by simp [Ord.depth] at hf; omega⟩
    simp only [chainOk, Bool.and_eq_true, beq_iff_eq, decide_eq_true_eq] at hok
    obtain ⟨⟨hlen, hr⟩, hok⟩ := hok
    simp only [Ord.map, wpTurn] at h
    refine wpAnyH_all hr (by simp) fun j hj => ?_
    obtain rfl : j = i := by simpa using hj
    exact wpOp_mono (K := fun a' w' => ∃ W', Only (· = q) W W' ∧ Only (· = q) W' w' ∧ wpTurn q P l.toArray Q (r.map (nthOp l)) W' a' w') (fun a' w' ⟨W', h1, h2, h3⟩ => ⟨Only.trans' h1 h2, wpAnyH_weakT (fun _ hx => Only.trans' h1 hx) _ _ _ _ (turn_held hs hQ r fuel _ W' _ w' (by simp [Ord.depth] at hf; omega) hok h2 h3)⟩) (chain_op (by simpa using hlen) (by split at h <;> first | (rename_i hw; simp only [hw, if_true]; exact h) | (rename_i hw; simp only [hw]; exact ⟨W, Only.refl _ W, hS, h⟩)))
  | .br i r k u, fuel, listed, W, a, w, hf, hok, hS, h => by
    obtain ⟨fuel, rfl⟩ : ∃ f, fuel = f + 1 := ⟨fuel - 1, by simp [Ord.depth] at hf; omega⟩
    simp only [chainOk, Bool.and_eq_true, beq_iff_eq, decide_eq_true_eq] at hok
    obtain ⟨⟨⟨⟨hi, hk⟩, hr⟩, hok⟩, hok'⟩ := hok
    simp only [Ord.map, wpTurn] at h
    obtain ⟨h1, h2⟩ := h
    refine wpAnyH_all hr (by simp) fun j hj => ?_
    rcases (show j = i ∨ j = k by simpa using hj) with rfl | rfl
    · exact wpOp_mono (K := fun a' w' => ∃ W', Only (· = q) W W' ∧ Only (· = q) W' w' ∧ wpTurn q P l.toArray Q (r.map (nthOp l)) W' a' w') (fun a' w' ⟨W', h1, h2, h3⟩ => ⟨Only.trans' h1 h2, wpAnyH_weakT (fun _ hx => Only.trans' h1 hx) _ _ _ _ (turn_held hs hQ r fuel _ W' _ w' (by simp [Ord.depth] at hf; omega) hok h2 h3)⟩) (chain_op (by simpa using hi) (by split at h1 <;> first | (rename_i hw; simp only [hw, if_true]; exact h1) | (rename_i hw; simp only [hw]; exact ⟨W, Only.refl _ W, hS, h1⟩)))
    · exact wpOp_mono (K := fun a' w' => ∃ W', Only (· = q) W W' ∧ Only (· = q) W' w' ∧ wpTurn q P l.toArray Q (u.map (nthOp l)) W' a' w') (fun a' w' ⟨W', h1, h2, h3⟩ => ⟨Only.trans' h1 h2, wpAnyH_weakT (fun _ hx => Only.trans' h1 hx) _ _ _ _ (turn_held hs hQ u fuel _ W' _ w' (by simp [Ord.depth] at hf; omega) hok' h2 h3)⟩) (chain_op (by simpa using hk) (by split at h2 <;> first | (rename_i hw; simp only [hw, if_true]; exact h2) | (rename_i hw; simp only [hw]; exact ⟨W, Only.refl _ W, hS, h2⟩)))
/-- The beginning. -/
theorem wp_region_turn {id : Nat} {l : List Oper} {l' : Ord Oper} (order : Ord Nat) (hm : P.follows .mixedOrders = true)
    (hok : (Region.noSelect l.toArray && decide (order.depth ≤ l.length) && chainOk .any l.toArray order (Array.replicate l.length false)) = true)
    (hQ : ∀ c (a : Act) d v w, Q (.panic c) (a.put d v) w → Q (.panic c) a w) (hl : order.map (nthOp l) = l')
    (h : ∀ d, wpTurn q P l.toArray Q l' (Go.Proofs.Ytgldlkoohfclpaa.grow w d) a (Go.Proofs.Ytgldlkoohfclpaa.grow w d)) : (Code.region id l.toArray true).wp P Q a w := by
  simp only [Bool.and_eq_true, decide_eq_true_eq] at hok
  obtain ⟨⟨h1, h2⟩, h3⟩ := hok
  subst hl
  refine wp_region_held hm (S := Only (· = q) w.drew) ?_
  have e : Go.Proofs.Ytgldlkoohfclpaa.grow w ⟨#[], w.drawn + 1⟩ = w.drew := by simp only [Go.Proofs.Ytgldlkoohfclpaa.grow, Array.append_empty]; rfl
  exact turn_held h1 hQ order _ _ w.drew _ w.drew (by simpa using h2) (by simpa using h3) (Only.refl _ _) (e ▸ h ⟨#[], w.drawn + 1⟩)
theorem turn_nil (h : Q .normal a w) : wpTurn q P ops Q .done W a w := h
theorem turn_read (hw : Region.wanted o (yielded ops a.tmps) = true) (h : ∀ K : Act → Prop, (∀ a', wpTurn q P ops Q r W a' w → K a') → o.quiet P a (Turned q W) K) : wpTurn q P ops Q (.rd o r) W a w := by
  simp only [wpTurn, hw, if_true]
  exact h _ fun _ h => h
theorem turn_skip (hw : Region.wanted o (yielded ops a.tmps) = false) (h : wpTurn q P ops Q r W (a.put o.dst undef) w) : wpTurn q P ops Q (.rd o r) W a w := by
  simp only [wpTurn, hw]
  exact h
theorem turn_idle (hw : Region.wanted o (yielded ops a.tmps) = false) (h : wpTurn q P ops Q r W (a.put o.dst undef) w) : wpTurn q P ops Q (.ac o r) W a w := by
  simp only [wpTurn, hw]
  exact h
theorem turn_act (hw : Region.wanted o (yielded ops a.tmps) = true) (h : ∀ K : Act → World → Prop, (∀ a' w', (∃ W', Only (· = q) W W' ∧ Only (· = q) W' w' ∧ wpTurn q P ops Q r W' a' w') → K a' w') → o.wp P a w K Q) : wpTurn q P ops Q (.ac o r) W a w := by
  simp only [wpTurn, hw, if_true]
  exact h _ fun _ _ h => h
theorem turn_br (h : wpTurn q P ops Q (.ac o r) W a w) (h' : wpTurn q P ops Q (.ac o' r') W a w) : wpTurn q P ops Q (.br o r o' r') W a w := ⟨h, h'⟩
theorem turn_guard {j : Nat} {want X : Bool} {v : Value} (hg : o.guard = some (j, want)) (hj : yielded ops a.tmps j = some X)
    (h : X = want → ∀ w', Turned q W w' → o.quietAt P a (Turned q W) w' v) (k : wpTurn q P ops Q r W (a.put o.dst (guarded X want v)) w) : wpTurn q P ops Q (.rd o r) W a w := by
  simp only [wpTurn]
  rw [wanted_of hg hj]
  by_cases e : X = want
  · subst e
    rw [if_pos (by simp)]
    exact ⟨v, h rfl, by simpa [guarded_self] using k⟩
  · rw [if_neg (by simpa using e)]
    simpa [guarded_not e] using k
end
end Go.Proofs.Ytgldlkoohfclpaa

namespace Go.Proofs.Ytgldlkoohfclpaa
set_option maxRecDepth 100000
set_option linter.unusedSimpArgs false
set_option linter.unusedVariables false
open Go.RowKit

/-- The worlds that are one, but for some blocks, and grown. -/
def Among (S : Nat → Prop) (w : World) : World → Prop := Only S w
theorem yieldsIf_quietO {S : Nat → Prop} {P : Program} {ops : Array Oper} {W : World} {a : Act} {o : Oper} {v : Value} (hv : isValueOp o.op = true) (hw : Region.wanted o (yielded ops a.tmps) = true) (h : ∀ w, Among S W w → o.quietAt P a (Among S W) w v) : YieldsIf P ops (Only S W) o v a := by
  refine .inl ⟨hw, fun w hS => ?_⟩
  have h1 := h w (hS)
  unfold Oper.quietAt at h1
  cases hr : (execOp a.eval o).run P w with
  | halt x w' => rw [hr] at h1; exact h1.elim
  | ok n w' =>
    obtain ⟨u, rfl⟩ := execOp_value hv hr
    rw [hr] at h1
    obtain ⟨e1, e2⟩ := h1
    rw [e1, e2]
/-- One walk: what reads as soon as it may, asked of the world at hand; what acts one behind the other. -/
def wpOnly (S : Nat → Prop) (P : Program) (ops : Array Oper) (Q : Exit → Act → World → Prop) : Ord Oper → World → Act → World → Prop
  | .done, _, a, w => Q .normal a w
  | .rd o r, W, a, w => if Region.wanted o (yielded ops a.tmps) then o.quiet P a (Among S W) (fun a' => wpOnly S P ops Q r W a' w) else wpOnly S P ops Q r W (a.put o.dst undef) w
  | .ac o r, W, a, w => if Region.wanted o (yielded ops a.tmps) then o.wp P a w (fun a' w' => ∃ W', Only S W W' ∧ Only S W' w' ∧ wpOnly S P ops Q r W' a' w') Q else wpOnly S P ops Q r W (a.put o.dst undef) w
  | .br o r o' r', W, a, w =>
    (if Region.wanted o (yielded ops a.tmps) then o.wp P a w (fun a' w' => ∃ W', Only S W W' ∧ Only S W' w' ∧ wpOnly S P ops Q r W' a' w') Q else wpOnly S P ops Q r W (a.put o.dst undef) w) ∧
    (if Region.wanted o' (yielded ops a.tmps) then o'.wp P a w (fun a' w' => ∃ W', Only S W W' ∧ Only S W' w' ∧ wpOnly S P ops Q r' W' a' w') Q else wpOnly S P ops Q r' W (a.put o'.dst undef) w)
section
variable {S : Nat → Prop} {P : Program} {ops : Array Oper} {Q : Exit → Act → World → Prop} {a : Act} {W w : World} {o o' : Oper} {r r' : Ord Oper}
theorem wpAnyH_weakO {md : Region.Mode} {A T : World → Prop} (hST : ∀ w, A w → T w) : ∀ (fuel : Nat) (listed : Array Bool) (a : Act) (w : World), wpAnyH P md ops Q A fuel listed a w → wpAnyH P md ops Q T fuel listed a w
  | 0, _, _, _, h => h
  | fuel + 1, _, _, _, h => ⟨h.1, fun i hi => wpOp_mono (fun a' w' ⟨h1, h2⟩ => ⟨hST w' h1, wpAnyH_weakO hST fuel _ a' w' h2⟩) (h.2 i hi)⟩
theorem only_held {md : Region.Mode} {l : List Oper} (hs : Region.noSelect l.toArray = true) (hQ : ∀ c (a : Act) d v w, Q (.panic c) (a.put d v) w → Q (.panic c) a w) :
    ∀ (order : Ord Nat) (fuel : Nat) (listed : Array Bool) (W : World) (a : Act) (w : World), order.depth ≤ fuel → chainOk md l.toArray order listed = true → Only S W w →
      wpOnly S P l.toArray Q (order.map (nthOp l)) W a w → wpAnyH P md l.toArray Q (Only S W) fuel listed a w
  | .done, fuel, listed, W, a, w, _, hok, _, h => wpAnyH_done (by simpa [chainOk] using hok) h fuel
  | .rd i r, fuel, listed, W, a, w, hf, hok, hS, h => by
    obtain ⟨fuel, rfl⟩ : ∃ f, fuel = f + 1 := ⟨fuel - 1, by simp [Ord.depth] at hf; omega⟩
    simp only [chainOk, Bool.and_eq_true] at hok
    obtain ⟨⟨⟨hv, hfree⟩, hr⟩, hok⟩ := hok
    have hlen : i < l.length := by
      rcases Nat.lt_or_ge i l.length with h' | h'
      · exact h'
      · simp [h'] at hv
    have ho := nthOp_get l i hlen
    simp only [ho] at hv
    simp only [Ord.map, wpOnly] at h
    by_cases hw : Region.wanted (nthOp l i) (yielded l.toArray a.tmps) = true
    · simp only [hw, if_true] at h
      obtain ⟨v, h1, h2⟩ := h
      exact wpAnyH_take ho hs hfree hr (fun c a w h => hQ c a _ _ w h) (yieldsIf_quietO hv hw h1) hS (only_held hs hQ r fuel _ W _ w (by simp [Ord.depth] at hf; omega) hok hS h2)
    · simp only [hw] at h
      exact wpAnyH_take ho hs hfree hr (fun c a w h => hQ c a _ _ w h) (.inr ⟨by simpa using hw, rfl⟩) hS (only_held hs hQ r fuel _ W _ w (by simp [Ord.depth] at hf; omega) hok hS h)
  | .ac i r, fuel, listed, W, a, w, hf, hok, hS, h => by
    obtain ⟨fuel, rfl⟩ : ∃ f, fuel = f + 1 := ⟨fuel - 1, by simp [Ord.depth] at hf; omega⟩
    simp only [chainOk, Bool.and_eq_true, beq_iff_eq, decide_eq_true_eq] at hok
    obtain ⟨⟨hlen, hr⟩, hok⟩ := hok
    simp only [Ord.map, wpOnly] at h
    refine wpAnyH_all hr (by simp) fun j hj => ?_
    obtain rfl : j = i := by simpa using hj
    exact wpOp_mono (K := fun a' w' => ∃ W', Only S W W' ∧ Only S W' w' ∧ wpOnly S P l.toArray Q (r.map (nthOp l)) W' a' w') (fun a' w' ⟨W', h1, h2, h3⟩ => ⟨Only.trans' h1 h2, wpAnyH_weakO (fun _ hx => Only.trans' h1 hx) _ _ _ _ (only_held hs hQ r fuel _ W' _ w' (by simp [Ord.depth] at hf; omega) hok h2 h3)⟩) (chain_op (by simpa using hlen) (by split at h <;> first | (rename_i hw; simp only [hw, if_true]; exact h) | (rename_i hw; simp only [hw]; exact ⟨W, Only.refl _ W, hS, h⟩)))
  | .br i r k u, fuel, listed, W, a, w, hf, hok, hS, h => by
    obtain ⟨fuel, rfl⟩ : ∃ f, fuel = f + 1 := ⟨fuel - 1, by simp [Ord.depth] at hf; omega⟩
    simp only [chainOk, Bool.and_eq_true, beq_iff_eq, decide_eq_true_eq] at hok
    obtain ⟨⟨⟨⟨hi, hk⟩, hr⟩, hok⟩, hok'⟩ := hok
    simp only [Ord.map, wpOnly] at h
    obtain ⟨h1, h2⟩ := h
    refine wpAnyH_all hr (by simp) fun j hj => ?_
    rcases (show j = i ∨ j = k by simpa using hj) with rfl | rfl
    · exact wpOp_mono (K := fun a' w' => ∃ W', Only S W W' ∧ Only S W' w' ∧ wpOnly S P l.toArray Q (r.map (nthOp l)) W' a' w') (fun a' w' ⟨W', h1, h2, h3⟩ => ⟨Only.trans' h1 h2, wpAnyH_weakO (fun _ hx => Only.trans' h1 hx) _ _ _ _ (only_held hs hQ r fuel _ W' _ w' (by simp [Ord.depth] at hf; omega) hok h2 h3)⟩) (chain_op (by simpa using hi) (by split at h1 <;> first | (rename_i hw; simp only [hw, if_true]; exact h1) | (rename_i hw; simp only [hw]; exact ⟨W, Only.refl _ W, hS, h1⟩)))
    · exact wpOp_mono (K := fun a' w' => ∃ W', Only S W W' ∧ Only S W' w' ∧ wpOnly S P l.toArray Q (u.map (nthOp l)) W' a' w') (fun a' w' ⟨W', h1, h2, h3⟩ => ⟨Only.trans' h1 h2, wpAnyH_weakO (fun _ hx => Only.trans' h1 hx) _ _ _ _ (only_held hs hQ u fuel _ W' _ w' (by simp [Ord.depth] at hf; omega) hok' h2 h3)⟩) (chain_op (by simpa using hk) (by split at h2 <;> first | (rename_i hw; simp only [hw, if_true]; exact h2) | (rename_i hw; simp only [hw]; exact ⟨W, Only.refl _ W, hS, h2⟩)))
/-- The beginning. -/
theorem wp_region_only {id : Nat} {l : List Oper} {l' : Ord Oper} (order : Ord Nat) (hm : P.follows .mixedOrders = true)
    (hok : (Region.noSelect l.toArray && decide (order.depth ≤ l.length) && chainOk .any l.toArray order (Array.replicate l.length false)) = true)
    (hQ : ∀ c (a : Act) d v w, Q (.panic c) (a.put d v) w → Q (.panic c) a w) (hl : order.map (nthOp l) = l')
    (h : ∀ d, wpOnly S P l.toArray Q l' (Go.Proofs.Ytgldlkoohfclpaa.grow w d) a (Go.Proofs.Ytgldlkoohfclpaa.grow w d)) : (Code.region id l.toArray true).wp P Q a w := by
  simp only [Bool.and_eq_true, decide_eq_true_eq] at hok
  obtain ⟨⟨h1, h2⟩, h3⟩ := hok
  subst hl
  refine wp_region_held hm (S := Only S w.drew) ?_
  have e : Go.Proofs.Ytgldlkoohfclpaa.grow w ⟨#[], w.drawn + 1⟩ = w.drew := by simp only [Go.Proofs.Ytgldlkoohfclpaa.grow, Array.append_empty]; rfl
  exact only_held h1 hQ order _ _ w.drew _ w.drew (by simpa using h2) (by simpa using h3) (Only.refl _ _) (e ▸ h ⟨#[], w.drawn + 1⟩)
theorem only_nil (h : Q .normal a w) : wpOnly S P ops Q .done W a w := h
theorem only_read (hw : Region.wanted o (yielded ops a.tmps) = true) (h : ∀ K : Act → Prop, (∀ a', wpOnly S P ops Q r W a' w → K a') → o.quiet P a (Among S W) K) : wpOnly S P ops Q (.rd o r) W a w := by
  simp only [wpOnly, hw, if_true]
  exact h _ fun _ h => h
theorem only_skip (hw : Region.wanted o (yielded ops a.tmps) = false) (h : wpOnly S P ops Q r W (a.put o.dst undef) w) : wpOnly S P ops Q (.rd o r) W a w := by
  simp only [wpOnly, hw]
  exact h
theorem only_idle (hw : Region.wanted o (yielded ops a.tmps) = false) (h : wpOnly S P ops Q r W (a.put o.dst undef) w) : wpOnly S P ops Q (.ac o r) W a w := by
  simp only [wpOnly, hw]
  exact h
theorem only_act (hw : Region.wanted o (yielded ops a.tmps) = true) (h : ∀ K : Act → World → Prop, (∀ a' w', (∃ W', Only S W W' ∧ Only S W' w' ∧ wpOnly S P ops Q r W' a' w') → K a' w') → o.wp P a w K Q) : wpOnly S P ops Q (.ac o r) W a w := by
  simp only [wpOnly, hw, if_true]
  exact h _ fun _ _ h => h
theorem only_br (h : wpOnly S P ops Q (.ac o r) W a w) (h' : wpOnly S P ops Q (.ac o' r') W a w) : wpOnly S P ops Q (.br o r o' r') W a w := ⟨h, h'⟩
theorem only_guard {j : Nat} {want X : Bool} {v : Value} (hg : o.guard = some (j, want)) (hj : yielded ops a.tmps j = some X)
    (h : X = want → ∀ w', Among S W w' → o.quietAt P a (Among S W) w' v) (k : wpOnly S P ops Q r W (a.put o.dst (guarded X want v)) w) : wpOnly S P ops Q (.rd o r) W a w := by
  simp only [wpOnly]
  rw [wanted_of hg hj]
  by_cases e : X = want
  · subst e
    rw [if_pos (by simp)]
    exact ⟨v, h rfl, by simpa [guarded_self] using k⟩
  · rw [if_neg (by simpa using e)]
    simpa [guarded_not e] using k
end


theorem quiet_load1 {P : Program} {o : Oper} {a : Act} {C : World → Prop} {K : Act → Prop} (ty : TypeId) (x : Operand) (ho : o.op = .load ty x) (b off : Nat) (hx : a.eval x = .pointer (some ⟨b, off, none⟩)) (v : Value) (d : TypeDesc)
    (hc : ∀ w', C w' → w'.cell? ⟨b, off, none⟩ = some v) (hu : P.underlying ty = some d) (hd : d.isRow = false) (k : K (a.put o.dst v)) : o.quiet P a C K := by
  refine ⟨_, fun w' hw' => ?_, k⟩
  unfold Oper.quietAt execOp
  rw [ho]
  cases d <;> first | (simp [TypeDesc.isRow] at hd; done) | simp [hx, Instr.loadAt, Instr.sureAddr, loadVar, isAgg, run_underlying hu, hd, hc w' hw', Result.andThen, Oper.quietUpon, Sem.run_bind, Sem.run_map, Sem.run_pure]
theorem quiet_run {P : Program} {o : Oper} {a : Act} {C : World → Prop} {K : Act → Prop} (v : Value) (h : ∀ w, (execOp a.eval o).run P w = .ok (.value v) w) (k : K (a.put o.dst v)) : o.quiet P a C K :=
  ⟨v, fun w _ => by unfold Oper.quietAt; rw [h w]; exact ⟨rfl, rfl⟩, k⟩
theorem wp_build1 {P : Program} {o : Oper} {a : Act} {w : World} {K : Act → World → Prop} {Q : Exit → Act → World → Prop} (t e : TypeId) (x : Operand) (ho : o.op = .buildSlice t 1 #[(0, x)])
    (cs : Array Value) (s : Nat) (hx : a.eval x = .agg cs) (hs : cs.size = s) (h0 : 0 < s) (h1 : s ≤ 1000)
    (hu : P.underlying t = some (.slice e)) (hi : (P.info? e).map (·.size) = some s) (hz : ((P.info? e).bind (·.zero)).map (·.cells.size) = some s)
    (h : K (a.put o.dst (.slice (some ⟨w.heap.size, 0, none⟩) 1 1)) (w.alloc (.cells cs e))) : o.wp P a w K Q := by
  cases hie : P.info? e with
  | none => simp [hie] at hi
  | some ie =>
    cases hzz : ie.zero with
    | none => simp [hie, hzz] at hz
    | some z =>
      have hsz : ie.size = s := by simpa [hie] using hi
      have hzs : z.cells.size = s := by simpa [hie, hzz] using hz
      refine wp_buildSlice t e 1 #[(0, x)] ho cs ie z hu hie hzz (by omega) (by omega) ?_ h
      have hf := Great.fill_whole h0 [.agg cs] ((Array.range (1 * s)).map (z.cells[· % z.cells.size]!)) (by simpa [Value.cells] using hs) (by simp)
      rw [hsz]
      simpa [hx, Value.cells] using hf
end Go.Proofs.Ytgldlkoohfclpaa

namespace Go.Proofs.Ytgldlkoohfclpaa
set_option maxRecDepth 100000
set_option linter.unusedSimpArgs false
set_option linter.unusedVariables false
open Go.RowKit

/-- An order: done; what reads is taken first; or ways: one that may come up now, or others, until all are told. -/
inductive OrdM (α : Type) where
  | done
  | rd (i : α) (t : OrdM α)
  | way (i : α) (t : OrdM α) (u : OrdM α)
  | stop
def OrdM.map {α β : Type} (f : α → β) : OrdM α → OrdM β
  | .done => .done
  | .rd i t => .rd (f i) (t.map f)
  | .way i t u => .way (f i) (t.map f) (u.map f)
  | .stop => .stop
def OrdM.depth {α : Type} : OrdM α → Nat
  | .done => 0
  | .rd _ t => t.depth + 1
  | .way _ t u => max (t.depth + 1) u.depth
  | .stop => 0
def manyOk (md : Region.Mode) (ops : Array Oper) : OrdM Nat → Array Bool → List Nat → Bool
  | .done, listed, acc => acc.isEmpty && (Region.ready md ops listed).isEmpty
  | .rd i r, listed, acc => acc.isEmpty && ((match ops[i]? with | some o => isValueOp o.op | none => false) && Region.free md ops listed i && (Region.ready md ops listed).contains i && manyOk md ops r (listed.setIfInBounds i true) [])
  | .way i r u, listed, acc => decide (i < ops.size) && (Region.ready md ops listed).contains i && manyOk md ops r (listed.setIfInBounds i true) [] && manyOk md ops u listed (i :: acc)
  | .stop, listed, acc => !acc.isEmpty && (Region.ready md ops listed).all fun i => acc.contains i
def wpMany (P : Program) (ops : Array Oper) (Q : Exit → Act → World → Prop) : OrdM Oper → World → Act → World → Prop
  | .done, _, a, w => Q .normal a w
  | .rd o r, W, a, w => if Region.wanted o (yielded ops a.tmps) then o.quiet P a (Grown W) (fun a' => wpMany P ops Q r W a' w) else wpMany P ops Q r W (a.put o.dst undef) w
  | .way o r u, W, a, w =>
    (if Region.wanted o (yielded ops a.tmps) then o.wp P a w (fun a' w' => ∃ W', Ext W W' ∧ Ext W' w' ∧ wpMany P ops Q r W' a' w') Q else wpMany P ops Q r W (a.put o.dst undef) w) ∧ wpMany P ops Q u W a w
  | .stop, _, _, _ => True
section
variable {P : Program} {ops : Array Oper} {Q : Exit → Act → World → Prop} {a : Act} {W w : World} {o : Oper} {r u : OrdM Oper}
theorem many_held {md : Region.Mode} {l : List Oper} (hs : Region.noSelect l.toArray = true) (hQ : ∀ c (a : Act) d v w, Q (.panic c) (a.put d v) w → Q (.panic c) a w) :
    ∀ (order : OrdM Nat) (listed : Array Bool) (acc : List Nat) (W : World) (a : Act) (w : World), manyOk md l.toArray order listed acc = true → Ext W w →
      wpMany P l.toArray Q (order.map (nthOp l)) W a w → (∀ fuel, order.depth ≤ fuel → acc = [] → wpAnyH P md l.toArray Q (Ext W) fuel listed a w) ∧
        (∀ fuel, order.depth ≤ fuel + 1 → ∀ i r u, (order = .way i r u ∨ order = .stop) → ∀ j, j ∈ Region.ready md l.toArray listed → j ∈ acc ∨ wpOp P l.toArray Q j (fun a' w' => Ext W w' ∧ wpAnyH P md l.toArray Q (Ext W) fuel (listed.setIfInBounds j true) a' w') a w)
  | .done, listed, acc, W, a, w, hok, hS, h => by
    simp only [manyOk, Bool.and_eq_true] at hok
    refine ⟨fun fuel _ _ => wpAnyH_done (by simpa using hok.2) h fuel, fun fuel _ i r u e => ?_⟩
    rcases e with e | e <;> cases e
  | .rd i r, listed, acc, W, a, w, hok, hS, h => by
    refine ⟨fun fuel hf _ => ?_, fun fuel _ i r u e => by rcases e with e | e <;> cases e⟩
    obtain ⟨fuel, rfl⟩ : ∃ f, fuel = f + 1 := ⟨fuel - 1, by simp [OrdM.depth] at hf; omega⟩
    simp only [manyOk, Bool.and_eq_true] at hok
    obtain ⟨_, ⟨⟨hv, hfree⟩, hr⟩, hok⟩ := hok
    have hlen : i < l.length := by
      rcases Nat.lt_or_ge i l.length with h' | h'
      · exact h'
      · simp [h'] at hv
    have ho := nthOp_get l i hlen
    simp only [ho] at hv
    simp only [OrdM.map, wpMany] at h
    by_cases hw : Region.wanted (nthOp l i) (yielded l.toArray a.tmps) = true
    · simp only [hw, if_true] at h
      obtain ⟨v, h1, h2⟩ := h
      exact wpAnyH_take ho hs hfree hr (fun c a w h => hQ c a _ _ w h) (yieldsIf_quiet hv hw h1) hS ((many_held hs hQ r _ [] W _ w hok hS h2).1 fuel (by simp [OrdM.depth] at hf; omega) rfl)
    · simp only [hw] at h
      exact wpAnyH_take ho hs hfree hr (fun c a w h => hQ c a _ _ w h) (.inr ⟨by simpa using hw, rfl⟩) hS ((many_held hs hQ r _ [] W _ w hok hS h).1 fuel (by simp [OrdM.depth] at hf; omega) rfl)
  | .way i r u, listed, acc, W, a, w, hok, hS, h => by
    simp only [manyOk, Bool.and_eq_true, decide_eq_true_eq] at hok
    obtain ⟨⟨⟨hlen, hr⟩, hok1⟩, hok2⟩ := hok
    simp only [OrdM.map, wpMany] at h
    obtain ⟨h1, h2⟩ := h
    have key : ∀ fuel, (OrdM.way i r u).depth ≤ fuel + 1 → ∀ j, j ∈ Region.ready md l.toArray listed → j ∈ acc ∨ wpOp P l.toArray Q j (fun a' w' => Ext W w' ∧ wpAnyH P md l.toArray Q (Ext W) fuel (listed.setIfInBounds j true) a' w') a w := by
      intro fuel hf j hj
      simp only [OrdM.depth] at hf
      have hi : wpOp P l.toArray Q i (fun a' w' => Ext W w' ∧ wpAnyH P md l.toArray Q (Ext W) fuel (listed.setIfInBounds i true) a' w') a w := by
        refine wpOp_mono (K := fun a' w' => ∃ W', Ext W W' ∧ Ext W' w' ∧ wpMany P l.toArray Q (r.map (nthOp l)) W' a' w') (fun a' w' ⟨W', g1, g2, g3⟩ => ⟨Ext.trans g1 g2, wpAnyH_weak (fun _ hx => Ext.trans g1 hx) _ _ _ _ ((many_held hs hQ r _ [] W' _ w' hok1 g2 g3).1 fuel (by omega) rfl)⟩) (chain_op (by simpa using hlen) ?_)
        split at h1
        · rename_i hw
          simp only [hw, if_true]
          exact h1
        · rename_i hw
          simp only [hw]
          exact ⟨W, Ext.refl _, hS, h1⟩
      have hu := (many_held hs hQ u listed (i :: acc) W a w hok2 hS h2).2
      cases u with
      | done => simp [manyOk] at hok2
      | rd i' r' => simp [manyOk] at hok2
      | way i' r' u' =>
        rcases hu fuel (by omega) i' r' u' (.inl rfl) j hj with c | c
        · rcases List.mem_cons.1 c with rfl | c
          · exact .inr hi
          · exact .inl c
        · exact .inr c
      | stop =>
        rcases hu fuel (by omega) i .stop .stop (.inr rfl) j hj with c | c
        · rcases List.mem_cons.1 c with rfl | c
          · exact .inr hi
          · exact .inl c
        · exact .inr c
    refine ⟨fun fuel hf hacc => ?_, fun fuel hf _ _ _ _ => key fuel hf⟩
    subst hacc
    obtain ⟨fuel, rfl⟩ : ∃ f, fuel = f + 1 := ⟨fuel - 1, by simp only [OrdM.depth] at hf; omega⟩
    have hne : Region.ready md l.toArray listed ≠ [] := fun e => by rw [e] at hr; simp at hr
    refine wpAnyH_all rfl hne fun j hj => ?_
    rcases key fuel hf j hj with c | c
    · cases c
    · exact c
  | .stop, listed, acc, W, a, w, hok, hS, h => by
    simp only [manyOk, Bool.and_eq_true] at hok
    obtain ⟨h1, h2⟩ := hok
    refine ⟨fun fuel hf hacc => by subst hacc; simp at h1, fun fuel hf i r u _ j hj => .inl ?_⟩
    simpa using (List.all_eq_true.1 h2) j hj
/-- The beginning. -/
theorem wp_region_many {id : Nat} {l : List Oper} {l' : OrdM Oper} (order : OrdM Nat) (hm : P.follows .mixedOrders = true)
    (hok : (Region.noSelect l.toArray && decide (order.depth ≤ l.length) && manyOk .any l.toArray order (Array.replicate l.length false) []) = true)
    (hQ : ∀ c (a : Act) d v w, Q (.panic c) (a.put d v) w → Q (.panic c) a w) (hl : order.map (nthOp l) = l')
    (h : ∀ d, wpMany P l.toArray Q l' (Go.Proofs.Ytgldlkoohfclpaa.grow w d) a (Go.Proofs.Ytgldlkoohfclpaa.grow w d)) : (Code.region id l.toArray true).wp P Q a w := by
  simp only [Bool.and_eq_true, decide_eq_true_eq] at hok
  obtain ⟨⟨h1, h2⟩, h3⟩ := hok
  subst hl
  refine wp_region_held hm (S := Ext w.drew) ?_
  have e : Go.Proofs.Ytgldlkoohfclpaa.grow w ⟨#[], w.drawn + 1⟩ = w.drew := by simp only [Go.Proofs.Ytgldlkoohfclpaa.grow, Array.append_empty]; rfl
  exact (many_held h1 hQ order _ [] w.drew _ w.drew (by simpa using h3) (Ext.refl _) (e ▸ h ⟨#[], w.drawn + 1⟩)).1 _ (by simpa using h2) rfl
theorem many_nil (h : Q .normal a w) : wpMany P ops Q .done W a w := h
theorem many_stop : wpMany P ops Q .stop W a w := trivial
theorem many_read (hw : Region.wanted o (yielded ops a.tmps) = true) (h : ∀ K : Act → Prop, (∀ a', wpMany P ops Q r W a' w → K a') → o.quiet P a (Grown W) K) : wpMany P ops Q (.rd o r) W a w := by
  simp only [wpMany, hw, if_true]
  exact h _ fun _ h => h
theorem many_skip (hw : Region.wanted o (yielded ops a.tmps) = false) (h : wpMany P ops Q r W (a.put o.dst undef) w) : wpMany P ops Q (.rd o r) W a w := by
  simp only [wpMany, hw]
  exact h
theorem many_way (hw : Region.wanted o (yielded ops a.tmps) = true) (h : ∀ K : Act → World → Prop, (∀ a' w', (∃ W', Ext W W' ∧ Ext W' w' ∧ wpMany P ops Q r W' a' w') → K a' w') → o.wp P a w K Q) (hu : wpMany P ops Q u W a w) : wpMany P ops Q (.way o r u) W a w := by
  simp only [wpMany, hw, if_true]
  exact ⟨h _ fun _ _ h => h, hu⟩
end
end Go.Proofs.Ytgldlkoohfclpaa

namespace Go.Proofs.Ytgldlkoohfclpaa
set_option maxRecDepth 100000
set_option linter.unusedSimpArgs false
set_option linter.unusedVariables false
open Go.RowKit

/-- What a slice of one's own holds, wherever in its row it begins. -/
def ownsAt (w : World) (base : Nat) (e : TypeId) (size : Nat) (v : Value) (n : Nat) (xs : List Value) : Prop :=
  xs.length = n * size ∧
  ((v = .slice none 0 0 ∧ n = 0) ∨
   ∃ g o cap cur, v = .slice (some ⟨g, o * size, none⟩) n cap ∧ base ≤ g ∧ w.heap[g]? = some (.cells cur e (0, 0)) ∧ n ≤ cap ∧ o + cap ≤ maxLen ∧ (cap = 0 ∨ cur.size = (o + cap) * size) ∧ (cur.toList.drop (o * size)).take (n * size) = xs)
section
variable {w : World} {base : Nat} {e : TypeId} {size : Nat} {v : Value} {n : Nat} {xs : List Value}
theorem ownsAt_nil (w : World) (base : Nat) (e : TypeId) (size : Nat) : ownsAt w base e size (.slice none 0 0) 0 [] := ⟨by simp, .inl ⟨rfl, rfl⟩⟩
theorem ownsAt_of (h : w.ownsRow base e size v n xs) : ownsAt w base e size v n xs := by
  refine ⟨h.1, ?_⟩
  rcases h.2 with h0 | ⟨g, cap, cur, rfl, hb, hg, hn, hm, hs, ht⟩
  · exact .inl h0
  · exact .inr ⟨g, 0, cap, cur, by simp, hb, hg, hn, by simpa using hm, .inr (by simpa using hs), by simpa using ht⟩
theorem ownsAt.lt (h : ownsAt w base e size v n xs) : ∀ k, v.ownBlock = some k → base ≤ k ∧ k < w.heap.size := by
  intro k hk
  rcases h.2 with ⟨rfl, _⟩ | ⟨g, o, cap, cur, rfl, hb, hg, _⟩
  · cases hk
  · obtain rfl : g = k := by simpa [Value.ownBlock] using hk
    exact ⟨hb, (Array.getElem?_eq_some_iff.1 hg).1⟩
theorem ownsAt.only {S : Nat → Prop} {w' : World} (h : ownsAt w base e size v n xs) (x : Only S w w') (hn : ∀ g, v.ownBlock = some g → ¬ S g) : ownsAt w' base e size v n xs := by
  refine ⟨h.1, ?_⟩
  rcases h.2 with h0 | ⟨g, o, cap, cur, rfl, hb, hg, r⟩
  · exact .inl h0
  · exact .inr ⟨g, o, cap, cur, rfl, hb, by rw [x.block g (Array.getElem?_eq_some_iff.1 hg).1 (hn g rfl)]; exact hg, r⟩
theorem ownsAt.ext {w' : World} (h : ownsAt w base e size v n xs) (x : Ext w w') : ownsAt w' base e size v n xs := h.only (Only.ofExt (S := fun _ => False) x) (fun _ _ => id)
/-- Its shape. -/
theorem ownsAt.shape (h : ownsAt w base e size v n xs) : ∃ A c, v = .slice A n c ∧ n ≤ c ∧ (A = none → c = 0) := by
  rcases h.2 with ⟨rfl, rfl⟩ | ⟨g, o, cap, cur, rfl, hb, hg, hn, _⟩
  · exact ⟨none, 0, rfl, Nat.le_refl _, fun _ => rfl⟩
  · exact ⟨_, cap, rfl, hn, fun h => by cases h⟩
/-- What lies in it. -/
theorem ownsAt.at_ (h : ownsAt w base e size v n xs) {A : Option Addr} {c : Nat} (hv : v = .slice A n c) (h0 : 0 < n) : ∃ g o, A = some ⟨g, o * size, none⟩ ∧ base ≤ g ∧ g < w.heap.size ∧ (∀ j u, xs[j]? = some u → w.cell? ⟨g, o * size + j, none⟩ = some u) ∧ ∀ j, w.frozen? ⟨g, j, none⟩ = false := by
  rcases h.2 with ⟨_, h1⟩ | ⟨g, o, cap, cur, hv2, hb, hg, hn, _, hs, ht⟩
  · omega
  · rw [hv] at hv2
    simp only [Value.slice.injEq] at hv2
    obtain ⟨rfl, _, rfl⟩ := hv2
    refine ⟨g, o, rfl, hb, (Array.getElem?_eq_some_iff.1 hg).1, fun j u hj => ?_, fun j => by simp [World.frozen?, hg]⟩
    have hlt := (List.getElem?_eq_some_iff.1 hj).1
    rw [h.1] at hlt
    rw [cell_of_row w g _ cur e (0, 0) hg]
    rw [← ht, List.getElem?_take, if_pos hlt, List.getElem?_drop] at hj
    simpa using hj
/-- The first ones left out. -/
theorem ownsAt.drop (h : ownsAt w base e size v n xs) {A : Option Addr} {c : Nat} (hv : v = .slice A n c) {k : Nat} (hk : k ≤ n) :
    ∃ A', (∀ g o, A = some ⟨g, o, none⟩ → A' = some ⟨g, o + k * size, none⟩) ∧ (A = none → A' = none) ∧ ownsAt w base e size (.slice A' (n - k) (c - k)) (n - k) (xs.drop (k * size)) := by
  rcases h.2 with ⟨h1, h2⟩ | ⟨g, o, cap, cur, hv2, hb, hg, hn, hm, hs, ht⟩
  · rw [hv] at h1
    simp only [Value.slice.injEq] at h1
    obtain ⟨rfl, _, rfl⟩ := h1
    subst h2
    obtain rfl : k = 0 := by omega
    exact ⟨none, (fun _ _ h => by cases h), (fun _ => rfl), by simpa using h.1, .inl ⟨rfl, rfl⟩⟩
  · rw [hv] at hv2
    simp only [Value.slice.injEq] at hv2
    obtain ⟨rfl, _, rfl⟩ := hv2
    have e1 : (o + k) * size = o * size + k * size := Nat.add_mul _ _ _
    refine ⟨some ⟨g, (o + k) * size, none⟩, (fun g' o' h => by cases h; rw [e1]), (fun h => by cases h), by rw [List.length_drop, h.1, Nat.sub_mul], .inr ⟨g, o + k, c - k, cur, rfl, hb, hg, by omega, by omega, hs.imp (fun h => by omega) (fun hs => by rw [hs, show o + k + (c - k) = o + c by omega]), ?_⟩⟩
    rw [← ht, List.drop_take, List.drop_drop, e1, Nat.sub_mul]
end
/-- Nothing of it is left, and there is no room. -/
theorem ownsAt.shut {w : World} {base : Nat} {e : TypeId} {size n c : Nat} {A : Option Addr} {xs : List Value} (h : ownsAt w base e size (.slice A n c) n xs) : ownsAt w base e size (.slice A 0 0) 0 [] := by
  refine ⟨by simp, ?_⟩
  rcases h.2 with ⟨h1, h2⟩ | ⟨g, o, cap, cur, hv2, hb, hg, hn, hm, hs, ht⟩
  · simp only [Value.slice.injEq] at h1
    obtain ⟨rfl, _, _⟩ := h1
    exact .inl ⟨rfl, rfl⟩
  · simp only [Value.slice.injEq] at hv2
    obtain ⟨rfl, _, rfl⟩ := hv2
    exact .inr ⟨g, o, 0, cur, rfl, hb, hg, Nat.le_refl _, by omega, .inl rfl, by simp⟩
theorem setCells_row {g : Nat} {e : TypeId} : ∀ (vs : List Value) (o : Nat) (w : World) (cur : Array Value), w.heap[g]? = some (.cells cur e (0, 0)) →
    ∃ ys : Array Value, (w.setCells g o vs).heap[g]? = some (.cells ys e (0, 0)) ∧ ys.size = cur.size ∧ ∀ j, ys.toList[j]? = if o ≤ j ∧ j < o + vs.length ∧ j < cur.size then vs[j - o]? else cur.toList[j]?
  | [], o, w, cur, h => ⟨cur, h, rfl, fun j => by rw [if_neg (by simp; omega)]⟩
  | v :: vs, o, w, cur, h => by
    have h1 := heap_setCell_same w g o cur e v h
    obtain ⟨ys, h2, h3, h4⟩ := setCells_row vs (o + 1) _ _ h1
    refine ⟨ys, h2, by simpa using h3, fun j => ?_⟩
    rw [h4 j]
    simp only [Array.size_setIfInBounds, List.length_cons, Array.toList_setIfInBounds]
    by_cases hj : j = o
    · subst hj
      rw [if_neg (by omega)]
      by_cases hlt : j < cur.size
      · rw [if_pos (by omega), Nat.sub_self, List.getElem?_set_self (by simpa using hlt)]
        rfl
      · rw [if_neg (by omega), List.getElem?_eq_none (by simp; omega), List.getElem?_eq_none (by simp; omega)]
    · by_cases h5 : o + 1 ≤ j ∧ j < o + 1 + vs.length ∧ j < cur.size
      · rw [if_pos h5, if_pos (by omega), show j - o = (j - (o + 1)) + 1 by omega, List.getElem?_cons_succ]
      · rw [if_neg h5, if_neg (by omega), List.getElem?_set_ne (by omega)]
theorem run_append_at {P : Program} (w : World) (base : Nat) (t ty e : TypeId) (i : TypeInfo) (z : Value) (size bytes : Nat) (ht : P.underlying t = some (.slice e)) (hi : P.info? e = some i) (hz : i.zero = some z)
    (hsize : i.size = size) (hby : i.bytes = bytes) (hzs : z.cells.size = size) (hsz : 0 < size)
    (v : Value) (n : Nat) (xs : List Value) (hown : ownsAt w base e size v n xs)
    (a : Addr) (m c : Nat) (news : List Value) (hl : news.length = m * size) (hnews : ∀ j u, news[j]? = some u → w.cell? (a.add j) = some u) (h1 : ∀ u ∈ news, u.oneCell' = true)
    (h63 : n + m ≤ maxLen) (hbytes : (n + m) * bytes ≤ 140737488355328) (hbase : base ≤ w.heap.size) (hm0 : 0 < m) :
    ∃ v' w', (Builtin.append_ #[t, t] ty #[v, .slice (some a) m c]).run P w = .ok v' w' ∧ ownsAt w' base e size v' (n + m) (xs ++ news) ∧ w.grownBy w' v.ownBlock ∧ (v'.ownBlock = v.ownBlock ∨ ∃ g, v'.ownBlock = some g ∧ w.heap.size ≤ g) := by
  rcases hown.2 with ⟨rfl, rfl⟩ | ⟨g, o, cap, cur, rfl, hbg, hg, hnc, hcm, hcs, htake⟩
  · have hx : xs = [] := List.eq_nil_of_length_eq_zero (by simpa using hown.1)
    subst hx
    obtain ⟨v', w', h2, h3, h4, _, h5⟩ := run_append_own_at (P := P) w base t ty e i z size bytes ht hi hz hsize hby hzs hsz _ 0 [] (World.ownsRow_nil w base e size) a m c news hl hnews h1 h63 hbytes hbase
    exact ⟨v', w', h2, ownsAt_of h3, h4, h5.imp_right fun h => ⟨_, h, Nat.le_refl _⟩⟩
  · subst hsize
    subst hby
    have hlen : (xs ++ news).length = (n + m) * i.size := by rw [List.length_append, hown.1, hl, Nat.add_mul]
    by_cases hroom : n + m ≤ cap
    · have hcs := hcs.resolve_left (by omega)
      have hsrc : Src P i.size t (.slice (some a) m c) m news w := Src.ofSlice w ht a m c news hl hnews h1
      have hfit : o * i.size + n * i.size + news.length ≤ cur.size := by
        rw [hcs, hl, ← Nat.add_mul, ← Nat.add_mul]
        exact Nat.mul_le_mul_right _ (by omega)
      have hr := run_append_room_src (P := P) w t t ty e i ht hi g (o * i.size) n cap (.slice (some a) m c) m news hsrc hroom
        (fun j hj => by rw [cell_of_row w g _ cur e (0, 0) hg, Array.getElem?_eq_getElem (by omega)]; rfl) (fun j hj => by simp [World.frozen?, hg])
      obtain ⟨ys, y1, y2, y3⟩ := setCells_row news (o * i.size + n * i.size) w cur hg
      have hO : Only (fun k => k = g) w (w.setCells g (o * i.size + n * i.size) news) := Only.setCells (S := fun k => k = g) (.inl rfl) _ _ (Only.refl _ _)
      refine ⟨_, _, hr, ⟨hlen, .inr ⟨g, o, cap, ys, rfl, hbg, y1, hroom, hcm, .inr (by rw [y2, hcs]), ?_⟩⟩, ⟨hO.os, hO.tape, hO.output, hO.size, fun k hk hne => hO.block k hk (fun e => hne (by simp [Value.ownBlock, e]))⟩, .inl rfl⟩
      apply List.ext_getElem?
      intro j
      have hxl := hown.1
      have e2 : (n + m) * i.size = n * i.size + m * i.size := Nat.add_mul _ _ _
      by_cases hj : j < (n + m) * i.size
      · rw [List.getElem?_take, if_pos hj, List.getElem?_drop, y3]
        by_cases hjn : j < n * i.size
        · rw [if_neg (by omega), List.getElem?_append_left (by omega), ← htake, List.getElem?_take, if_pos hjn, List.getElem?_drop]
        · rw [if_pos (by omega), List.getElem?_append_right (by omega), hxl, show o * i.size + j - (o * i.size + n * i.size) = j - n * i.size by omega]
      · rw [List.getElem?_eq_none (by simp; omega), List.getElem?_eq_none (by rw [hlen]; omega)]
    · have holds : ∀ j u, xs[j]? = some u → w.cell? ((⟨g, o * i.size, none⟩ : Addr).add j) = some u := fun j u hj => by
        have hlt := (List.getElem?_eq_some_iff.1 hj).1
        rw [hown.1] at hlt
        rw [Addr.add_lit, cell_of_row w g _ cur e (0, 0) hg]
        rw [← htake, List.getElem?_take, if_pos hlt, List.getElem?_drop] at hj
        simpa using hj
      have hr := run_append_grow (P := P) w t ty e i z ht hi hz ⟨g, o * i.size, none⟩ n cap xs hown.1 holds a m c news hl hnews (by omega) (by simp only [maxLen] at h63; omega) (growslice_fits (by omega) hbytes)
      have hge := grownCap_ge w (n + m) cap e
      have hcm2 : grownCap w (n + m) cap e ≤ maxLen := grownCap_le_maxLen w (n + m) cap e h63
      refine ⟨_, _, hr, ⟨hlen, .inr ⟨w.heap.size, 0, _, _, by simp, hbase, heap_alloc_new w.drew _, hge, by simpa using hcm2, .inr ?_, ?_⟩⟩, ⟨rfl, rfl, rfl, by simp, fun k hk _ => heap_alloc_old w.drew _ hk⟩, .inr ⟨w.heap.size, rfl, Nat.le_refl _⟩⟩
      · simp only [Array.size_append, List.size_toArray, size_zeroCells, hzs, hown.1, hl, ← Nat.add_mul]
        congr 1
        omega
      · simp only [Array.toList_append, List.append_assoc, Nat.zero_mul, List.drop_zero]
        rw [← List.append_assoc, ← hlen]
        exact List.take_left
theorem wp_append_at {P : Program} (w : World) {o : Oper} {a : Act} {K : Act → World → Prop} {Q : Exit → Act → World → Prop} (s x : Operand) (t : TypeId)
    (ho : o.op = .call { callee := .builtin .append, args := #[s, x], argTypes := #[t, t] })
    (base : Nat) (e : TypeId) (i : TypeInfo) (z : Value) (size bytes : Nat) (ht : P.underlying t = some (.slice e)) (hi : P.info? e = some i) (hz : i.zero = some z)
    (hsize : i.size = size) (hby : i.bytes = bytes) (hzs : z.cells.size = size) (hsz : 0 < size)
    (v : Value) (n : Nat) (xs : List Value) (hs : a.eval s = v) (hown : ownsAt w base e size v n xs)
    (ad : Addr) (m c : Nat) (news : List Value) (hx : a.eval x = .slice (some ad) m c) (hl : news.length = m * size) (hnews : ∀ j u, news[j]? = some u → w.cell? (ad.add j) = some u) (h1 : ∀ u ∈ news, u.oneCell' = true)
    (h63 : n + m ≤ maxLen) (hbytes : (n + m) * bytes ≤ 140737488355328) (hbase : base ≤ w.heap.size) (hm0 : 0 < m)
    (h : ∀ v' w', ownsAt w' base e size v' (n + m) (xs ++ news) → w.grownBy w' v.ownBlock → (v'.ownBlock = v.ownBlock ∨ ∃ g, v'.ownBlock = some g ∧ w.heap.size ≤ g) → K (a.put o.dst v') w') : o.wp P a w K Q := by
  obtain ⟨v', w', hr, h2, h3, h4⟩ := run_append_at (P := P) w base t o.type e i z size bytes ht hi hz hsize hby hzs hsz v n xs hown ad m c news hl hnews h1 h63 hbytes hbase hm0
  unfold Oper.wp execOp
  simp only [ho, resolve, invoke, builtin, Sem.run_bind, Sem.run_pure, Result.andThen_ok, List.map_toArray, List.map_cons, List.map_nil, hs, hx, hr]
  exact h v' w' h2 h3 h4
end Go.Proofs.Ytgldlkoohfclpaa

namespace Go.Proofs.Ytgldlkoohfclpaa
set_option maxRecDepth 100000
set_option linter.unusedSimpArgs false
set_option linter.unusedVariables false
open Go.RowKit

def rightB (p : Int) : Bool := decide (0 ≤ p) && decide (p ≤ 127)
theorem rightB_iff {p : Int} : rightB p = true ↔ 0 ≤ p ∧ p ≤ 127 := by simp [rightB]
def hasB (p q : Int) : Bool := rightB p && rightB q && (bits .and .i64 p q == q)

end Go.Proofs.Ytgldlkoohfclpaa

namespace Go.Proofs.Ytgldlkoohfclpaa
set_option maxRecDepth 100000
set_option linter.unusedSimpArgs false
set_option linter.unusedVariables false
open Go.RowKit

structure Cap where
  tag : Bool
  base : Int
  top : Int
  at_ : Int
  perms : Int
  type : Int
  deriving DecidableEq
def Cap.v (c : Cap) : Value := .agg #[.bool c.tag, .int .i64 c.base, .int .i64 c.top, .int .i64 c.at_, .int .i64 c.perms, .int .i64 c.type]

def holdsB (f t a : Int) : Bool := decide (f ≤ a) && decide (a ≤ t)
def rightC (c : Cap) : Bool :=
  holdsB 0 4294967295 c.base && holdsB 0 4294967295 c.top && holdsB 0 4294967295 c.at_ && rightB c.perms && decide (0 ≤ c.type) && decide (c.type ≤ 255) && (!c.tag || (decide (c.base ≤ c.top) && decide (c.top ≤ 16777216)))
def sizeC (c : Cap) : Int := if c.top ≤ c.base then 0 else wrap64 (c.top - c.base)
def low32 (n : Int) : Int := bits .and .i64 n 4294967295
theorem low32_zero : low32 0 = 0 := by decide
def offC (c : Cap) : Int := low32 (wrap64 (c.at_ - c.base))
def inC (c : Cap) (at_ n : Int) : Bool := decide (0 ≤ at_) && decide (0 ≤ n) && decide (c.base ≤ at_) && decide (at_ ≤ c.top) && decide (n ≤ wrap64 (c.top - at_))
def rootC (n : Int) : Cap := if n < 1 ∨ n > 16777216 then ⟨false, 0, 0, 0, 0, 0⟩ else ⟨true, 0, n, 0, 127, 0⟩
def extUnder (b1 t1 p1 b2 t2 p2 : Int) : Bool := holdsB b2 t2 b1 && holdsB b2 t2 t1 && decide (b1 ≤ t1) && hasB p2 p1
def underC (c d : Cap) : Bool := extUnder c.base c.top c.perms d.base d.top d.perms

end Go.Proofs.Ytgldlkoohfclpaa

namespace Go.Proofs.Ytgldlkoohfclpaa
set_option maxRecDepth 100000
set_option linter.unusedSimpArgs false
set_option linter.unusedVariables false
open Go.RowKit

/-- The k-th bit, as the text asks for it. -/
def bitB (p : Int) (k : Nat) : Bool := (p / 2 ^ k).tmod 2 == 1
def hasR (p q : Int) : Bool := (List.range 7).all (fun i => !(bitB q i && !bitB p i)) && rightB p && rightB q
def modR (n : Int) : Int := if n.tmod 4294967296 < 0 then wrap64 (n.tmod 4294967296 + 4294967296) else n.tmod 4294967296
def offR (c : Cap) : Int := modR (wrap64 (modR c.at_ - modR c.base))
def inR (c : Cap) (at_ n : Int) : Bool := decide (0 ≤ at_) && decide (0 ≤ n) && decide (c.base ≤ at_) && decide (at_ ≤ c.top) && decide (n ≤ wrap64 (c.top - max at_ 0))
def underR (c d : Cap) : Bool := decide (c.base ≤ c.top) && decide (d.base ≤ c.base) && decide (c.top ≤ d.top) && hasR d.perms c.perms

set_option maxHeartbeats 400000 in
theorem rright (p : Int) (w : World) :
    Calls Try.prog 54 #[.int .i64 p] w fun e w' => e = .returned (.bool (rightB p)) ∧ w = w' := by
  by_cases h : 0 ≤ p
  all_goals
    go_enter Try.func54, Try.ntmps54
    go_wp2
  all_goals go_ret
  all_goals refine ⟨?_, rfl⟩
  all_goals (simp [rightB] <;> omega)

set_option maxHeartbeats 400000 in
theorem raddr (n : Int) (w : World) :
    Calls Try.prog 53 #[.int .i64 n] w fun e w' => e = .returned (.bool (holdsB 0 4294967295 n)) ∧ w = w' := by
  go_enter Try.func53, Try.ntmps53
  go_wp2
  all_goals go_ret
  all_goals refine ⟨?_, rfl⟩
  all_goals (simp_all [holdsB] <;> omega)

set_option maxHeartbeats 2000000 in
theorem rcapRight (t : Bool) (b tp a p ty : Int) (w : World) :
    Calls Try.prog 27 #[.agg #[.bool t, .int .i64 b, .int .i64 tp, .int .i64 a, .int .i64 p, .int .i64 ty]] w fun e w' => e = .returned (.bool (rightC ⟨t, b, tp, a, p, ty⟩)) ∧ Ext w w' := by
  go_enter Try.func27, Try.ntmps27
  go_wp2_with (first | (go_at_call 53; refine (raddr _ _).mono ?_; rintro e w1 ⟨rfl, rfl⟩) | (go_at_call 54; refine (rright _ _).mono ?_; rintro e w1 ⟨rfl, rfl⟩))
  all_goals go_ret
  all_goals refine ⟨?_, (by repeat (first | (with_reducible exact Ext.refl _) | (with_reducible refine Ext.undrew ?_) | (with_reducible refine Ext.grow ?_ _) | (with_reducible refine Ext.drew ?_) | (with_reducible refine Ext.drewN ?_ _) | (with_reducible refine Ext.alloc ?_ _) | (with_reducible assumption) | ((with_reducible refine Ext.setCell ?_ ?_ _); rotate_left; (first | exact Nat.le_refl _ | (dsimp only; simp only [World.size_alloc, grow_size, World.size_setCell]; omega)))))⟩
  all_goals (go_tidy; simp_all [rightC] <;> (intros; exfalso; omega))

set_option maxHeartbeats 400000 in
theorem rcapIn (t : Bool) (b tp a p ty : Int) (x n : Int) (w : World) :
    Calls Try.prog 28 #[.agg #[.bool t, .int .i64 b, .int .i64 tp, .int .i64 a, .int .i64 p, .int .i64 ty], .int .i64 x, .int .i64 n] w fun e w' => e = .returned (.bool (inR ⟨t, b, tp, a, p, ty⟩ x n)) ∧ Ext w w' := by
  go_enter Try.func28, Try.ntmps28
  go_wp2
  all_goals go_ret
  all_goals refine ⟨?_, (by repeat (first | (with_reducible exact Ext.refl _) | (with_reducible refine Ext.undrew ?_) | (with_reducible refine Ext.grow ?_ _) | (with_reducible refine Ext.drew ?_) | (with_reducible refine Ext.drewN ?_ _) | (with_reducible refine Ext.alloc ?_ _) | (with_reducible assumption) | ((with_reducible refine Ext.setCell ?_ ?_ _); rotate_left; (first | exact Nat.le_refl _ | (dsimp only; simp only [World.size_alloc, grow_size, World.size_setCell]; omega)))))⟩
  all_goals (go_tidy; simp_all [inR] <;> (first | (intros; exfalso; omega) | (have hq : x = 0 := by omega; subst hq; simp; done) | (rw [Int.max_eq_left (by omega)]; done) | (rw [Int.max_eq_left (by omega)]; simp_all; done) | skip))

end Go.Proofs.Ytgldlkoohfclpaa

namespace Go.Proofs.Ytgldlkoohfclpaa
set_option maxRecDepth 100000
set_option linter.unusedSimpArgs false
set_option linter.unusedVariables false
open Go.RowKit


def b8 (n : Int) : Int := n % 256
/-- Bytes, as they lie in memory. -/
def bvals (l : List Int) : List Value := l.map (Value.int .u8)
theorem bvals_length (l : List Int) : (bvals l).length = l.length := by simp [bvals]
theorem bvals_append (l m : List Int) : bvals (l ++ m) = bvals l ++ bvals m := by simp [bvals]
theorem bvals_one (l : List Int) : ∀ v ∈ bvals l, v.oneCell' = true := by
  intro v hv
  obtain ⟨z, _, rfl⟩ := List.mem_map.1 hv
  rfl
theorem info_u8 : (Try.prog.info? 5).map (fun i => (i.zero, i.size, i.bytes)) = some (some (.int .u8 0), 1, 1) := by kernel_rfl
/-- A slice of bytes, to be read. -/
def RdB (w : World) (A : Option Addr) (l : List Int) : Prop := 0 < l.length → ∃ b o, A = some ⟨b, o, none⟩ ∧ b < w.heap.size ∧ ∀ j (h : j < l.length), w.cell? ⟨b, o + j, none⟩ = some (.int .u8 l[j])
theorem RdB.ext {w w' : World} {A : Option Addr} {l : List Int} (h : RdB w A l) (x : Ext w w') : RdB w' A l := fun h0 => by
  obtain ⟨b, o, hA, hb, hc⟩ := h h0
  exact ⟨b, o, hA, Nat.lt_of_lt_of_le hb x.size, fun j hj => by rw [x.cells b _ hb]; exact hc j hj⟩
/-- Bytes of the call's own. -/
def OwnB (w : World) (base : Nat) (v : Value) (l : List Int) : Prop := w.ownsRow base 5 1 v l.length (bvals l)
theorem OwnB.nil (w : World) (base : Nat) : OwnB w base (.slice none 0 0) [] := ⟨by simp [bvals], .inl ⟨rfl, rfl⟩⟩
theorem OwnB.rd {w : World} {base : Nat} {v : Value} {l : List Int} (h : OwnB w base v l) : ∃ A ca, v = .slice A l.length ca ∧ RdB w A l ∧ l.length ≤ ca := by
  rcases h.2 with ⟨rfl, h0⟩ | ⟨g, cap, cur, rfl, hb, hg, hn, _, hs, ht⟩
  · exact ⟨none, 0, by rw [h0], fun h1 => absurd h1 (by omega), by omega⟩
  · refine ⟨some ⟨g, 0, none⟩, cap, rfl, fun _ => ⟨g, 0, rfl, (Array.getElem?_eq_some_iff.1 hg).1, fun j hj => ?_⟩, hn⟩
    rw [cell_of_row w g _ cur 5 (0, 0) hg]
    have h1 : (cur.toList.take (l.length * 1))[j]? = (bvals l)[j]? := by rw [ht]
    rw [List.getElem?_take, if_pos (by omega)] at h1
    rw [Nat.zero_add]
    have h2 : (bvals l)[j]? = some (.int .u8 l[j]) := by simp [bvals, hj]
    rw [h2] at h1
    simpa using h1
theorem OwnB.rd2 {w : World} {base : Nat} {v : Value} {l : List Int} (h : OwnB w base v l) (h0 : 0 < l.length) : ∃ q ca, v = .slice (some ⟨q, 0, none⟩) l.length ca ∧ l.length ≤ ca ∧ ca ≤ maxLen ∧ base ≤ q ∧ RdB w (some ⟨q, 0, none⟩) l := by
  obtain ⟨A, ca, hv, hr, hl⟩ := h.rd
  rcases h.2 with ⟨hn, h1⟩ | ⟨g, cap, cur, hg, hb, _, _, hm, _, _⟩
  · omega
  · rw [hg] at hv
    injection hv with e1 e2 e3
    subst e1 e3
    exact ⟨g, cap, hg, hl, hm, hb, hr⟩
theorem RdB.range {w : World} {b o : Nat} {l : List Int} (h : RdB w (some ⟨b, o, none⟩) l) : w.rangeAt b o (bvals l) := fun j v hj => by
  have hlt : j < l.length := by simpa [bvals] using (List.getElem?_eq_some_iff.1 hj).1
  obtain ⟨b', o', hA, _, hc⟩ := h (by omega)
  cases hA
  rw [hc j hlt]
  simpa [bvals, hlt] using hj
theorem RdB.lt {w : World} {b o : Nat} {l : List Int} (h : RdB w (some ⟨b, o, none⟩) l) (h0 : 0 < l.length) : b < w.heap.size := by
  obtain ⟨b', o', hA, hb, _⟩ := h h0
  cases hA
  exact hb
theorem quiet_load {P : Program} {o : Oper} {a : Act} {w : World} {K : Act → Prop} (ty : TypeId) (x : Operand) (ho : o.op = .load ty x) (b off : Nat) (hx : a.eval x = .pointer (some ⟨b, off, none⟩)) (cs : List Value) (d : TypeDesc)
    (hc : w.rangeAt b off cs) (hb : b < w.heap.size) (hu : P.underlying ty = some d) (hd : d.isRow = true) (hi : (P.info? ty).map (·.size) = some cs.length) (k : K (a.put o.dst (.agg cs.toArray))) : o.quiet P a (Grown w) K := by
  refine ⟨_, fun w' hw' => ?_, k⟩
  have hc' : w'.rangeAt b off cs := fun j v hj => by rw [hw'.ext.cells b _ hb]; exact hc j v hj
  unfold Oper.quietAt execOp
  rw [ho]
  simp only [hx, run_loadAt_mid w' b off ty cs d hc' hu hd hi, Sem.run_bind, Sem.run_map, Sem.run_pure, Result.andThen, Oper.quietUpon, and_self]
theorem OwnB.rebase {w : World} {base base' : Nat} {v : Value} {l : List Int} (h : OwnB w base v l) (hb : base' ≤ base) : OwnB w base' v l := by
  refine ⟨h.1, ?_⟩
  rcases h.2 with h0 | ⟨g, cap, cur, hv, hg, r⟩
  · exact .inl h0
  · exact .inr ⟨g, cap, cur, hv, Nat.le_trans hb hg, r⟩
def strOf (ns : List Int) : ByteArray := ns.foldl (fun r n => r.push (UInt8.ofNat n.toNat)) ByteArray.empty
theorem run_str {P : Program} (w : World) (src dst e : TypeId) (hs : P.underlying src = some (.slice e)) (he : P.underlying e = some (.int .u8)) (hd : P.underlying dst = some .string) (b o c : Nat) (ns : List Int)
    (h : ∀ j (hj : j < ns.length), w.cell? ⟨b, o + j, none⟩ = some (.int .u8 ns[j])) : (convert src dst (.slice (some ⟨b, o, none⟩) ns.length c)).run P w = .ok (.string (strOf ns)) w := by
  rw [run_convert_bytes_string w src dst e _ _ _ hs he hd]
  refine run_bytesToString w ⟨b, o, none⟩ ns.length c ns ?_
  have := run_loadCells_list (P := P) (w := w) ⟨b, o, none⟩ (ns.map (Value.int .u8)) (fun j v hv => by
    rw [Addr.add_lit]
    rw [List.getElem?_map] at hv
    by_cases hj : j < ns.length
    · rw [List.getElem?_eq_getElem hj] at hv
      rw [h j hj]
      exact hv
    · simp [hj] at hv)
  simpa using this

theorem strOf_list (l : List Int) : (strOf l).data.toList = l.map fun n => UInt8.ofNat n.toNat := by
  have h : ∀ (l : List Int) (r : ByteArray), (l.foldl (fun r n => r.push (UInt8.ofNat n.toNat)) r).data.toList = r.data.toList ++ l.map fun n => UInt8.ofNat n.toNat := by
    intro l
    induction l with
    | nil => intro r; simp
    | cons n l ih => intro r; rw [List.foldl_cons, ih]; simp [ByteArray.push]
  simpa [strOf] using h l ByteArray.empty
def byteL (l : List Int) : Prop := ∀ n ∈ l, 0 ≤ n ∧ n ≤ 255
theorem strOf_inj {l m : List Int} (hl : byteL l) (hm : byteL m) (h : strOf l = strOf m) : l = m := by
  have e : (l.map fun n => UInt8.ofNat n.toNat) = m.map fun n => UInt8.ofNat n.toNat := by rw [← strOf_list, ← strOf_list, h]
  clear h
  induction l generalizing m with
  | nil => cases m with
    | nil => rfl
    | cons y m => simp at e
  | cons x l ih => cases m with
    | nil => simp at e
    | cons y m =>
      simp only [List.map_cons, List.cons.injEq] at e
      have hx := hl x (by simp)
      have hy := hm y (by simp)
      have e1 := congrArg UInt8.toNat e.1
      simp only [UInt8.toNat_ofNat'] at e1
      rw [ih (fun n hn => hl n (by simp [hn])) (fun n hn => hm n (by simp [hn])) e.2]
      rw [show x = y by omega]
theorem strOf_eq {l m : List Int} (hl : byteL l) (hm : byteL m) : (strOf l = strOf m) = (l = m) := propext ⟨strOf_inj hl hm, fun h => by rw [h]⟩
theorem run_str_any {P : Program} (w : World) (src dst e : TypeId) (hs : P.underlying src = some (.slice e)) (he : P.underlying e = some (.int .u8)) (hd : P.underlying dst = some .string) (A : Option Addr) (c : Nat) (ns : List Int)
    (h : RdB w A ns) (h0 : ns = [] → A = none) : (convert src dst (.slice A ns.length c)).run P w = .ok (.string (strOf ns)) w := by
  by_cases hn : 0 < ns.length
  · obtain ⟨b, o, rfl, _, hc⟩ := h hn
    exact run_str w src dst e hs he hd b o c ns hc
  · have e0 : ns = [] := by cases ns with
      | nil => rfl
      | cons x l => simp at hn
    rw [h0 e0, e0]
    exact run_convert_bytes_nil (w := w) src e hs he _ c dst hd
/-- A text of bytes, in a region that draws. -/
theorem quiet_str {P : Program} {o : Oper} {a : Act} {w : World} {K : Act → Prop} (src dst e : TypeId) (x : Operand) (ho : o.op = .convert src dst x) (hs : P.underlying src = some (.slice e)) (he : P.underlying e = some (.int .u8))
    (hd : P.underlying dst = some .string) (A : Option Addr) (c n : Nat) (l : List Int) (hx : a.eval x = .slice A n c) (hn : n = l.length) (hr : RdB w A l) (h0 : l = [] → A = none) (k : K (a.put o.dst (.string (strOf l)))) : o.quiet P a (Grown w) K := by
  subst hn
  refine ⟨_, fun w' hw' => ?_, k⟩
  have h1 := run_str_any (P := P) w' src dst e hs he hd A c l (hr.ext hw'.ext) h0
  unfold Oper.quietAt execOp
  rw [ho]
  simp [hx, h1, Sem.run_bind, Sem.run_pure, Result.andThen, Oper.quietUpon]
end Go.Proofs.Ytgldlkoohfclpaa

namespace Go.Proofs.Ytgldlkoohfclpaa
set_option maxRecDepth 100000
set_option linter.unusedSimpArgs false
set_option linter.unusedVariables false
open Go.ChangeShapes Go.WideShapes Go.ChangeAt Go.RowKit Go.Deep

theorem lawOwn : ownKnob Try.prog.godebug = none := by kernel_rfl
theorem lawLaid : laidOutB Try.prog = true := by kernel_rfl

section
variable {H : Type} {enc : TypeId × Value → H} {P : Program}

/-- What the statement asks behind the call, of a law that answered true and turned nothing that was there. -/
theorem lawPost {f : Func} {s : ChangeSpec} {W W' : World} {args : Array Value} {ds : List (DataW H)} {before : List MemPlace} {tb : TypeId}
    (hv : s.vars = []) (hW : DataW.Whole enc P f.params.toList s.vars false W args.toList ds [] before)
    (hr : (s.fn H (ds ++ [])).results = [.lit (.bool true)]) (ha : (s.fn H (ds ++ [])).args = ds) (hvs : (s.fn H (ds ++ [])).vars = [])
    (ht : f.resultTypes = #[tb]) (hb : P.underlying tb = some .bool)
    (hargs : DataW.TrodAll enc P W' 0 (fun b => decide (b < W.heap.size)) true f.params.toList args.toList ds before) (he : Ext W W') :
    s.post enc P f false true false false W args (.bool true) W' := by
  refine ⟨ds, [], before, [], before, [], hW, ?_, by rw [ha]; exact hargs, ?_, Below.frame he _, fun h => by cases h⟩
  · rw [hr, ht]
    exact trodAll_mk1 (shut_bool hb true)
  · rw [hvs, hv]
    rfl

/-- An argument reads behind the call as it did. -/
theorem lawKept (hl : laidOutB P = true) {t : TypeId} (hr : P.readableRec t = true) (hrow : t < P.types.size) {W W' : World} {v : Value} {d : DataW H} {p before : List MemPlace}
    (hW : ∀ x ∈ before, x.block < W.heap.size) (hp : ∀ x ∈ p, x ∈ before) (h : DataW.Trod enc P W 0 (fun _ => true) true t v d p) (he : Ext W W') :
    DataW.Trod enc P W' 0 (fun b => decide (b < W.heap.size)) true t v d p :=
  Below.trod hl hr hrow h he (fun x hx => hW x (hp x hx))

variable {w : World} {base : Nat} {spare : Nat → Bool} {held : Bool}

/-- A capability that came in by value. -/
theorem openCap {r : Reach} {b0 : Nat} {T : TypeId} {f0 f1 f2 f3 f4 f5 : Field} {v : Value} {d : DataW H} {p : List MemPlace} (hs : P.underlying T = some (.struct #[f0, f1, f2, f3, f4, f5]))
    (hone : oneCellFields P #[f0, f1, f2, f3, f4, f5] = true) (hC : P.cellsOf T = 6)
    (k0 : P.underlying f0.type = some .bool) (k1 : P.underlying f1.type = some (.int .i64)) (k2 : P.underlying f2.type = some (.int .i64)) (k3 : P.underlying f3.type = some (.int .i64))
    (k4 : P.underlying f4.type = some (.int .i64)) (k5 : P.underlying f5.type = some (.int .i64))
    (hv : Value.okWide P w r b0 T v) (h : DataW.Trod enc P w base spare held T v d p) :
    ∃ (t : Bool) (b tp a pm ty : Int), v = .agg #[.bool t, .int .i64 b, .int .i64 tp, .int .i64 a, .int .i64 pm, .int .i64 ty] ∧
      (Lit.int .i64 b).wf = true ∧ (Lit.int .i64 tp).wf = true ∧ (Lit.int .i64 a).wf = true ∧ (Lit.int .i64 pm).wf = true ∧ (Lit.int .i64 ty).wf = true := by
  obtain ⟨cs, rfl, hsz⟩ := okWide_struct hs hv
  obtain ⟨l⟩ := cs
  match l, hsz.trans hC with
  | [c0, c1, c2, c3, c4, c5], _ =>
    obtain ⟨fuel, hf⟩ := h
    obtain ⟨xs, n, _, hx, _, hlen, hg⟩ := DataW.trod_struct hs hf
    have fld : ∀ (i : Nat) (f : Field), #[f0, f1, f2, f3, f4, f5][i]? = some f → ∃ y, DataW.trod enc P w base spare held n f.type (([c0, c1, c2, c3, c4, c5].drop i).take 1) = some y := by
      intro i f hi
      obtain ⟨o, k⟩ := hone_of hone i f hi
      have := hg i f hi
      rw [o, k] at this
      have hlt : i < xs.length := by
        rw [hlen]
        exact (Array.getElem?_eq_some_iff.1 hi).1
      exact ⟨xs[i], by rw [List.getElem?_eq_getElem hlt] at this; exact this⟩
    obtain ⟨y0, g0⟩ := fld 0 f0 rfl
    obtain ⟨y1, g1⟩ := fld 1 f1 rfl
    obtain ⟨y2, g2⟩ := fld 2 f2 rfl
    obtain ⟨y3, g3⟩ := fld 3 f3 rfl
    obtain ⟨y4, g4⟩ := fld 4 f4 rfl
    obtain ⟨y5, g5⟩ := fld 5 f5 rfl
    obtain ⟨t, e0, _⟩ := DataW.trod_bool k0 g0
    obtain ⟨b, e1, _, w1⟩ := DataW.trod_int k1 g1
    obtain ⟨tp, e2, _, w2⟩ := DataW.trod_int k2 g2
    obtain ⟨a, e3, _, w3⟩ := DataW.trod_int k3 g3
    obtain ⟨pm, e4, _, w4⟩ := DataW.trod_int k4 g4
    obtain ⟨ty, e5, _, w5⟩ := DataW.trod_int k5 g5
    simp at e0 e1 e2 e3 e4 e5
    subst e0 e1 e2 e3 e4 e5
    exact ⟨t, b, tp, a, pm, ty, rfl, w1, w2, w3, w4, w5⟩

/-- A slice of numbers that came in: its cells. -/
theorem openInts {r : Reach} {b0 : Nat} {t e : TypeId} {k : IntKind} {v : Value} {d : DataW H} {p : List MemPlace} (ht : P.underlying t = some (.slice e)) (hk : P.underlying e = some (.int k)) (hc : P.cellsOf e = 1)
    (hv : Value.okWide P w r b0 t v) (h : DataW.Trod enc P w base spare held t v d p) :
    ∃ (A : Option Addr) (cap : Nat) (zs : List Int), v = .slice A zs.length cap ∧ zs.length ≤ maxLen ∧ SlAt w A (zs.map (Value.int k)) ∧ ∀ z ∈ zs, (Lit.int k z).wf = true := by
  obtain ⟨a0, len, cap, rfl⟩ := okWide_slice ht hv
  obtain ⟨fuel, hf⟩ := h
  rcases open_ints ht hk hc hf with ⟨hcs, hx⟩ | ⟨a, len', cap', zs, hcs, _, hl, hm, hz, hx, hcell, hwz⟩
  · simp [Value.cells] at hcs
    obtain ⟨rfl, rfl, rfl⟩ := hcs
    exact ⟨none, 0, [], rfl, by simp, fun h => absurd h (by simp), by simp⟩
  · simp [Value.cells] at hcs
    obtain ⟨rfl, rfl, rfl⟩ := hcs
    have hlz : len ≤ zs.length := by
      rw [hz]; split
      · exact hl
      · exact Nat.le_refl _
    have hlen : (zs.take len).length = len := by simp [hlz]
    refine ⟨some a, cap, zs.take len, by rw [hlen], by rw [hlen]; exact Nat.le_trans hl hm, ?_, fun z hz => hwz z (List.mem_of_mem_take hz)⟩
    intro h0
    have hlen0 : 0 < len := by rw [List.length_map, hlen] at h0; exact h0
    have hc0 := hcell 0 (by omega)
    obtain ⟨b, o, sp⟩ := a
    have hsp : sp = none := by
      cases sp with
      | none => rfl
      | some x => 
        simp [Addr.add, World.cell?] at hc0
        split at hc0 <;> simp at hc0
    subst hsp
    have hb : b < w.heap.size := by
      simp [Addr.add, World.cell?] at hc0
      split at hc0
      · rename_i h
        exact (Array.getElem?_eq_some_iff.1 h).1
      · simp at hc0
    refine ⟨b, o, rfl, hb, fun j hj => ?_⟩
    have hj' : j < len := by rw [List.length_map, hlen] at hj; exact hj
    have hcj := hcell j (by omega)
    rw [Addr.add_lit] at hcj
    rw [hcj]
    simp [List.getD, show j < zs.length by omega]
end
end Go.Proofs.Ytgldlkoohfclpaa

namespace Go.Proofs.Ytgldlkoohfclpaa
set_option maxRecDepth 100000
set_option linter.unusedSimpArgs false
set_option linter.unusedVariables false
open Go.ChangeShapes Go.WideShapes Go.ChangeAt Go.RowKit Go.Deep

/-- The cells of a slice whose elements are n cells each. -/
def SlAtN (w : World) (A : Option Addr) (n : Nat) (xs : List (List Value)) : Prop :=
  0 < xs.length → ∃ b o, A = some ⟨b, o, none⟩ ∧ b < w.heap.size ∧ ∀ i (h : i < xs.length), ∀ j, j < n → w.cell? ⟨b, o + i * n + j, none⟩ = (xs[i])[j]?
theorem SlAtN.ext {w w' : World} {A : Option Addr} {n : Nat} {xs : List (List Value)} (h : SlAtN w A n xs) (e : Ext w w') : SlAtN w' A n xs := fun h0 => by
  obtain ⟨b, o, hA, hb, hc⟩ := h h0
  exact ⟨b, o, hA, Nat.lt_of_lt_of_le hb e.size, fun i hi j hj => by rw [e.cells b _ hb]; exact hc i hi j hj⟩

section
variable {H : Type} {enc : TypeId × Value → H} {P : Program} {w : World} {base : Nat} {spare : Nat → Bool} {held : Bool}

/-- A slice that came in, whose elements are opened by a rule. -/
theorem openRows {α : Type} [Inhabited α] {r : Reach} {b0 : Nat} {t e : TypeId} {n : Nat} (f : α → List Value) (good : α → Prop) (ht : P.underlying t = some (.slice e)) (hc : P.cellsOf e = n) (hn : 0 < n)
    (hx : ∀ (m : Nat) (cs : List Value) (x : DataW H × List MemPlace), DataW.trod enc P w base spare held m e cs = some x → ∃ z, cs = f z ∧ good z) {v : Value} {d : DataW H} {p : List MemPlace}
    (hv : Value.okWide P w r b0 t v) (h : DataW.Trod enc P w base spare held t v d p) :
    ∃ (A : Option Addr) (cap : Nat) (zs : List α), v = .slice A zs.length cap ∧ zs.length ≤ maxLen ∧ SlAtN w A n (zs.map f) ∧ ∀ z ∈ zs, good z := by
  obtain ⟨a0, len, cap, rfl⟩ := okWide_slice ht hv
  obtain ⟨fuel, hf⟩ := h
  rcases open_slice ht hf with ⟨hcs, _⟩ | ⟨a, len', cap', m, n', D, Pl, hcs, _, hl, hm, hmm, _, hg⟩
  · simp [Value.cells] at hcs
    obtain ⟨rfl, rfl, rfl⟩ := hcs
    exact ⟨none, 0, [], rfl, by simp, fun h => absurd h (by simp), by simp⟩
  · simp [Value.cells] at hcs
    obtain ⟨rfl, rfl, rfl⟩ := hcs
    have hlm : len ≤ m := by rw [hmm]; split <;> omega
    rw [hc] at hg
    obtain ⟨V, hV⟩ := choose_lt (n := len) (α := α) (p := fun i z => good z ∧ (f z).length = n ∧ ∀ j, j < n → w.cell? ((a.add (i * n)).add j) = (f z)[j]?) (fun i hi => by
      obtain ⟨cs', h1, h2⟩ := hg i (by omega)
      obtain ⟨_, hlen, hcell⟩ := World.cells?_some h1
      obtain ⟨z, rfl, hz⟩ := hx _ _ _ h2
      exact ⟨z, hz, hlen, hcell⟩)
    refine ⟨some a, cap, (List.range len).map V, by simp, by simpa using Nat.le_trans hl hm, ?_, ?_⟩
    · intro h0
      have hlen0 : 0 < len := by simpa using h0
      obtain ⟨_, hl0, hc0⟩ := hV 0 hlen0
      have hc00 := hc0 0 hn
      obtain ⟨b, o, sp⟩ := a
      have hsome : ((f (V 0))[0]?).isSome = true := by simp [hl0, hn]
      rw [← hc00] at hsome
      have hsp : sp = none := by
        cases sp with
        | none => rfl
        | some x =>
          simp [Addr.add, World.cell?] at hsome
          split at hsome <;> simp at hsome
      subst hsp
      have hb : b < w.heap.size := by
        simp [Addr.add, World.cell?] at hsome
        split at hsome
        · rename_i h
          exact (Array.getElem?_eq_some_iff.1 h).1
        · simp at hsome
      refine ⟨b, o, rfl, hb, fun i hi j hj => ?_⟩
      have hi' : i < len := by simpa using hi
      have := (hV i hi').2.2 j hj
      rw [Addr.add_lit, Addr.add_lit] at this
      rw [this]
      simp
    · intro z hz
      obtain ⟨i, hi, rfl⟩ := List.mem_map.1 hz
      exact (hV i (by simpa using hi)).1

theorem SlAt.of1 {α : Type} {A : Option Addr} {zs : List α} {f : α → Value} (h : SlAtN w A 1 (zs.map fun z => [f z])) : SlAt w A (zs.map f) := fun h0 => by
  obtain ⟨b, o, hA, hb, hc⟩ := h (by simpa using h0)
  refine ⟨b, o, hA, hb, fun j hj => ?_⟩
  have := hc j (by simpa using hj) 0 (by omega)
  simpa using this

theorem openBools {r : Reach} {b0 : Nat} {t e : TypeId} {v : Value} {d : DataW H} {p : List MemPlace} (ht : P.underlying t = some (.slice e)) (hk : P.underlying e = some .bool) (hc : P.cellsOf e = 1)
    (hv : Value.okWide P w r b0 t v) (h : DataW.Trod enc P w base spare held t v d p) :
    ∃ (A : Option Addr) (cap : Nat) (zs : List Bool), v = .slice A zs.length cap ∧ zs.length ≤ maxLen ∧ SlAt w A (zs.map Value.bool) := by
  obtain ⟨A, cap, zs, h1, h2, h3, _⟩ := openRows (α := Bool) (fun z => [.bool z]) (fun _ => True) ht hc (by omega) (fun m cs x hx => by
    obtain ⟨b, hb, _⟩ := DataW.trod_bool hk hx
    exact ⟨b, hb, trivial⟩) hv h
  exact ⟨A, cap, zs, h1, h2, SlAt.of1 h3⟩
end
end Go.Proofs.Ytgldlkoohfclpaa
