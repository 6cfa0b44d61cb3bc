/- The ground of all texts: what a call that turns nothing adds to the world, and how such a world is read. -/
import Derived.WalkKit
import Derived.WalkSpells
import Derived.WalkLawsBesides
import Derived.ProofKit
import Derived.OpenShut
import Derived.Deep.QuietTactic
import Derived.BigQuiet
import Derived.Deep.RegionHeld3
import Derived.Deep.Cut
namespace Go.Proofs.Ytgpeabbbeidhpaa
set_option linter.unusedSimpArgs false
set_option linter.unusedVariables false
open Go.RowKit

theorem hid {p : Prop} (h : p) : Hid p := h

/-- Nothing that was there has turned; there may be new blocks. -/
def Ext (w w' : World) : Prop := Below w.heap.size w w'

theorem Ext.refl (w : World) : Ext w w := Below.refl _ _
theorem Ext.trans {a b c : World} (h : Ext a b) (k : Ext b c) : Ext a c := Below.trans h (Below.mono k h.size)
theorem Ext.drew {a w : World} (h : Ext a w) : Ext a w.drew := Below.drew h
theorem Ext.undrew {a w : World} (h : Ext a w) : Ext a.drew w := ⟨h.os, h.tape, h.output, h.size, h.block⟩
theorem Ext.drewN {a w : World} (h : Ext a w) (n : Nat) : Ext a (w.drewN n) := ⟨h.os, h.tape, h.output, h.size, h.block⟩
theorem Ext.alloc {a w : World} (h : Ext a w) (o : Obj) : Ext a (w.alloc o) := Below.alloc h h.size o
theorem Ext.size {a w : World} (h : Ext a w) : a.heap.size ≤ w.heap.size := Below.size h
theorem Ext.setCell {a w : World} (h : Ext a w) {p : Addr} (hp : a.heap.size ≤ p.block) (u : Value) : Ext a (w.setCell p u) := Below.setCell h hp u
theorem Ext.cells {a w : World} (h : Ext a w) : ∀ b o, b < a.heap.size → w.cell? ⟨b, o, none⟩ = a.cell? ⟨b, o, none⟩ :=
  fun _ _ hb => Below.cell (p := ⟨_, _, none⟩) h hb
theorem Ext.frozens {a w : World} (h : Ext a w) : ∀ b o, b < a.heap.size → w.frozen? ⟨b, o, none⟩ = a.frozen? ⟨b, o, none⟩ :=
  fun _ _ hb => Below.frozen (p := ⟨_, _, none⟩) h hb

/-- What a call adds to the world: new blocks, and draws. -/
structure Delta where
  objs : Array Obj
  drawn : Nat

instance : Nonempty Delta := ⟨⟨#[], 0⟩⟩
/-- How many blocks these are. -/
def Delta.n (d : Delta) : Nat := d.objs.size
/-- It is among the last ones. -/
def far (a b c : Nat) : Prop := b ≤ a ∧ a < b + c
theorem far_add (a b : Nat) (d : Delta) : (a < b + d.n) = (a < b ∨ far a b d.n) := by unfold far; apply propext; omega
theorem far_add_add (a b k : Nat) (d : Delta) : (a < b + d.n + k) = (a < b + d.n ∨ far a (b + d.n) k) := by unfold far; apply propext; omega
theorem far_le (a b : Nat) (d : Delta) : (a ≤ b + d.n) = (a ≤ b ∨ far a (b + 1) d.n) := by unfold far; apply propext; omega
theorem far_le_add (a b k : Nat) (d : Delta) : (a ≤ b + d.n + k) = (a ≤ b + d.n ∨ far a (b + d.n + 1) k) := by unfold far; apply propext; omega
theorem ltS2 (n : Nat) : n < n + 1 + 1 := by omega
theorem ltA2 {a b : Nat} (h : a < b) : a < b + 1 + 1 := by omega
theorem ltS3 (n : Nat) : n < n + 1 + 1 + 1 := by omega
theorem ltA3 {a b : Nat} (h : a < b) : a < b + 1 + 1 + 1 := by omega
theorem ltS4 (n : Nat) : n < n + 1 + 1 + 1 + 1 := by omega
theorem ltA4 {a b : Nat} (h : a < b) : a < b + 1 + 1 + 1 + 1 := by omega
theorem ltS5 (n : Nat) : n < n + 1 + 1 + 1 + 1 + 1 := by omega
theorem ltA5 {a b : Nat} (h : a < b) : a < b + 1 + 1 + 1 + 1 + 1 := by omega
theorem ltS6 (n : Nat) : n < n + 1 + 1 + 1 + 1 + 1 + 1 := by omega
theorem ltA6 {a b : Nat} (h : a < b) : a < b + 1 + 1 + 1 + 1 + 1 + 1 := by omega
theorem ltS7 (n : Nat) : n < n + 1 + 1 + 1 + 1 + 1 + 1 + 1 := by omega
theorem ltA7 {a b : Nat} (h : a < b) : a < b + 1 + 1 + 1 + 1 + 1 + 1 + 1 := by omega
theorem ltS8 (n : Nat) : n < n + 1 + 1 + 1 + 1 + 1 + 1 + 1 + 1 := by omega
theorem ltA8 {a b : Nat} (h : a < b) : a < b + 1 + 1 + 1 + 1 + 1 + 1 + 1 + 1 := by omega
theorem ltS9 (n : Nat) : n < n + 1 + 1 + 1 + 1 + 1 + 1 + 1 + 1 + 1 := by omega
theorem ltA9 {a b : Nat} (h : a < b) : a < b + 1 + 1 + 1 + 1 + 1 + 1 + 1 + 1 + 1 := by omega
/-- The world behind a call that turned nothing. -/
def grow (w : World) (d : Delta) : World := { w with heap := w.heap ++ d.objs, drawn := d.drawn }

theorem grow_size (w : World) (d : Delta) : (grow w d).heap.size = w.heap.size + d.n := by simp [grow, Delta.n]
theorem grow_heap (w : World) (d : Delta) (k : Nat) : (grow w d).heap[k]? = if k < w.heap.size then w.heap[k]? else d.objs[k - w.heap.size]? := by
  simp only [grow]
  split
  · rename_i h; rw [Array.getElem?_append_left h]
  · rename_i h; rw [Array.getElem?_append_right (by omega)]
theorem grow_old (w : World) (d : Delta) (k : Nat) (h : k < w.heap.size) : (grow w d).heap[k]? = w.heap[k]? := by rw [grow_heap, if_pos h]
theorem grow_cell (w : World) (d : Delta) (b o : Nat) (h : b < w.heap.size) : (grow w d).cell? ⟨b, o, none⟩ = w.cell? ⟨b, o, none⟩ := by
  simp [World.cell?, grow_heap, h]
theorem grow_frozen (w : World) (d : Delta) (b o : Nat) (h : b < w.heap.size) : (grow w d).frozen? ⟨b, o, none⟩ = w.frozen? ⟨b, o, none⟩ := by
  simp [World.frozen?, grow_heap, h]
theorem grow_setCell (w : World) (d : Delta) (b o : Nat) (v : Value) (h : b < w.heap.size) : (grow w d).setCell ⟨b, o, none⟩ v = grow (w.setCell ⟨b, o, none⟩ v) d := by
  simp only [World.setCell, grow, World.mk.injEq, and_true]
  apply Array.ext
  · simp
  · intro i h1 h2
    simp only [Array.getElem_modify, Array.getElem_append, Array.size_modify]
    by_cases hi : i < w.heap.size
    · simp [hi]
    · simp [hi, show ¬ b = i by omega]
theorem grow_drew (w : World) (d : Delta) : (grow w d).drew = grow w ⟨d.objs, d.drawn + 1⟩ := rfl
theorem grow_of_drew (w : World) (d : Delta) : grow w.drew d = grow w d := rfl
theorem grow_grow (w : World) (d d' : Delta) : grow (grow w d) d' = grow w ⟨d.objs ++ d'.objs, d'.drawn⟩ := by
  simp [grow, Array.append_assoc]
theorem lt_add_of {a b c : Nat} (h : a < b) : a < b + c := by omega
theorem Ext.grown {w w' : World} (h : Ext w w') : ∃ d, w' = grow w d := by
  refine ⟨⟨w'.heap.extract w.heap.size w'.heap.size, w'.drawn⟩, ?_⟩
  obtain ⟨heap, tape, drawn, os, output⟩ := w
  obtain ⟨heap', tape', drawn', os', output'⟩ := w'
  obtain ⟨h1, h2, h3, h4, h5⟩ := h
  simp only at h1 h2 h3 h4 h5
  subst h1 h2 h3
  simp only [grow, World.mk.injEq, and_true]
  apply Array.ext
  · simp; omega
  · intro i hi hi'
    have : heap'[i]? = (heap ++ heap'.extract heap.size heap'.size)[i]? := by
      by_cases hlt : i < heap.size
      · rw [h5 i hlt, Array.getElem?_append_left hlt]
      · rw [Array.getElem?_append_right (by omega), Array.getElem?_extract]
        have hi2 : i < heap'.size := hi
        rw [if_pos (by omega)]
        congr 1
        omega
    rw [Array.getElem?_eq_getElem hi, Array.getElem?_eq_getElem hi'] at this
    exact Option.some.inj this
theorem Ext.grow {a w : World} (h : Ext a w) (d : Delta) : Ext a (grow w d) :=
  Ext.trans h ⟨rfl, rfl, rfl, by rw [grow_size]; omega, fun k hk => by rw [grow_heap, if_pos hk]⟩
theorem Ext.ofGrow {w w' : World} (h : ∃ d, w' = Go.Proofs.Ytgpeabbbeidhpaa.grow w d) : Ext w w' := by
  obtain ⟨d, rfl⟩ := h
  exact Ext.grow (Ext.refl w) d
theorem grow_start (w : World) : ∃ d, { w with drawn := w.drawn + 1 } = Go.Proofs.Ytgpeabbbeidhpaa.grow w d := ⟨⟨#[], w.drawn + 1⟩, by simp [Go.Proofs.Ytgpeabbbeidhpaa.grow]⟩

attribute [go_sem] grow_cell grow_frozen grow_setCell grow_size far_add far_add_add far_le far_le_add ltS2 ltA2 ltS3 ltA3 ltS4 ltA4 ltS5 ltA5 ltS6 ltA6 ltS7 ltA7 ltS8 ltA8 ltS9 ltA9

/-- A contract, met in a region whose order is drawn: what it leaves is the region's world, grown. -/
theorem growOf {P : Program} {f : FuncId} {args : Array Value} {w : World} {d : Delta} {v : Value}
    (h : Calls P f args (Go.Proofs.Ytgpeabbbeidhpaa.grow w d) fun e w' => e = .returned v ∧ Ext (Go.Proofs.Ytgpeabbbeidhpaa.grow w d) w') :
    Calls P f args (Go.Proofs.Ytgpeabbbeidhpaa.grow w d) fun e w'' => e = .returned v ∧ ∃ d', w'' = Go.Proofs.Ytgpeabbbeidhpaa.grow w d' :=
  h.mono fun _ _ ⟨he, hx⟩ => ⟨he, by obtain ⟨d', rfl⟩ := hx.grown; exact ⟨_, grow_grow _ _ _⟩⟩
theorem growOfSame {P : Program} {f : FuncId} {args : Array Value} {w : World} {d : Delta} {v : Value}
    (h : Calls P f args (Go.Proofs.Ytgpeabbbeidhpaa.grow w d) fun e w' => e = .returned v ∧ Go.Proofs.Ytgpeabbbeidhpaa.grow w d = w') :
    Calls P f args (Go.Proofs.Ytgpeabbbeidhpaa.grow w d) fun e w'' => e = .returned v ∧ ∃ d', w'' = Go.Proofs.Ytgpeabbbeidhpaa.grow w d' :=
  h.mono fun _ _ ⟨he, hx⟩ => ⟨he, d, hx.symm⟩

/-- A region that draws its order, whose operations read and whose calls turn nothing: one walk, in the order of the text. -/
theorem wp_region_grow {P : Program} {id : Nat} {Q : Exit → Act → World → Prop} {a : Act} {w : World} {l l' : List Oper} (hm : P.follows .mixedOrders = true) (hB : Region.lexB .any l.toArray = true) (hl : l = l')
    (h : wpQuiet P l'.toArray (fun w' => ∃ d, w' = Go.Proofs.Ytgpeabbbeidhpaa.grow w d) (fun a' => ∀ w', (∃ d, w' = Go.Proofs.Ytgpeabbbeidhpaa.grow w d) → Q .normal a' w') l' a) : (Code.region id l.toArray true).wp P Q a w := by
  subst hl
  exact wp_region_quiet (C := fun w' => ∃ d, w' = Go.Proofs.Ytgpeabbbeidhpaa.grow w d) hm hB (grow_start w) (by simpa using h)
/-- The slice's cells, from its address on. -/
def SlAt (w : World) (A : Option Addr) (xs : List Value) : Prop :=
  0 < xs.length → ∃ b o, A = some ⟨b, o, none⟩ ∧ b < w.heap.size ∧ ∀ j (h : j < xs.length), w.cell? ⟨b, o + j, none⟩ = some xs[j]
theorem SlAt.ext {w w' : World} {A : Option Addr} {xs : List Value} (h : SlAt w A xs) (e : Ext w w') : SlAt w' A xs := fun h0 => by
  obtain ⟨b, o, hA, hb, hc⟩ := h h0
  exact ⟨b, o, hA, Nat.lt_of_lt_of_le hb e.size, fun j hj => by rw [e.cells b _ hb]; exact hc j hj⟩
theorem slAtNew (w : World) (vs : List Value) (t : TypeId) : SlAt (w.alloc (.cells vs.toArray t)) (some ⟨w.heap.size, 0, none⟩) vs := fun _ =>
  ⟨_, _, rfl, by simp, fun j hj => by simp [go_sem, hj]⟩
theorem slAtNewAt (w : World) (n : Nat) (hn : n = w.heap.size) (vs : List Value) (t : TypeId) : SlAt (w.alloc (.cells vs.toArray t)) (some ⟨n, 0, none⟩) vs := by
  subst hn
  exact slAtNew w vs t
theorem upto_snoc {k : Nat} {p : Nat → Prop} (h : ∀ j, j < k → p j) (hk : p k) : ∀ j, j < k + 1 → p j := fun j hj =>
  if e : j = k then e ▸ hk else h j (by omega)
theorem all_range_false {n k : Nat} {f : Nat → Bool} (hk : k < n) (h : f k = false) : (List.range n).all f = false := by
  rw [List.all_eq_false]; exact ⟨k, by simpa using hk, by simp [h]⟩
theorem all_range_true {n : Nat} {f : Nat → Bool} (h : ∀ k, k < n → f k = true) : (List.range n).all f = true := by
  rw [List.all_eq_true]; intro k hk; exact h k (by simpa using hk)

/-- A region in the order of the text, whose operations read and whose calls turn nothing. -/
theorem wpList_grow {P : Program} {ops : Array Oper} {Q : Exit → Act → World → Prop} {C : World → Prop} : ∀ (l : List Oper) (a : Act) (w : World), C w →
    wpQuiet P ops C (fun a' => ∀ w', C w' → Q .normal a' w') l a → wpList P ops Q l a w
  | [], a, w, hw, h => h w hw
  | o :: l, a, w, hw, h => by
    unfold wpQuiet at h
    unfold wpList
    split
    · rename_i hc
      rw [if_pos hc] at h
      exact .inl (Oper.wp_of_quiet hw (fun a' w' hw' h' => wpList_grow l a' w' hw' h') h)
    · rename_i hc
      rw [if_neg hc] at h
      exact wpList_grow l _ w hw h
theorem wp_region_plain {P : Program} {id : Nat} {Q : Exit → Act → World → Prop} {a : Act} {w : World} {l l' : List Oper} (hl : l = l')
    (h : wpQuiet P l'.toArray (fun w' => ∃ d, w' = Go.Proofs.Ytgpeabbbeidhpaa.grow w d) (fun a' => ∀ w', (∃ d, w' = Go.Proofs.Ytgpeabbbeidhpaa.grow w d) → Q .normal a' w') l' a) : (Code.region id l.toArray false).wp P Q a w := by
  subst hl
  exact wp_region_lit (wpList_grow l a w ⟨⟨#[], w.drawn⟩, by simp [Go.Proofs.Ytgpeabbbeidhpaa.grow]⟩ h)

/-! ### Guards that are not decided -/
/-- A value that is there if a guard says so. -/
@[irreducible] def guarded (X want : Bool) (v : Value) : Value := if X = want then v else undef
theorem guarded_self (b : Bool) (v : Value) : guarded b b v = v := by unfold guarded; rw [if_pos rfl]
theorem guarded_of {X want : Bool} {v : Value} (h : X = want) : guarded X want v = v := by unfold guarded; rw [if_pos h]
theorem guarded_not {X want : Bool} {v : Value} (h : ¬ X = want) : guarded X want v = undef := by unfold guarded; rw [if_neg h]
attribute [go_sem] guarded_self
section
variable {P : Program} {ops : Array Oper} {C : World → Prop} {Q : Act → Prop} {a : Act} {o : Oper} {rest : List Oper}
theorem wanted_of {j : Nat} {want X : Bool} (hg : o.guard = some (j, want)) (hj : yielded ops a.tmps j = some X) : Region.wanted o (yielded ops a.tmps) = (X == want) := by
  simp only [Region.wanted, hg, hj]
  rfl
/-- An operation whose guard is a Bool that is not known: its value, or none. -/
theorem quiet_guard {j : Nat} {want X : Bool} {v : Value} (hg : o.guard = some (j, want)) (hj : yielded ops a.tmps j = some X)
    (h : X = want → ∀ w, C w → o.quietAt P a C w v) (k : wpQuiet P ops C Q rest (a.put o.dst (guarded X want v))) : wpQuiet P ops C Q (o :: rest) a := by
  unfold wpQuiet
  rw [wanted_of hg hj]
  by_cases e : X = want
  · subst e
    rw [if_pos (by simp)]
    exact ⟨v, h rfl, by simpa [guarded_self] using k⟩
  · rw [if_neg (by simpa using e)]
    simpa [guarded_not e] using k
theorem run_pick {P : Program} {c x y : Operand} {X : Bool} (ho : o.op = .pick c x y) (hc : a.eval c = .bool X) (w : World) : (execOp a.eval o).run P w = .ok (.value (if X then a.eval x else a.eval y)) w := by
  unfold execOp
  rw [ho]
  simp [hc, asBool, pure, Sem.run, bind, Sem.bind]
theorem pick_and_val {X Y : Bool} : (if X then guarded X true (.bool Y) else .bool false) = Value.bool (X && Y) := by cases X <;> simp [guarded_self]
theorem pick_or_val {X Y : Bool} : (if X then .bool true else guarded X false (.bool Y)) = Value.bool (X || Y) := by cases X <;> simp [guarded_self]
theorem quiet_pick_and {c x : Operand} {X Y : Bool} (ho : o.op = .pick c x (.const (.bool false))) (hg : o.guard = none) (hc : a.eval c = .bool X) (hx : a.eval x = guarded X true (.bool Y))
    (k : wpQuiet P ops C Q rest (a.put o.dst (.bool (X && Y)))) : wpQuiet P ops C Q (o :: rest) a := by
  unfold wpQuiet
  rw [if_pos (by simp [Region.wanted, hg])]
  refine ⟨_, fun w _ => ?_, k⟩
  unfold Oper.quietAt
  rw [run_pick ho hc, hx]
  exact ⟨rfl, pick_and_val⟩
theorem quiet_pick_or {c x : Operand} {X Y : Bool} (ho : o.op = .pick c (.const (.bool true)) x) (hg : o.guard = none) (hc : a.eval c = .bool X) (hx : a.eval x = guarded X false (.bool Y))
    (k : wpQuiet P ops C Q rest (a.put o.dst (.bool (X || Y)))) : wpQuiet P ops C Q (o :: rest) a := by
  unfold wpQuiet
  rw [if_pos (by simp [Region.wanted, hg])]
  refine ⟨_, fun w _ => ?_, k⟩
  unfold Oper.quietAt
  rw [run_pick ho hc, hx]
  exact ⟨rfl, pick_or_val⟩
end

/-! ### A region that draws its order, whose calls come one behind the other -/
/-- The worlds that are one, grown. -/
def Grown (w : World) : World → Prop := fun w' => ∃ d, w' = Go.Proofs.Ytgpeabbbeidhpaa.grow w d
attribute [go_sem] Grown
/-- What hands on a value, and enters nothing. -/
def isValueOp : Op → Bool
  | .move _ | .assign _ | .pick .. | .load .. | .build .. | .fieldAddr .. | .field .. | .binOp .. | .unOp .. | .convert .. | .extract .. | .index .. | .indexAddr .. | .slice .. | .makeFunc .. | .lookup .. | .makeInterface .. | .box .. | .alloc .. | .nilCheck _ | .makeSlice .. | .sliceToArrayPointer .. => true
  | .call { callee := .builtin .len, .. } => true
  | _ => false
def onlyV : Sem Next → Prop
  | .pure n => ∃ v, n = .value v
  | .load _ _ k => ∀ v, onlyV (k v)
  | .store _ _ _ k => onlyV k
  | .new _ k => ∀ v, onlyV (k v)
  | .shape _ k => ∀ v, onlyV (k v)
  | .freeze _ _ k => onlyV k
  | .frozen _ k => ∀ v, onlyV (k v)
  | .getObj _ k => ∀ v, onlyV (k v)
  | .setObj _ _ k => onlyV k
  | .choose _ k => ∀ v, onlyV (k v)
  | .sys _ k => ∀ v, onlyV (k v)
  | .program k => ∀ v, onlyV (k v)
  | .mark _ k => onlyV k
  | .halt _ => True
theorem onlyV_run {P : Program} (s : Sem Next) : ∀ {w w' : World} {n : Next}, onlyV s → s.run P w = .ok n w' → ∃ v, n = .value v := by
  induction s with
  | pure a => intro w w' n h hr; simp only [Sem.run] at hr; injection hr with h1 h2; obtain ⟨v, hv⟩ := h; exact ⟨v, by rw [← h1, hv]⟩
  | load m a k ih =>
    intro w w' n h hr
    simp only [Sem.run] at hr
    split at hr
    · exact ih _ (h _) hr
    · split at hr
      · exact ih _ (h _) hr
      · cases hr
  | store m a v k ih =>
    intro w w' n h hr
    cases v <;> simp only [Sem.run] at hr <;> first
      | cases hr
      | (split at hr
         · split at hr
           · cases hr
           · exact ih h hr
         · split at hr
           · exact ih h hr
           · cases hr)
  | new o k ih => intro w w' n h hr; simp only [Sem.run] at hr; exact ih _ (h _) hr
  | shape r k ih => intro w w' n h hr; simp only [Sem.run] at hr; exact ih _ (h _) hr
  | freeze a n k ih => intro w w' n h hr; simp only [Sem.run] at hr; exact ih h hr
  | frozen a k ih => intro w w' n h hr; simp only [Sem.run] at hr; exact ih _ (h _) hr
  | getObj r k ih =>
    intro w w' n h hr
    simp only [Sem.run] at hr
    split at hr
    · cases hr
    · exact ih _ (h _) hr
    · cases hr
  | setObj r o k ih =>
    intro w w' n h hr
    simp only [Sem.run] at hr
    split at hr
    · cases hr
    · exact ih h hr
    · cases hr
  | choose q k ih =>
    intro w w' n h hr
    simp only [Sem.run] at hr
    split at hr <;> exact ih _ (h _) hr
  | sys c k ih => intro w w' n h hr; simp only [Sem.run] at hr; exact ih _ (h _) hr
  | program k ih => intro w w' n h hr; simp only [Sem.run] at hr; exact ih _ (h _) hr
  | mark m k ih => intro w w' n h hr; simp only [Sem.run] at hr; exact ih h hr
  | halt x => intro w w' n h hr; simp only [Sem.run] at hr; cases hr
theorem onlyV_bind {α : Type} (s : Sem α) (f : α → Sem Next) (h : ∀ x, onlyV (f x)) : onlyV (s.bind f) := by
  induction s <;> simp only [Sem.bind, onlyV] <;> first | exact h _ | (intro v; rename_i ih; exact ih v) | assumption | trivial
theorem onlyV_panic (e : RuntimeError) : onlyV (runtimePanic e) := by
  unfold runtimePanic
  refine onlyV_bind _ _ fun p => ?_
  cases e <;> simp only [goPanic] <;> first | trivial | exact onlyV_bind _ _ fun _ => onlyV_bind _ _ fun _ => trivial
theorem execOp_only {o : Oper} {ρ : Operand → Value} (ho : isValueOp o.op = true) : onlyV (execOp ρ o) := by
  obtain ⟨dst, op, type, pos, after, guard⟩ := o
  cases op <;> simp only [isValueOp, Bool.false_eq_true] at ho <;> simp only [execOp]
  case nilCheck x =>
    split
    · exact onlyV_panic _
    · exact onlyV_panic _
    · exact onlyV_panic _
    · split
      · exact onlyV_panic _
      · refine onlyV_bind _ _ fun p => ?_
        refine onlyV_bind _ _ fun q => ?_
        split
        · exact onlyV_bind _ _ fun _ => ⟨_, rfl⟩
        · exact ⟨_, rfl⟩
      · exact ⟨_, rfl⟩
    · exact ⟨_, rfl⟩
  case call c =>
    obtain ⟨callee, args, ts⟩ := c
    cases callee with
    | value f => simp at ho
    | invoke r m => simp at ho
    | builtin b =>
      cases b <;> simp at ho
      exact onlyV_bind (Builtin.len_ ts type (args.map ρ)) (fun x => Sem.pure (Next.value x)) fun _ => ⟨_, rfl⟩
  all_goals first
    | exact ⟨_, rfl⟩
    | exact onlyV_bind _ _ fun _ => ⟨_, rfl⟩
theorem execOp_value {P : Program} {o : Oper} {ρ : Operand → Value} {w w' : World} {n : Next} (ho : isValueOp o.op = true) (h : (execOp ρ o).run P w = .ok n w') : ∃ v, n = .value v := onlyV_run _ (execOp_only ho) h
/-- In which order operations come up: what reads as soon as it may; what acts one behind the other, or one of two. -/
inductive Ord (α : Type) where
  | done
  | rd (i : α) (t : Ord α)
  | ac (i : α) (t : Ord α)
  | br (i : α) (t : Ord α) (j : α) (u : Ord α)
def Ord.map {α β : Type} (f : α → β) : Ord α → Ord β
  | .done => .done
  | .rd i t => .rd (f i) (t.map f)
  | .ac i t => .ac (f i) (t.map f)
  | .br i t j u => .br (f i) (t.map f) (f j) (u.map f)
def Ord.depth {α : Type} : Ord α → Nat
  | .done => 0
  | .rd _ t => t.depth + 1
  | .ac _ t => t.depth + 1
  | .br _ t _ u => max t.depth u.depth + 1
def chainOk (md : Region.Mode) (ops : Array Oper) : Ord Nat → Array Bool → Bool
  | .done, listed => (Region.ready md ops listed).isEmpty
  | .rd i r, listed => (match ops[i]? with | some o => isValueOp o.op | none => false) && Region.free md ops listed i && (Region.ready md ops listed).contains i && chainOk md ops r (listed.setIfInBounds i true)
  | .ac i r, listed => decide (i < ops.size) && (Region.ready md ops listed == [i]) && chainOk md ops r (listed.setIfInBounds i true)
  | .br i r j u, listed => decide (i < ops.size) && decide (j < ops.size) && (Region.ready md ops listed == [i, j]) && chainOk md ops r (listed.setIfInBounds i true) && chainOk md ops u (listed.setIfInBounds j true)
/-- One walk: what reads as soon as it may, what acts one behind the other. -/
def wpChain (P : Program) (ops : Array Oper) (Q : Exit → Act → World → Prop) (W : World) : Ord Oper → Act → World → Prop
  | .done, a, w => Q .normal a w
  | .rd o r, a, w => if Region.wanted o (yielded ops a.tmps) then o.quiet P a (Grown W) (fun a' => wpChain P ops Q W r a' w) else wpChain P ops Q W r (a.put o.dst undef) w
  | .ac o r, a, w => if Region.wanted o (yielded ops a.tmps) then o.wp P a w (fun a' w' => Ext W w' ∧ wpChain P ops Q W r a' w') Q else Ext W w ∧ wpChain P ops Q W r (a.put o.dst undef) w
  | .br o r o' r', a, w =>
    (if Region.wanted o (yielded ops a.tmps) then o.wp P a w (fun a' w' => Ext W w' ∧ wpChain P ops Q W r a' w') Q else Ext W w ∧ wpChain P ops Q W r (a.put o.dst undef) w) ∧
    (if Region.wanted o' (yielded ops a.tmps) then o'.wp P a w (fun a' w' => Ext W w' ∧ wpChain P ops Q W r' a' w') Q else Ext W w ∧ wpChain P ops Q W r' (a.put o'.dst undef) w)
def nthOp : List Oper → Nat → Oper
  | [], _ => default
  | o :: _, 0 => o
  | _ :: l, n + 1 => nthOp l n
theorem nthOp_get : ∀ (l : List Oper) (i : Nat), i < l.length → l.toArray[i]? = some (nthOp l i)
  | [], i, h => absurd h (by simp)
  | o :: l, 0, _ => by simp [nthOp]
  | o :: l, i + 1, h => by
    have := nthOp_get l i (by simpa using h)
    simpa [nthOp] using this
section
variable {P : Program} {ops : Array Oper} {Q : Exit → Act → World → Prop} {W : World} {a : Act} {w : World} {o o' : Oper} {r r' : Ord Oper}
theorem Grown.of {w w' : World} (h : Ext w w') : Grown w w' := h.grown
theorem Grown.ext {w w' : World} (h : Grown w w') : Ext w w' := Ext.ofGrow h
theorem yieldsIf_quiet {v : Value} (hv : isValueOp o.op = true) (hw : Region.wanted o (yielded ops a.tmps) = true) (h : ∀ w, Grown W w → o.quietAt P a (Grown W) w v) : YieldsIf P ops (Ext W) o v a := by
  refine .inl ⟨hw, fun w hS => ?_⟩
  have h1 := h w (Grown.of hS)
  unfold Oper.quietAt at h1
  cases hr : (execOp a.eval o).run P w with
  | halt x w' => rw [hr] at h1; exact h1.elim
  | ok n w' =>
    obtain ⟨u, rfl⟩ := execOp_value hv hr
    rw [hr] at h1
    obtain ⟨e1, e2⟩ := h1
    rw [e1, e2]
theorem chain_op {l : List Oper} {j : Nat} {K : Act → World → Prop} (hj : j < l.length)
    (h : if Region.wanted (nthOp l j) (yielded l.toArray a.tmps) then (nthOp l j).wp P a w K Q else K (a.put (nthOp l j).dst undef) w) : wpOp P l.toArray Q j K a w := by
  unfold wpOp
  simp only [nthOp_get l j hj]
  split
  · rename_i hw; simp only [hw, if_true] at h; exact .inl h
  · rename_i hw; simp only [hw] at h; exact h
theorem chain_held {md : Region.Mode} {l : List Oper} (hs : Region.noSelect l.toArray = true) (hQ : ∀ c (a : Act) d v w, Q (.panic c) (a.put d v) w → Q (.panic c) a w) :
    ∀ (order : Ord Nat) (fuel : Nat) (listed : Array Bool) (a : Act) (w : World), order.depth ≤ fuel → chainOk md l.toArray order listed = true → Ext W w →
      wpChain P l.toArray Q W (order.map (nthOp l)) a w → wpAnyH P md l.toArray Q (Ext W) fuel listed a w
  | .done, fuel, listed, a, w, _, hok, _, h => wpAnyH_done (by simpa [chainOk] using hok) h fuel
  | .rd i r, fuel, listed, a, w, hf, hok, hS, h => by
    obtain ⟨fuel, rfl⟩ : ∃ f, fuel = f + 1 := ⟨fuel - 1, by simp [Ord.depth] at hf; omega⟩
    simp only [chainOk, Bool.and_eq_true] at hok
    obtain ⟨⟨⟨hv, hfree⟩, hr⟩, hok⟩ := hok
    have hlen : i < l.length := by
      rcases Nat.lt_or_ge i l.length with h' | h'
      · exact h'
      · simp [h'] at hv
    have ho := nthOp_get l i hlen
    simp only [ho] at hv
    simp only [Ord.map, wpChain] at h
    by_cases hw : Region.wanted (nthOp l i) (yielded l.toArray a.tmps) = true
    · simp only [hw, if_true] at h
      obtain ⟨v, h1, h2⟩ := h
      exact wpAnyH_take ho hs hfree hr (fun c a w h => hQ c a _ _ w h) (yieldsIf_quiet hv hw h1) hS (chain_held hs hQ r fuel _ _ w (by simp [Ord.depth] at hf; omega) hok hS h2)
    · simp only [hw] at h
      exact wpAnyH_take ho hs hfree hr (fun c a w h => hQ c a _ _ w h) (.inr ⟨by simpa using hw, rfl⟩) hS (chain_held hs hQ r fuel _ _ w (by simp [Ord.depth] at hf; omega) hok hS h)
  | .ac i r, fuel, listed, a, w, hf, hok, hS, h => by
    obtain ⟨fuel, rfl⟩ : ∃ f, fuel = f + 1 := ⟨fuel - 1, by simp [Ord.depth] at hf; omega⟩
    simp only [chainOk, Bool.and_eq_true, beq_iff_eq, decide_eq_true_eq] at hok
    obtain ⟨⟨hlen, hr⟩, hok⟩ := hok
    simp only [Ord.map, wpChain] at h
    refine wpAnyH_all hr (by simp) fun j hj => ?_
    obtain rfl : j = i := by simpa using hj
    exact wpOp_mono (K := fun a' w' => Ext W w' ∧ wpChain P l.toArray Q W (r.map (nthOp l)) a' w') (fun a' w' ⟨h1, h2⟩ => ⟨h1, chain_held hs hQ r fuel _ _ w' (by simp [Ord.depth] at hf; omega) hok h1 h2⟩) (chain_op (by simpa using hlen) h)
  | .br i r k u, fuel, listed, a, w, hf, hok, hS, h => by
    obtain ⟨fuel, rfl⟩ : ∃ f, fuel = f + 1 := ⟨fuel - 1, by simp [Ord.depth] at hf; omega⟩
    simp only [chainOk, Bool.and_eq_true, beq_iff_eq, decide_eq_true_eq] at hok
    obtain ⟨⟨⟨⟨hi, hk⟩, hr⟩, hok⟩, hok'⟩ := hok
    simp only [Ord.map, wpChain] at h
    refine wpAnyH_all hr (by simp) fun j hj => ?_
    rcases (show j = i ∨ j = k by simpa using hj) with rfl | rfl
    · exact wpOp_mono (K := fun a' w' => Ext W w' ∧ wpChain P l.toArray Q W (r.map (nthOp l)) a' w') (fun a' w' ⟨h1, h2⟩ => ⟨h1, chain_held hs hQ r fuel _ _ w' (by simp [Ord.depth] at hf; omega) hok h1 h2⟩) (chain_op (by simpa using hi) h.1)
    · exact wpOp_mono (K := fun a' w' => Ext W w' ∧ wpChain P l.toArray Q W (u.map (nthOp l)) a' w') (fun a' w' ⟨h1, h2⟩ => ⟨h1, chain_held hs hQ u fuel _ _ w' (by simp [Ord.depth] at hf; omega) hok' h1 h2⟩) (chain_op (by simpa using hk) h.2)
/-- The beginning. -/
theorem wp_region_chain {id : Nat} {l : List Oper} {l' : Ord Oper} (order : Ord Nat) (hm : P.follows .mixedOrders = true)
    (hok : (Region.noSelect l.toArray && decide (order.depth ≤ l.length) && chainOk .any l.toArray order (Array.replicate l.length false)) = true)
    (hQ : ∀ c (a : Act) d v w, Q (.panic c) (a.put d v) w → Q (.panic c) a w) (hl : order.map (nthOp l) = l')
    (h : wpChain P l.toArray Q w l' a w.drew) : (Code.region id l.toArray true).wp P Q a w := by
  simp only [Bool.and_eq_true, decide_eq_true_eq] at hok
  obtain ⟨⟨h1, h2⟩, h3⟩ := hok
  subst hl
  refine wp_region_held hm (S := Ext w) ?_
  exact chain_held h1 hQ order _ _ _ _ (by simpa using h2) (by simpa using h3) (Ext.drew (Ext.refl w)) h
theorem chain_nil (h : Q .normal a w) : wpChain P ops Q W .done a w := h
theorem chain_read (hw : Region.wanted o (yielded ops a.tmps) = true) (h : ∀ K : Act → Prop, (∀ a', wpChain P ops Q W r a' w → K a') → o.quiet P a (Grown W) K) : wpChain P ops Q W (.rd o r) a w := by
  simp only [wpChain, hw, if_true]
  exact h _ fun _ h => h
theorem chain_skip (hw : Region.wanted o (yielded ops a.tmps) = false) (h : wpChain P ops Q W r (a.put o.dst undef) w) : wpChain P ops Q W (.rd o r) a w := by
  simp only [wpChain, hw]
  exact h
theorem chain_idle (hw : Region.wanted o (yielded ops a.tmps) = false) (h : Ext W w ∧ wpChain P ops Q W r (a.put o.dst undef) w) : wpChain P ops Q W (.ac o r) a w := by
  simp only [wpChain, hw]
  exact h
theorem chain_guard {j : Nat} {want X : Bool} {v : Value} (hg : o.guard = some (j, want)) (hj : yielded ops a.tmps j = some X)
    (h : X = want → ∀ w, Grown W w → o.quietAt P a (Grown W) w v) (k : wpChain P ops Q W r (a.put o.dst (guarded X want v)) w) : wpChain P ops Q W (.rd o r) a w := by
  simp only [wpChain]
  rw [wanted_of hg hj]
  by_cases e : X = want
  · subst e
    rw [if_pos (by simp)]
    exact ⟨v, h rfl, by simpa [guarded_self] using k⟩
  · rw [if_neg (by simpa using e)]
    simpa [guarded_not e] using k
theorem chain_pick_and {c x : Operand} {X Y : Bool} (ho : o.op = .pick c x (.const (.bool false))) (hg : o.guard = none) (hc : a.eval c = .bool X) (hx : a.eval x = guarded X true (.bool Y))
    (k : wpChain P ops Q W r (a.put o.dst (.bool (X && Y))) w) : wpChain P ops Q W (.rd o r) a w := by
  simp only [wpChain]
  rw [if_pos (by simp [Region.wanted, hg])]
  refine ⟨_, fun w _ => ?_, k⟩
  unfold Oper.quietAt
  rw [run_pick ho hc, hx]
  exact ⟨rfl, pick_and_val⟩
theorem chain_pick_or {c x : Operand} {X Y : Bool} (ho : o.op = .pick c (.const (.bool true)) x) (hg : o.guard = none) (hc : a.eval c = .bool X) (hx : a.eval x = guarded X false (.bool Y))
    (k : wpChain P ops Q W r (a.put o.dst (.bool (X || Y))) w) : wpChain P ops Q W (.rd o r) a w := by
  simp only [wpChain]
  rw [if_pos (by simp [Region.wanted, hg])]
  refine ⟨_, fun w _ => ?_, k⟩
  unfold Oper.quietAt
  rw [run_pick ho hc, hx]
  exact ⟨rfl, pick_or_val⟩
theorem chain_act (hw : Region.wanted o (yielded ops a.tmps) = true) (h : ∀ K : Act → World → Prop, (∀ a' w', (Ext W w' ∧ wpChain P ops Q W r a' w') → K a' w') → o.wp P a w K Q) : wpChain P ops Q W (.ac o r) a w := by
  simp only [wpChain, hw, if_true]
  exact h _ fun _ _ h => h
theorem chain_br (h : wpChain P ops Q W (.ac o r) a w) (h' : wpChain P ops Q W (.ac o' r') a w) : wpChain P ops Q W (.br o r o' r') a w := ⟨h, h'⟩
end

end Go.Proofs.Ytgpeabbbeidhpaa
