/- MTagA: TagA TagB TagC TagD TagE TagF TagG TagH TagI TagJ -/
import Derived.Test.YthamfkbopjagdaaMEncA
import Derived.Lib.SlBuf
import Derived.ChangeKeysEq
import Derived.RangeFuncNested
import Derived.RangeFuncBound
import Derived.RangeFuncCalls
import Derived.RangeFuncLeaves
import Derived.Shelf.Abstract
import Derived.Shelf.RegionOpen
import Derived.WalkKit
import Derived.OwnWalkIn
import Derived.TacticsInMore
import Derived.LoopNIn
import Derived.LoopIn
import Derived.Deep.MidRow
namespace Go.Proofs.Ythamfkbopjagdaa
set_option maxRecDepth 100000
set_option linter.unusedSimpArgs false
set_option linter.unusedVariables false
open Go.RowKit

theorem heap_setCell (w : World) (b o : Nat) (v : Value) (i : Nat) : (w.setCell ⟨b, o, none⟩ v).heap[i]? = if b = i then (w.heap[i]?).map (fun | .cells c e f => .cells (c.setIfInBounds o v) e f | x => x) else w.heap[i]? := by
  unfold World.setCell
  simp only [Array.getElem?_modify]
  split
  · congr 1
  · rfl
theorem cell_setCell_self (w : World) (b o : Nat) (v : Value) : (w.setCell ⟨b, o, none⟩ v).cell? ⟨b, o, none⟩ = (w.cell? ⟨b, o, none⟩).map fun _ => v := by
  unfold World.cell?
  rw [heap_setCell]
  simp only [if_true]
  cases h : w.heap[b]? with
  | none => rfl
  | some x =>
    cases x with
    | cells c e f =>
      simp
      by_cases hl : o < c.size
      · simp [hl]
      · simp [hl]
    | _ => rfl
theorem cell_setCell_far (w : World) (b o b' o' : Nat) (v : Value) (h : ¬ (b' = b ∧ o' = o)) : (w.setCell ⟨b, o, none⟩ v).cell? ⟨b', o', none⟩ = w.cell? ⟨b', o', none⟩ := by
  unfold World.cell?
  rw [heap_setCell]
  by_cases hb : b = b'
  · subst hb
    simp only [if_true]
    cases w.heap[b]? with
    | none => rfl
    | some x =>
      cases x with
      | cells c e f =>
        simp
        rw [Array.getElem?_setIfInBounds, if_neg (by omega)]
      | _ => rfl
  · rw [if_neg hb]
/-- Cells that are laid, one behind the other. -/
theorem cell_setCells (b : Nat) : ∀ (cs : List Value) (o : Nat) (w : World) (b' x : Nat), (∀ j, j < cs.length → (w.cell? ⟨b, o + j, none⟩).isSome = true) →
    (w.setCells b o cs).cell? ⟨b', x, none⟩ = if b' = b ∧ o ≤ x ∧ x < o + cs.length then cs[x - o]? else w.cell? ⟨b', x, none⟩
  | [], o, w, b', x, _ => by rw [World.setCells, if_neg (by simp only [List.length_nil]; omega)]
  | v :: cs, o, w, b', x, h => by
    rw [World.setCells, cell_setCells b cs (o + 1) _ b' x (fun j hj => by
      have := h (j + 1) (by simp only [List.length_cons]; omega)
      rw [cell_setCell_far _ _ _ _ _ _ (by omega)]
      rwa [show o + 1 + j = o + (j + 1) by omega])]
    by_cases e : b' = b ∧ x = o
    · obtain ⟨rfl, rfl⟩ := e
      rw [if_neg (by omega), if_pos (by simp), Nat.sub_self, cell_setCell_self]
      have := h 0 (by simp)
      rw [Nat.add_zero] at this
      obtain ⟨u, hu⟩ := Option.isSome_iff_exists.1 this
      rw [hu]
      rfl
    · rw [cell_setCell_far _ _ _ _ _ _ e]
      by_cases c : b' = b ∧ o + 1 ≤ x ∧ x < o + 1 + cs.length
      · rw [if_pos c, if_pos (by simp only [List.length_cons]; omega), show x - o = (x - (o + 1)) + 1 by omega, List.getElem?_cons_succ]
      · rw [if_neg c, if_neg (by simp only [List.length_cons]; omega)]
theorem frozen_setCells (b : Nat) : ∀ (cs : List Value) (o : Nat) (w : World) (p : Addr), (w.setCells b o cs).frozen? p = w.frozen? p
  | [], _, _, _ => rfl
  | v :: cs, o, w, p => by rw [World.setCells, frozen_setCells b cs (o + 1), World.frozen?_setCell]
theorem size_setCells (b : Nat) : ∀ (cs : List Value) (o : Nat) (w : World), (w.setCells b o cs).heap.size = w.heap.size
  | [], _, _ => rfl
  | v :: cs, o, w => by rw [World.setCells, size_setCells b cs (o + 1), World.size_setCell]
/-- The memory: bytes, which granules are tagged, which pages are dirty. -/
structure Mm (w : World) (q g n : Nat) (B : Nat → Int) (T D : Nat → Bool) : Prop where
  ne : ¬ q = g
  ltq : q < w.heap.size
  ltg : g < w.heap.size
  c0 : w.cell? ⟨q, 0, none⟩ = some (.slice (some ⟨g, 0, none⟩) n n)
  by_ : ∀ p i, p < n → i < 256 → w.cell? ⟨g, p * 273 + i, none⟩ = some (.int .u8 (B (256 * p + i)))
  tg : ∀ p i, p < n → i < 16 → w.cell? ⟨g, p * 273 + 256 + i, none⟩ = some (.bool (T (16 * p + i)))
  dt : ∀ p, p < n → w.cell? ⟨g, p * 273 + 272, none⟩ = some (.bool (D p))
  fz : ∀ x, w.frozen? ⟨g, x, none⟩ = false
  bd : 1 ≤ n ∧ n ≤ 65536
  rg : ∀ a, 0 ≤ B a ∧ B a ≤ 255
  inv : ∀ t, T t = true → D (t / 16) = true
  tout : ∀ t, 16 * n ≤ t → T t = false
  dout : ∀ p, n ≤ p → D p = false
section
variable {S : Nat → Prop} {w w' : World} {q g n : Nat} {B B' : Nat → Int} {T T' D D' : Nat → Bool}
theorem Mm.only (h : Mm w q g n B T D) (x : Only S w w') (hq : ¬ S q) (hg : ¬ S g) : Mm w' q g n B T D :=
  ⟨h.ne, Nat.lt_of_lt_of_le h.ltq x.size, Nat.lt_of_lt_of_le h.ltg x.size, (x.cells q _ h.ltq hq).trans h.c0, fun p i h1 h2 => (x.cells g _ h.ltg hg).trans (h.by_ p i h1 h2), fun p i h1 h2 => (x.cells g _ h.ltg hg).trans (h.tg p i h1 h2),
    fun p h1 => (x.cells g _ h.ltg hg).trans (h.dt p h1), fun y => (x.frozens g _ h.ltg hg).trans (h.fz y), h.bd, h.rg, h.inv, h.tout, h.dout⟩
theorem Mm.ext (h : Mm w q g n B T D) (x : Ext w w') : Mm w' q g n B T D := h.only (Only.ofExt (S := fun _ => False) x) id id
/-- One cell of it turns. -/
theorem Mm.cellAt (h : Mm w q g n B T D) {x : Nat} {v : Value} (hx : (w.cell? ⟨g, x, none⟩).isSome = true) (y : Nat) : (w.setCell ⟨g, x, none⟩ v).cell? ⟨g, y, none⟩ = if y = x then some v else w.cell? ⟨g, y, none⟩ := by
  by_cases e : y = x
  · subst e
    rw [if_pos rfl, cell_setCell_self]
    obtain ⟨u, hu⟩ := Option.isSome_iff_exists.1 hx
    rw [hu]
    rfl
  · rw [if_neg e, cell_setCell_far _ _ _ _ _ _ (by omega)]
end
/-- One of all turns. -/
def upd1 {α : Type} (f : Nat → α) (i : Nat) (v : α) : Nat → α := fun j => if j = i then v else f j
theorem upd1_self {α : Type} (f : Nat → α) (i : Nat) (v : α) : upd1 f i v i = v := if_pos rfl
theorem upd1_ne {α : Type} (f : Nat → α) {i j : Nat} (v : α) (h : ¬ j = i) : upd1 f i v j = f j := if_neg h
section
variable {w : World} {q g n : Nat} {B : Nat → Int} {T D : Nat → Bool}
theorem Mm.untag (h : Mm w q g n B T D) {p i : Nat} (hp : p < n) (hi : i < 16) : Mm (w.setCell ⟨g, p * 273 + 256 + i, none⟩ (.bool false)) q g n B (upd1 T (16 * p + i) false) D := by
  have hs : (w.cell? ⟨g, p * 273 + 256 + i, none⟩).isSome = true := by rw [h.tg p i hp hi]; rfl
  refine ⟨h.ne, by rw [World.size_setCell]; exact h.ltq, by rw [World.size_setCell]; exact h.ltg, ?_, fun p' i' h1 h2 => ?_, fun p' i' h1 h2 => ?_, fun p' h1 => ?_, fun y => by rw [World.frozen?_setCell]; exact h.fz y, h.bd, h.rg, fun t ht => ?_, fun t ht => ?_, h.dout⟩
  · rw [cell_setCell_far _ _ _ _ _ _ (fun e => h.ne e.1)]
    exact h.c0
  · rw [h.cellAt hs, if_neg (by omega)]
    exact h.by_ p' i' h1 h2
  · rw [h.cellAt hs]
    by_cases e : p' = p ∧ i' = i
    · obtain ⟨rfl, rfl⟩ := e
      rw [if_pos rfl, upd1_self]
    · rw [if_neg (by omega), upd1_ne _ _ (by omega)]
      exact h.tg p' i' h1 h2
  · rw [h.cellAt hs, if_neg (by omega)]
    exact h.dt p' h1
  · unfold upd1 at ht
    split at ht
    · cases ht
    · exact h.inv t ht
  · unfold upd1
    split
    · rfl
    · exact h.tout t ht
theorem Mm.clean (h : Mm w q g n B T D) {p : Nat} (hp : p < n) (hc : ∀ i, i < 16 → T (16 * p + i) = false) : Mm (w.setCell ⟨g, p * 273 + 272, none⟩ (.bool false)) q g n B T (upd1 D p false) := by
  have hs : (w.cell? ⟨g, p * 273 + 272, none⟩).isSome = true := by rw [h.dt p hp]; rfl
  refine ⟨h.ne, by rw [World.size_setCell]; exact h.ltq, by rw [World.size_setCell]; exact h.ltg, ?_, fun p' i' h1 h2 => ?_, fun p' i' h1 h2 => ?_, fun p' h1 => ?_, fun y => by rw [World.frozen?_setCell]; exact h.fz y, h.bd, h.rg, fun t ht => ?_, h.tout, fun p' hp' => ?_⟩
  · rw [cell_setCell_far _ _ _ _ _ _ (fun e => h.ne e.1)]
    exact h.c0
  · rw [h.cellAt hs, if_neg (by omega)]
    exact h.by_ p' i' h1 h2
  · rw [h.cellAt hs, if_neg (by omega)]
    exact h.tg p' i' h1 h2
  · rw [h.cellAt hs]
    by_cases e : p' = p
    · subst e
      rw [if_pos rfl, upd1_self]
    · rw [if_neg (by omega), upd1_ne _ _ e]
      exact h.dt p' h1
  · have h1 := h.inv t ht
    unfold upd1
    by_cases e : t / 16 = p
    · exfalso
      have := hc (t % 16) (Nat.mod_lt _ (by decide))
      rw [← e, Nat.div_add_mod] at this
      rw [this] at ht
      cases ht
    · rw [if_neg e]
      exact h1
  · unfold upd1
    split
    · rfl
    · exact h.dout p' hp'
theorem Mm.retag (h : Mm w q g n B T D) {p i : Nat} (hp : p < n) (hi : i < 16) (b : Bool) : Mm ((w.setCell ⟨g, p * 273 + 256 + i, none⟩ (.bool b)).setCell ⟨g, p * 273 + 272, none⟩ (.bool (D p || b))) q g n B (upd1 T (16 * p + i) b) (upd1 D p (D p || b)) := by
  have hs : (w.cell? ⟨g, p * 273 + 256 + i, none⟩).isSome = true := by rw [h.tg p i hp hi]; rfl
  have hs1 : ∀ y, (w.setCell ⟨g, p * 273 + 256 + i, none⟩ (.bool b)).cell? ⟨g, y, none⟩ = if y = p * 273 + 256 + i then some (.bool b) else w.cell? ⟨g, y, none⟩ := fun y => h.cellAt hs y
  have hs2 : ((w.setCell ⟨g, p * 273 + 256 + i, none⟩ (.bool b)).cell? ⟨g, p * 273 + 272, none⟩).isSome = true := by rw [hs1, if_neg (by omega), h.dt p hp]; rfl
  have hs3 : ∀ y, ((w.setCell ⟨g, p * 273 + 256 + i, none⟩ (.bool b)).setCell ⟨g, p * 273 + 272, none⟩ (.bool (D p || b))).cell? ⟨g, y, none⟩ = if y = p * 273 + 272 then some (.bool (D p || b)) else if y = p * 273 + 256 + i then some (.bool b) else w.cell? ⟨g, y, none⟩ := fun y => by
    by_cases e : y = p * 273 + 272
    · subst e
      rw [if_pos rfl, cell_setCell_self]
      obtain ⟨u, hu⟩ := Option.isSome_iff_exists.1 hs2
      rw [hu]
      rfl
    · rw [if_neg e, cell_setCell_far _ _ _ _ _ _ (by omega), hs1]
  refine ⟨h.ne, by rw [World.size_setCell, World.size_setCell]; exact h.ltq, by rw [World.size_setCell, World.size_setCell]; exact h.ltg, ?_, fun p' i' h1 h2 => ?_, fun p' i' h1 h2 => ?_, fun p' h1 => ?_, fun y => by rw [World.frozen?_setCell, World.frozen?_setCell]; exact h.fz y, h.bd, h.rg, fun t ht => ?_, fun t ht => ?_, fun p' hp' => ?_⟩
  · rw [cell_setCell_far _ _ _ _ _ _ (fun e => h.ne e.1), cell_setCell_far _ _ _ _ _ _ (fun e => h.ne e.1)]
    exact h.c0
  · rw [hs3, if_neg (by omega), if_neg (by omega)]
    exact h.by_ p' i' h1 h2
  · rw [hs3, if_neg (by omega)]
    by_cases e : p' = p ∧ i' = i
    · obtain ⟨rfl, rfl⟩ := e
      rw [if_pos rfl, upd1_self]
    · rw [if_neg (by omega), upd1_ne _ _ (by omega)]
      exact h.tg p' i' h1 h2
  · rw [hs3]
    by_cases e : p' = p
    · subst e
      rw [if_pos rfl, upd1_self]
    · rw [if_neg (by omega), if_neg (by omega), upd1_ne _ _ e]
      exact h.dt p' h1
  · unfold upd1 at ht ⊢
    by_cases e : t = 16 * p + i
    · rw [if_pos e] at ht
      rw [if_pos (by omega), ht, Bool.or_true]
    · rw [if_neg e] at ht
      have := h.inv t ht
      split
      · rename_i e2
        rw [e2] at this
        rw [this, Bool.true_or]
      · exact this
  · unfold upd1
    rw [if_neg (by omega)]
    exact h.tout t ht
  · unfold upd1
    rw [if_neg (by omega)]
    exact h.dout p' hp'
end
theorem info_page : (Try.prog.info? 98).map (fun i => (i.zero, i.size, i.bytes)) = some (some (.agg (Array.replicate 256 (Value.int .u8 0) ++ Array.replicate 17 (Value.bool false))), 273, 273) := by kernel_rfl
theorem made_at (z : Array Value) (k j : Nat) (hj : j < k) : (madeCells z k).toList[j]? = some (z[j % z.size]!) := by
  unfold madeCells
  simp [hj]
theorem made_pages {w : World} {base g m : Nat} (h : w.ownsRow base 98 273 (.slice (some ⟨g, 0, none⟩) m m) m (madeCells (Array.replicate 256 (Value.int .u8 0) ++ Array.replicate 17 (Value.bool false)) (m * 273)).toList) :
    g < w.heap.size ∧ (∀ x, w.frozen? ⟨g, x, none⟩ = false) ∧ ∀ p j, p < m → j < 273 → w.cell? ⟨g, p * 273 + j, none⟩ = some (if j < 256 then Value.int .u8 0 else Value.bool false) := by
  rcases h.2 with ⟨h0, _⟩ | ⟨g', cap, cur, hv, _, hg, _, _, hs, ht⟩
  · injection h0 with e; cases e
  · injection hv with e1 e2 e3
    injection e1 with e1
    injection e1 with e1
    subst e1
    refine ⟨(Array.getElem?_eq_some_iff.1 hg).1, fun x => by simp [World.frozen?, hg], fun p j hp hj => ?_⟩
    have hlt : p * 273 + j < m * 273 := by
      have : (p + 1) * 273 ≤ m * 273 := Nat.mul_le_mul_right _ hp
      omega
    rw [cell_of_row w g _ cur 98 (0, 0) hg]
    have h1 : (cur.toList.take (m * 273))[p * 273 + j]? = (madeCells (Array.replicate 256 (Value.int .u8 0) ++ Array.replicate 17 (Value.bool false)) (m * 273)).toList[p * 273 + j]? := by rw [ht]
    rw [List.getElem?_take, if_pos hlt, made_at _ _ _ hlt] at h1
    have hsz : (Array.replicate 256 (Value.int .u8 0) ++ Array.replicate 17 (Value.bool false)).size = 273 := by simp
    rw [hsz, show (p * 273 + j) % 273 = j by rw [Nat.mul_comm, Nat.mul_add_mod]; exact Nat.mod_eq_of_lt hj] at h1
    have h2 : (Array.replicate 256 (Value.int .u8 0) ++ Array.replicate 17 (Value.bool false))[j]! = if j < 256 then Value.int .u8 0 else Value.bool false := by
      rw [getElem!_pos _ _ (by rw [hsz]; exact hj), Array.getElem_append]
      simp only [Array.size_replicate, Array.getElem_replicate]
      split <;> rfl
    rw [h2] at h1
    simpa using h1
set_option maxRecDepth 100000 in
set_option maxHeartbeats 4000000 in
theorem tnew_no (k : Int) (w : World) (hk : k < 1 ∨ 65536 < k) : Calls Try.prog 9 #[.int .i64 k] w fun e w' => e = .returned (.pointer none) ∧ w = w' := by
  by_cases h1 : k < 1
  · clear hk
    go_enter Try.func9, Try.ntmps9
    go_wp2
    go_ret
    exact ⟨rfl, rfl⟩
  · have h2 : 65536 < k := hk.resolve_left h1
    clear hk
    go_enter Try.func9, Try.ntmps9
    go_wp2
    go_ret
    exact ⟨rfl, rfl⟩
set_option maxRecDepth 100000 in
set_option maxHeartbeats 4000000 in
theorem tnew_ (n : Nat) (w : World) (h1 : 1 ≤ n) (h2 : n ≤ 65536) : Calls Try.prog 9 #[.int .i64 (n : Int)] w fun e w' => ∃ q, e = .returned (.pointer (some ⟨q, 0, none⟩)) ∧ ∃ g, Hid (Mm w' q g n (fun _ => 0) (fun _ => false) (fun _ => false)) ∧ Hid (Ext w w') ∧ w.heap.size ≤ q ∧ w.heap.size ≤ g := by
  obtain ⟨i0, hi0, hz0, hz1, hz2⟩ := info_parts info_page
  have k1 : ¬ (n : Int) < 1 := by omega
  have k2 : ¬ (65536 : Int) < (n : Int) := by omega
  have H1 := hid h1
  have H2 := hid h2
  clear h1 h2
  go_enter Try.func9, Try.ntmps9
  go_wp2_with (at_make; refine wpList_make_full _ rfl _ _ 73 rfl w.heap.size 98 i0 _ 273 Try.underlying73 hi0 hz0 hz1 .i64 .i64 _ _ n rfl rfl rfl rfl (by rw [hz2]; have := H2.out; omega) (by unfold maxLen; have := H2.out; omega) (Nat.le_refl _) ?_; intro w1 hown hg; have hx1 : Ext w w1 := ⟨hg.os, hg.tape, hg.output, hg.size, fun k hk => hg.block k hk (by simp)⟩; have HM := hid (made_pages hown); clear hown hg)
  go_ret
  obtain ⟨hql, hfz, hc⟩ := HM.out
  have hsz := hx1.size
  have x := Ext.alloc (Ext.refl w1) (.cells #[.slice (some ⟨w.heap.size, 0, none⟩) n n] 75)
  refine ⟨w1.heap.size, rfl, w.heap.size, hid ⟨by omega, by simp, by simp; omega, by simp [go_sem], fun p i h1 h2 => ?_, fun p i h1 h2 => ?_, fun p h1 => ?_, fun y => (x.frozens _ _ hql).trans (hfz y), ⟨H1.out, H2.out⟩, fun a => ⟨Int.le_refl _, by decide⟩, fun t ht => by simp at ht, fun t _ => rfl, fun p _ => rfl⟩, hid (by repeat (first | (with_reducible exact Ext.refl _) | (with_reducible refine Ext.undrew ?_) | (with_reducible refine Ext.grow ?_ _) | (with_reducible refine Ext.drew ?_) | (with_reducible refine Ext.drewN ?_ _) | (with_reducible refine Ext.alloc ?_ _) | (with_reducible assumption) | ((with_reducible refine Ext.setCell ?_ ?_ _); rotate_left; (first | exact Nat.le_refl _ | ((try dsimp only); (try simp only [World.size_alloc, grow_size, World.size_setCell]); omega))))), hsz, Nat.le_refl _⟩
  · rw [x.cells _ _ hql, hc p i h1 (by omega), if_pos h2]
  · rw [x.cells _ _ hql, Nat.add_assoc, hc p (256 + i) h1 (by omega), if_neg (by omega)]
  · rw [x.cells _ _ hql, hc p 272 h1 (by omega), if_neg (by omega)]
set_option maxRecDepth 100000 in
set_option maxHeartbeats 4000000 in
theorem tsize_ (q g n : Nat) (B : Nat → Int) (T D : Nat → Bool) (w : World) (h : Mm w q g n B T D) : Calls Try.prog 63 #[.pointer (some ⟨q, 0, none⟩)] w fun e w' => e = .returned (.int .i64 (256 * (n : Int))) ∧ w = w' := by
  have c0 := h.c0
  have hlq := h.ltq
  have hbd := h.bd
  have he : (n : Int) * 256 = 256 * (n : Int) := Int.mul_comm _ _
  clear h
  go_enter Try.func63, Try.ntmps63
  go_wp2
  go_ret
  exact ⟨by first | rfl | rw [he], rfl⟩
set_option maxRecDepth 100000 in
set_option maxHeartbeats 4000000 in
theorem tspans_yes (q g n : Nat) (B : Nat → Int) (T D : Nat → Bool) (w : World) (h : Mm w q g n B T D) (x k : Int) (h0 : 0 ≤ x) (h1 : 0 ≤ k) (h2 : x ≤ 256 * (n : Int)) (h3 : k ≤ 256 * (n : Int) - x) : Calls Try.prog 47 #[.pointer (some ⟨q, 0, none⟩), .int .i64 x, .int .i64 k] w fun e w' => e = .returned (.bool true) ∧ w = w' := by
  have HH := hid h
  have hbd := h.bd
  have HF := hid h3
  clear h
  go_enter Try.func47, Try.ntmps47
  go_wp2_with (go_at_call 63; refine (tsize_ q g n B T D _ HH.out).mono ?_; rintro e w1 ⟨rfl, rfl⟩)
  go_ret
  exact ⟨by first | rfl | exact congrArg (fun b => Ending.returned (Value.bool b)) (decide_eq_true HF.out) | exact congrArg (fun b => Ending.returned (Value.bool b)) (decide_eq_false (by have := HF.out; omega)), rfl⟩
set_option maxRecDepth 100000 in
set_option maxHeartbeats 4000000 in
theorem tspans_no1 (q g n : Nat) (B : Nat → Int) (T D : Nat → Bool) (w : World) (h : Mm w q g n B T D) (x k : Int) (h0 : x < 0) : Calls Try.prog 47 #[.pointer (some ⟨q, 0, none⟩), .int .i64 x, .int .i64 k] w fun e w' => e = .returned (.bool false) ∧ w = w' := by
  have HH := hid h
  have hbd := h.bd
  skip
  clear h
  go_enter Try.func47, Try.ntmps47
  go_wp2_with (go_at_call 63; refine (tsize_ q g n B T D _ HH.out).mono ?_; rintro e w1 ⟨rfl, rfl⟩)
  go_ret
  exact ⟨by first | rfl | exact congrArg (fun b => Ending.returned (Value.bool b)) (decide_eq_true HF.out) | exact congrArg (fun b => Ending.returned (Value.bool b)) (decide_eq_false (by have := HF.out; omega)), rfl⟩
set_option maxRecDepth 100000 in
set_option maxHeartbeats 4000000 in
theorem tspans_no2 (q g n : Nat) (B : Nat → Int) (T D : Nat → Bool) (w : World) (h : Mm w q g n B T D) (x k : Int) (h0 : 0 ≤ x) (h1 : k < 0) : Calls Try.prog 47 #[.pointer (some ⟨q, 0, none⟩), .int .i64 x, .int .i64 k] w fun e w' => e = .returned (.bool false) ∧ w = w' := by
  have HH := hid h
  have hbd := h.bd
  skip
  clear h
  go_enter Try.func47, Try.ntmps47
  go_wp2_with (go_at_call 63; refine (tsize_ q g n B T D _ HH.out).mono ?_; rintro e w1 ⟨rfl, rfl⟩)
  go_ret
  exact ⟨by first | rfl | exact congrArg (fun b => Ending.returned (Value.bool b)) (decide_eq_true HF.out) | exact congrArg (fun b => Ending.returned (Value.bool b)) (decide_eq_false (by have := HF.out; omega)), rfl⟩
set_option maxRecDepth 100000 in
set_option maxHeartbeats 4000000 in
theorem tspans_no3 (q g n : Nat) (B : Nat → Int) (T D : Nat → Bool) (w : World) (h : Mm w q g n B T D) (x k : Int) (h0 : 0 ≤ x) (h1 : 0 ≤ k) (h2 : 256 * (n : Int) < x) : Calls Try.prog 47 #[.pointer (some ⟨q, 0, none⟩), .int .i64 x, .int .i64 k] w fun e w' => e = .returned (.bool false) ∧ w = w' := by
  have HH := hid h
  have hbd := h.bd
  skip
  clear h
  go_enter Try.func47, Try.ntmps47
  go_wp2_with (go_at_call 63; refine (tsize_ q g n B T D _ HH.out).mono ?_; rintro e w1 ⟨rfl, rfl⟩)
  go_ret
  exact ⟨by first | rfl | exact congrArg (fun b => Ending.returned (Value.bool b)) (decide_eq_true HF.out) | exact congrArg (fun b => Ending.returned (Value.bool b)) (decide_eq_false (by have := HF.out; omega)), rfl⟩
set_option maxRecDepth 100000 in
set_option maxHeartbeats 4000000 in
theorem tspans_no4 (q g n : Nat) (B : Nat → Int) (T D : Nat → Bool) (w : World) (h : Mm w q g n B T D) (x k : Int) (h0 : 0 ≤ x) (h1 : 0 ≤ k) (h2 : x ≤ 256 * (n : Int)) (h3 : 256 * (n : Int) - x < k) : Calls Try.prog 47 #[.pointer (some ⟨q, 0, none⟩), .int .i64 x, .int .i64 k] w fun e w' => e = .returned (.bool false) ∧ w = w' := by
  have HH := hid h
  have hbd := h.bd
  have HF := hid h3
  clear h
  go_enter Try.func47, Try.ntmps47
  go_wp2_with (go_at_call 63; refine (tsize_ q g n B T D _ HH.out).mono ?_; rintro e w1 ⟨rfl, rfl⟩)
  go_ret
  exact ⟨by first | rfl | exact congrArg (fun b => Ending.returned (Value.bool b)) (decide_eq_true HF.out) | exact congrArg (fun b => Ending.returned (Value.bool b)) (decide_eq_false (by have := HF.out; omega)), rfl⟩
/-- So many bytes from there on are in it. -/
def spanP (n : Nat) (x k : Int) : Prop := 0 ≤ x ∧ 0 ≤ k ∧ x ≤ 256 * (n : Int) ∧ k ≤ 256 * (n : Int) - x
theorem tspans_no (q g n : Nat) (B : Nat → Int) (T D : Nat → Bool) (w : World) (h : Mm w q g n B T D) (x k : Int) (hc : ¬ spanP n x k) : Calls Try.prog 47 #[.pointer (some ⟨q, 0, none⟩), .int .i64 x, .int .i64 k] w fun e w' => e = .returned (.bool false) ∧ w = w' := by
  by_cases h0 : x < 0
  · exact tspans_no1 q g n B T D w h x k h0
  by_cases h1 : k < 0
  · exact tspans_no2 q g n B T D w h x k (by omega) h1
  by_cases h2 : 256 * (n : Int) < x
  · exact tspans_no3 q g n B T D w h x k (by omega) (by omega) h2
  by_cases h3 : 256 * (n : Int) - x < k
  · exact tspans_no4 q g n B T D w h x k (by omega) (by omega) (by omega) h3
  exact absurd ⟨by omega, by omega, by omega, by omega⟩ hc
end Go.Proofs.Ythamfkbopjagdaa

namespace Go.Proofs.Ythamfkbopjagdaa
set_option maxRecDepth 100000
set_option linter.unusedSimpArgs false
set_option linter.unusedVariables false
open Go.RowKit

theorem t16 (x : Int) : (x % 16 == 0) = (x.tmod 16 == 0) := by
  have h : x % 16 = 0 ↔ x.tmod 16 = 0 := ⟨fun h => Int.tmod_eq_zero_of_dvd (Int.dvd_of_emod_eq_zero h), fun h => Int.emod_eq_zero_of_dvd (Int.dvd_of_tmod_eq_zero h)⟩
  rw [Bool.eq_iff_iff]; simp only [beq_iff_eq]; exact h
/-- A granule begins there. -/
def placeP (n : Nat) (x : Int) : Prop := x % 16 = 0 ∧ 0 ≤ x ∧ x + 16 ≤ 256 * (n : Int)
set_option maxRecDepth 100000 in
set_option maxHeartbeats 4000000 in
theorem tbegins_yes (q g n : Nat) (B : Nat → Int) (T D : Nat → Bool) (w : World) (h : Mm w q g n B T D) (x : Int) (hc : placeP n x) : Calls Try.prog 49 #[.pointer (some ⟨q, 0, none⟩), .int .i64 x] w fun e w' => e = .returned (.bool true) ∧ w = w' := by
  have HH := hid h
  have hbd := h.bd
  clear h
  have h0 : (x % 16 == 0) = true := by rw [beq_iff_eq]; exact hc.1
  have h1 : (x.tmod 16 == 0) = true := by rw [← t16]; exact h0
  have H1 := hid hc.2.1
  have H2 := hid hc.2.2
  clear hc
  go_enter Try.func49, Try.ntmps49
  go_wp2_with (go_at_call 47; refine (tspans_yes q g n B T D _ HH.out x 16 H1.out (by decide) (by have := H2.out; omega) (by have := H2.out; omega)).mono ?_; rintro e w1 ⟨rfl, rfl⟩)
  go_ret
  exact ⟨rfl, rfl⟩
set_option maxRecDepth 100000 in
set_option maxHeartbeats 4000000 in
theorem tbegins_no1 (q g n : Nat) (B : Nat → Int) (T D : Nat → Bool) (w : World) (h : Mm w q g n B T D) (x : Int) (hc : ¬ x % 16 = 0) : Calls Try.prog 49 #[.pointer (some ⟨q, 0, none⟩), .int .i64 x] w fun e w' => e = .returned (.bool false) ∧ w = w' := by
  have HH := hid h
  have hbd := h.bd
  clear h
  have h0 : (x % 16 == 0) = false := by rw [beq_eq_false_iff_ne]; exact hc
  have h1 : (x.tmod 16 == 0) = false := by rw [← t16]; exact h0
  clear hc
  go_enter Try.func49, Try.ntmps49
  go_wp2
  go_ret
  exact ⟨rfl, rfl⟩
set_option maxRecDepth 100000 in
set_option maxHeartbeats 4000000 in
theorem tbegins_no2 (q g n : Nat) (B : Nat → Int) (T D : Nat → Bool) (w : World) (h : Mm w q g n B T D) (x : Int) (hx : x % 16 = 0) (hc : ¬ spanP n x 16) : Calls Try.prog 49 #[.pointer (some ⟨q, 0, none⟩), .int .i64 x] w fun e w' => e = .returned (.bool false) ∧ w = w' := by
  have HH := hid h
  have hbd := h.bd
  clear h
  have h0 : (x % 16 == 0) = true := by rw [beq_iff_eq]; exact hx
  have h1 : (x.tmod 16 == 0) = true := by rw [← t16]; exact h0
  have HC := hid hc
  clear hc hx
  go_enter Try.func49, Try.ntmps49
  go_wp2_with (go_at_call 47; refine (tspans_no q g n B T D _ HH.out x 16 HC.out).mono ?_; rintro e w1 ⟨rfl, rfl⟩)
  go_ret
  exact ⟨rfl, rfl⟩
theorem tbegins_no (q g n : Nat) (B : Nat → Int) (T D : Nat → Bool) (w : World) (h : Mm w q g n B T D) (x : Int) (hc : ¬ placeP n x) : Calls Try.prog 49 #[.pointer (some ⟨q, 0, none⟩), .int .i64 x] w fun e w' => e = .returned (.bool false) ∧ w = w' := by
  by_cases hx : x % 16 = 0
  · exact tbegins_no2 q g n B T D w h x hx (fun c => hc ⟨hx, c.1, by have := c.2.2.2; omega⟩)
  · exact tbegins_no1 q g n B T D w h x hx
set_option maxRecDepth 100000 in
set_option maxHeartbeats 4000000 in
theorem tplace_ (q g n : Nat) (B : Nat → Int) (T D : Nat → Bool) (w : World) (h : Mm w q g n B T D) (x : Int) (p i : Nat) (h0 : 0 ≤ x) (hp : x / 256 = (p : Int)) (hi : x % 256 / 16 = (i : Int)) (hpn : p < n) : Calls Try.prog 48 #[.pointer (some ⟨q, 0, none⟩), .int .i64 x] w fun e w' => e = .returned (.tuple #[.pointer (some ⟨g, p * 273, none⟩), .int .i64 (i : Int)]) ∧ w = w' := by
  have c0 := h.c0
  have hlq := h.ltq
  have hbd := h.bd
  have hp0 : (0 : Int) ≤ (p : Int) := by omega
  have hp1 : (p : Int) < (n : Int) := by omega
  have HI := hid hi
  clear h hi
  go_enter Try.func48, Try.ntmps48
  go_wp2
  refine bodyPost_ret (v := .tuple #[.pointer (some ⟨g, p * 273, none⟩), .int .i64 (x % 256 / 16)]) (by simp [results, Try.results48, go_sem]) rfl ?_
  exact ⟨by rw [HI.out], rfl⟩
set_option maxRecDepth 100000 in
set_option maxHeartbeats 4000000 in
theorem ttag_yes (q g n : Nat) (B : Nat → Int) (T D : Nat → Bool) (w : World) (h : Mm w q g n B T D) (x : Int) (p i : Nat) (hpn : p < n) (hi16 : i < 16) (hx : x = 256 * (p : Int) + 16 * (i : Int)) : Calls Try.prog 81 #[.pointer (some ⟨q, 0, none⟩), .int .i64 x] w fun e w' => e = .returned (.bool (T (16 * p + i))) ∧ w = w' := by
  have HH := hid h
  have htg := h.tg p i hpn hi16
  have H0 : Hid (0 ≤ x) := hid (by omega)
  have HP : Hid (x / 256 = (p : Int)) := hid (by omega)
  have HI : Hid (x % 256 / 16 = (i : Int)) := hid (by omega)
  have HC : Hid (placeP n x) := hid ⟨by omega, by omega, by omega⟩
  have hi0 : (0 : Int) ≤ (i : Int) := by omega
  have hi1 : (i : Int) < 16 := by omega
  have hlg := h.ltg
  have hbd := h.bd
  clear h hx
  generalize T (16 * p + i) = tv at htg ⊢
  go_enter Try.func81, Try.ntmps81
  go_wp2_with (first | (go_at_call 49; refine (tbegins_yes q g n B T D _ HH.out x HC.out).mono ?_; rintro e w1 ⟨rfl, rfl⟩) | (go_at_call 48; refine (tplace_ q g n B T D _ HH.out x p i H0.out HP.out HI.out hpn).mono ?_; rintro e w1 ⟨rfl, rfl⟩))
  go_ret
  exact ⟨rfl, rfl⟩
set_option maxRecDepth 100000 in
set_option maxHeartbeats 4000000 in
theorem ttag_no (q g n : Nat) (B : Nat → Int) (T D : Nat → Bool) (w : World) (h : Mm w q g n B T D) (x : Int) (hc : ¬ placeP n x) : Calls Try.prog 81 #[.pointer (some ⟨q, 0, none⟩), .int .i64 x] w fun e w' => e = .returned (.bool false) ∧ w = w' := by
  have HH := hid h
  have HC := hid hc
  clear h hc
  go_enter Try.func81, Try.ntmps81
  go_wp2_with (go_at_call 49; refine (tbegins_no q g n B T D _ HH.out x HC.out).mono ?_; rintro e w1 ⟨rfl, rfl⟩)
  go_ret
  exact ⟨rfl, rfl⟩
set_option maxRecDepth 100000 in
set_option maxHeartbeats 4000000 in
theorem tstrip_yes (q g n : Nat) (B : Nat → Int) (T D : Nat → Bool) (w : World) (h : Mm w q g n B T D) (x : Int) (p i : Nat) (hpn : p < n) (hi16 : i < 16) (hx : x = 256 * (p : Int) + 16 * (i : Int)) (ht : T (16 * p + i) = true) : Calls Try.prog 71 #[.pointer (some ⟨q, 0, none⟩), .int .i64 x] w fun e w' => e = .returned (.bool true) ∧ Hid (Mm w' q g n B (upd1 T (16 * p + i) false) D) ∧ Hid (Only (· = g) w w') := by
  have HH := hid h
  have htg := h.tg p i hpn hi16
  have hfz := h.fz (p * 273 + 256 + i)
  have HM := hid (h.untag hpn hi16)
  have HO : Hid (Only (· = g) w (w.setCell ⟨g, p * 273 + 256 + i, none⟩ (.bool false))) := hid (Only.setCell (S := (· = g)) (Only.refl _ _) (.inl rfl) _)
  have H0 : Hid (0 ≤ x) := hid (by omega)
  have HP : Hid (x / 256 = (p : Int)) := hid (by omega)
  have HI : Hid (x % 256 / 16 = (i : Int)) := hid (by omega)
  have HC : Hid (placeP n x) := hid ⟨by omega, by omega, by omega⟩
  have hi0 : (0 : Int) ≤ (i : Int) := by omega
  have hi1 : (i : Int) < 16 := by omega
  have HX := hid hx
  have hlg := h.ltg
  have hbd := h.bd
  clear h hx
  rw [ht] at htg
  go_enter Try.func71, Try.ntmps71
  go_wp2_with (first | ((go_at_call 81; refine (ttag_yes q g n B T D _ HH.out x p i hpn hi16 HX.out).mono ?_; rintro e w1 ⟨rfl, rfl⟩); rw [ht]) | (go_at_call 48; refine (tplace_ q g n B T D _ HH.out x p i H0.out HP.out HI.out hpn).mono ?_; rintro e w1 ⟨rfl, rfl⟩))
  go_ret
  exact ⟨rfl, HM, HO⟩
set_option maxRecDepth 100000 in
set_option maxHeartbeats 4000000 in
theorem tstrip_no1 (q g n : Nat) (B : Nat → Int) (T D : Nat → Bool) (w : World) (h : Mm w q g n B T D) (x : Int) (p i : Nat) (hpn : p < n) (hi16 : i < 16) (hx : x = 256 * (p : Int) + 16 * (i : Int)) (ht : T (16 * p + i) = false) : Calls Try.prog 71 #[.pointer (some ⟨q, 0, none⟩), .int .i64 x] w fun e w' => e = .returned (.bool false) ∧ w = w' := by
  have HH := hid h
  have HX := hid hx
  clear h hx
  go_enter Try.func71, Try.ntmps71
  go_wp2_with ((go_at_call 81; refine (ttag_yes q g n B T D _ HH.out x p i hpn hi16 HX.out).mono ?_; rintro e w1 ⟨rfl, rfl⟩); rw [ht])
  go_ret
  exact ⟨rfl, rfl⟩
set_option maxRecDepth 100000 in
set_option maxHeartbeats 4000000 in
theorem tstrip_no2 (q g n : Nat) (B : Nat → Int) (T D : Nat → Bool) (w : World) (h : Mm w q g n B T D) (x : Int) (hc : ¬ placeP n x) : Calls Try.prog 71 #[.pointer (some ⟨q, 0, none⟩), .int .i64 x] w fun e w' => e = .returned (.bool false) ∧ w = w' := by
  have HH := hid h
  have HC := hid hc
  clear h hc
  go_enter Try.func71, Try.ntmps71
  go_wp2_with (go_at_call 81; refine (ttag_no q g n B T D _ HH.out x HC.out).mono ?_; rintro e w1 ⟨rfl, rfl⟩)
  go_ret
  exact ⟨rfl, rfl⟩
end Go.Proofs.Ythamfkbopjagdaa

namespace Go.Proofs.Ythamfkbopjagdaa
set_option maxRecDepth 100000
set_option linter.unusedSimpArgs false
set_option linter.unusedVariables false
open Go.RowKit

/-- Bytes with others laid over them. -/
def putB (B : Nat → Int) (a : Nat) (l : List Int) : Nat → Int := fun y => if a ≤ y ∧ y < a + l.length then l.getD (y - a) 0 else B y
/-- Tags, less those of granules that were written to. -/
def clrT (T : Nat → Bool) (a d : Nat) : Nat → Bool := fun t => T t && !(decide (16 * t < a + d ∧ a < 16 * t + 16 ∧ 0 < d))
theorem putB_nil (B : Nat → Int) (a : Nat) : putB B a [] = B := funext fun y => by unfold putB; rw [if_neg (by simp only [List.length_nil]; omega)]
theorem clrT_zero (T : Nat → Bool) (a : Nat) : clrT T a 0 = T := funext fun t => by simp [clrT]
theorem putB_two (B : Nat → Int) (a : Nat) (l m : List Int) : putB (putB B a l) (a + l.length) m = putB B a (l ++ m) := funext fun y => by
  unfold putB
  rw [List.length_append]
  by_cases h1 : a + l.length ≤ y ∧ y < a + l.length + m.length
  · rw [if_pos h1, if_pos (by omega)]
    rw [List.getD_eq_getElem?_getD, List.getD_eq_getElem?_getD, List.getElem?_append_right (by omega)]
    congr 2
    omega
  · rw [if_neg h1]
    by_cases h2 : a ≤ y ∧ y < a + l.length
    · rw [if_pos h2, if_pos (by omega), List.getD_eq_getElem?_getD, List.getD_eq_getElem?_getD, List.getElem?_append_left (by omega)]
    · rw [if_neg h2, if_neg (by omega)]
theorem putB_rg {B : Nat → Int} {a : Nat} {l : List Int} (h : ∀ y, 0 ≤ B y ∧ B y ≤ 255) (hl : byteL l) : ∀ y, 0 ≤ putB B a l y ∧ putB B a l y ≤ 255 := fun y => by
  unfold putB
  by_cases c : a ≤ y ∧ y < a + l.length
  · rw [if_pos c]
    have hlt : y - a < l.length := by omega
    rw [List.getD_eq_getElem?_getD, List.getElem?_eq_getElem hlt]
    exact hl _ (List.getElem_mem hlt)
  · rw [if_neg c]
    exact h y
theorem clrT_step (T : Nat → Bool) {a d c t0 : Nat} (hc : 0 < c) (ht : (a + d) / 16 = t0) (hfit : (a + d) % 16 + c ≤ 16) (hd : d = 0 ∨ (a + d) % 16 = 0) : upd1 (clrT T a d) t0 false = clrT T a (d + c) := funext fun t => by
  unfold upd1
  by_cases e : t = t0
  · subst e
    rw [if_pos rfl]
    unfold clrT
    rw [decide_eq_true (show 16 * t < a + (d + c) ∧ a < 16 * t + 16 ∧ 0 < d + c by omega)]
    simp
  · rw [if_neg e]
    unfold clrT
    congr 2
    rw [decide_eq_decide]
    omega
section
variable {w : World} {q g n : Nat} {B : Nat → Int} {T D : Nat → Bool}
theorem bvals_at (l : List Int) (j : Nat) (hj : j < l.length) : (bvals l)[j]? = some (.int .u8 (l.getD j 0)) := by
  simp [bvals, hj]
theorem Mm.lay (h : Mm w q g n B T D) {p x : Nat} (hp : p < n) (ls : List Int) (hl : byteL ls) (hx : x + ls.length ≤ 256) : Mm (w.setCells g (p * 273 + x) (bvals ls)) q g n (putB B (256 * p + x) ls) T D := by
  have hcs : ∀ j, j < (bvals ls).length → (w.cell? ⟨g, p * 273 + x + j, none⟩).isSome = true := fun j hj => by
    rw [bvals_length] at hj
    rw [Nat.add_assoc, h.by_ p (x + j) hp (by omega)]
    rfl
  have hc := fun b' y => cell_setCells g (bvals ls) (p * 273 + x) w b' y hcs
  rw [bvals_length] at hc
  refine ⟨h.ne, by rw [size_setCells]; exact h.ltq, by rw [size_setCells]; exact h.ltg, ?_, fun p' i' h1 h2 => ?_, fun p' i' h1 h2 => ?_, fun p' h1 => ?_, fun y => by rw [frozen_setCells]; exact h.fz y, h.bd, putB_rg h.rg hl, h.inv, h.tout, h.dout⟩
  · rw [hc, if_neg (fun e => h.ne e.1)]
    exact h.c0
  · rw [hc]
    unfold putB
    by_cases c : p * 273 + x ≤ p' * 273 + i' ∧ p' * 273 + i' < p * 273 + x + ls.length
    · have hpp : p' = p := by omega
      subst hpp
      rw [if_pos ⟨rfl, c.1, c.2⟩, if_pos (by omega), bvals_at _ _ (by omega)]
      congr 3
      omega
    · rw [if_neg (fun e => c ⟨e.2.1, e.2.2⟩), h.by_ p' i' h1 h2, if_neg (by omega)]
  · rw [hc, if_neg (by omega)]
    exact h.tg p' i' h1 h2
  · rw [hc, if_neg (by omega)]
    exact h.dt p' h1
end
theorem RdB.only {S : Nat → Prop} {w w' : World} {A : Option Addr} {l : List Int} (h : RdB w A l) (x : Only S w w') (hs : ∀ b o, A = some ⟨b, o, none⟩ → ¬ S b) : RdB w' A l := fun h0 => by
  obtain ⟨b, o, hA, hb, hc⟩ := h h0
  exact ⟨b, o, hA, Nat.lt_of_lt_of_le hb x.size, fun j hj => by rw [x.cells b _ hb (hs b o hA)]; exact hc j hj⟩
theorem goInt_nat (k : Nat) : goInt k = .int .i64 (k : Int) := rfl
set_option maxRecDepth 100000 in
set_option maxHeartbeats 4000000 in
theorem tstore_no (q g n : Nat) (B : Nat → Int) (T D : Nat → Bool) (w : World) (h : Mm w q g n B T D) (x : Int) (A : Option Addr) (m ca : Nat) (hc : ¬ spanP n x m) : Calls Try.prog 16 #[.pointer (some ⟨q, 0, none⟩), .int .i64 x, .slice A m ca] w fun e w' => e = .returned (.bool false) ∧ w = w' := by
  have HH := hid h
  have HC := hid hc
  clear h hc
  go_enter Try.func16, Try.ntmps16
  go_wp2_with (go_at_call 47; refine (tspans_no q g n B T D _ HH.out x m HC.out).mono ?_; rintro e w1 ⟨rfl, rfl⟩)
  go_ret
  exact ⟨rfl, rfl⟩
set_option maxRecDepth 100000 in
set_option maxHeartbeats 4000000 in
theorem tstore_yes (q g n : Nat) (B : Nat → Int) (T D : Nat → Bool) (w : World) (h : Mm w q g n B T D) (a : Nat) (A : Option Addr) (ca : Nat) (l : List Int) (hr : RdB w A l) (hl : byteL l) (hca : l.length ≤ ca) (hfit : a + l.length ≤ 256 * n) (hA : 0 < l.length → ∀ b o, A = some ⟨b, o, none⟩ → ¬ b = g) : Calls Try.prog 16 #[.pointer (some ⟨q, 0, none⟩), .int .i64 (a : Int), .slice A l.length ca] w fun e w' => e = .returned (.bool true) ∧ Hid (Mm w' q g n (putB B a l) (clrT T a l.length) D) ∧ Hid (Only (· = g) w w') := by
  have HS : Hid (spanP n (a : Int) (l.length : Int)) := hid ⟨by omega, by omega, by omega, by omega⟩
  have HH := hid h
  have HR := hid hr
  have HL := hid hl
  have HA := hid hA
  have hbd := h.bd
  clear h hr hl hA
  go_enter Try.func16, Try.ntmps16
  go_wp2_with (go_at_call 47; refine (tspans_yes q g n B T D _ HH.out (a : Int) (l.length : Int) HS.out.1 HS.out.2.1 HS.out.2.2.1 HS.out.2.2.2).mono ?_; rintro e w1 ⟨rfl, rfl⟩)
  go_loopw [7] (fun i wr => ∃ d : Nat, d ≤ l.length ∧ i = .int .i64 d ∧ Hid (Mm wr q g n (putB B a (l.take d)) (clrT T a d) D) ∧ Hid (Only (· = g) w wr) ∧ Hid (d = 0 ∨ d = l.length ∨ (a + d) % 16 = 0)) (fun i _ => l.length - (intOf i).toNat)
  case atStart => exact ⟨0, Nat.zero_le _, rfl, hid (by rw [List.take_zero, putB_nil, clrT_zero]; exact HH.out), hid (Only.refl _ _), hid (.inl rfl)⟩
  case round =>
    obtain ⟨d, hd, rfl, HM, HO, HB⟩ := hrel
    have hd0 : (0 : Int) ≤ (d : Int) := by omega
    by_cases hlt : d < l.length
    · have hd1 : (d : Int) < (l.length : Int) := by omega
      obtain ⟨b, ob, rfl, hb, hc0⟩ := HR.out (by omega)
      have hbg := HA.out (by omega) b ob rfl
      obtain ⟨p, hp⟩ : ∃ p, (a + d) / 256 = p := ⟨_, rfl⟩
      obtain ⟨i, hi⟩ : ∃ i, (a + d) % 256 / 16 = i := ⟨_, rfl⟩
      obtain ⟨off, hoff⟩ : ∃ off, (a + d) % 16 = off := ⟨_, rfl⟩
      have hpn : p < n := by omega
      have hi16 : i < 16 := by omega
      have ho16 : off < 16 := by omega
      have HP : Hid (((a : Int) + (d : Int)) / 256 = (p : Int)) := hid (by omega)
      have HI : Hid (((a : Int) + (d : Int)) % 256 / 16 = (i : Int)) := hid (by omega)
      have HE : Hid (a + d = 256 * p + 16 * i + off) := hid (by omega)
      have HOF : Hid (((a : Int) + (d : Int)) % 16 = (off : Int)) := hid (by omega)
      clear hp hi hoff
      have hi0 : (0 : Int) ≤ (i : Int) := by omega
      have hi1 : (i : Int) < 16 := by omega
      go_upto_region 6 with (go_at_call 48; refine (tplace_ q g n _ _ _ _ HM.out ((a : Int) + (d : Int)) p i (by omega) HP.out HI.out hpn).mono ?_; rintro e w1 ⟨rfl, rfl⟩)
      have htg := HM.out.tg p i hpn hi16
      have hfz := HM.out.fz (p * 273 + 256 + i)
      have hlg := HM.out.ltg
      have HM1 := hid (HM.out.untag hpn hi16)
      have HO1 : Hid (Only (· = g) w (wr.setCell ⟨g, p * 273 + 256 + i, none⟩ (.bool false))) := hid (Only.setCell (S := (· = g)) HO.out (.inl rfl) _)
      have hb1 : b < wr.heap.size := Nat.lt_of_lt_of_le hb HO.out.size
      go_upto_region 7 with (fail)
      clear HM HO htg hfz hlg
      generalize hW : wr.setCell ⟨g, p * 273 + 256 + i, none⟩ (.bool false) = W at HM1 HO1 ⊢
      have hbW : b < W.heap.size := by rw [← hW, World.size_setCell]; exact hb1
      have HBW : Hid (∀ x, W.cell? ⟨b, x, none⟩ = w.cell? ⟨b, x, none⟩) := hid (fun x => HO1.out.cells b x hb hbg)
      clear hW hb1
      have hof := HOF.out
      have ho0 : (0 : Int) ≤ (off : Int) := by omega
      have ho1 : (off : Int) ≤ 16 := by omega
      have hdl : (d : Int) ≤ (l.length : Int) := by omega
      have hdc : ¬ (ca : Int) = (d : Int) := by omega
      have hdcn : ¬ ca = d := by omega
      have hocn : ¬ 16 = off := by omega
      have hoci : ¬ (16 : Int) = (off : Int) := by omega
      refine wp_region_turn (q := g) (.rd 0 (.rd 1 (.rd 2 (.rd 3 (.rd 4 (.rd 5 (.rd 6 (.rd 7 (.rd 8 (.rd 9 (.rd 10 (.rd 11 (.rd 12 (.rd 13 (.ac 14 (.rd 15 (.rd 16 .done))))))))))))))))) (by kernel_rfl) (by kernel_rfl) (fun _ _ d _ _ h => by cases d <;> exact h) (by simp only [Ord.map, nthOp, List.append]; rfl) ?_
      intro d0
      repeat (refine turn_read (by rfl) (fun K hK => ?_); go_big_quiet_op; refine hK _ ?_; clear hK K)
      have hx0 : Ext W (Go.Proofs.Ythamfkbopjagdaa.grow W d0) := Ext.grow (Ext.refl _) d0
      have HM2 := hid (HM1.out.ext hx0)
      have HO2 := hid (HO1.out.transExt hx0)
      have hbW2 := Nat.lt_of_lt_of_le hbW hx0.size
      obtain ⟨cnt, hcnt⟩ : ∃ c, Nat.min (l.length - d) (16 - off) = c := ⟨_, rfl⟩
      have hcnt0 : 0 < cnt := by rw [← hcnt]; exact Nat.lt_min.2 ⟨by omega, by omega⟩
      have hcnt1 : cnt ≤ l.length - d := by rw [← hcnt]; exact Nat.min_le_left _ _
      have hcnt2 : cnt ≤ 16 - off := by rw [← hcnt]; exact Nat.min_le_right _ _
      obtain ⟨ls, hls⟩ : ∃ x, (l.drop d).take cnt = x := ⟨_, rfl⟩
      have hlsl : ls.length = cnt := by rw [← hls, List.length_take, List.length_drop]; omega
      have hlsat : ∀ j, j < cnt → ls.getD j 0 = l.getD (d + j) 0 := fun j hj => by
        rw [← hls, List.getD_eq_getElem?_getD, List.getD_eq_getElem?_getD, List.getElem?_take, if_pos hj, List.getElem?_drop]
      have hlsb : byteL ls := fun y hy => by rw [← hls] at hy; exact HL.out y (List.mem_of_mem_drop (List.mem_of_mem_take hy))
      have hxo : 16 * i + off + ls.length ≤ 256 := by omega
      have HM3 := hid (HM2.out.lay hpn ls hlsb hxo)
      have HM4 : Hid (Mm ((Go.Proofs.Ythamfkbopjagdaa.grow W d0).setCells g (p * 273 + i * 16 + off) (bvals ls)) q g n (putB B a (l.take (d + cnt))) (clrT T a (d + cnt)) D) := hid (by
        have h3 := HM3.out
        have ht := clrT_step T (a := a) (d := d) (c := cnt) (t0 := 16 * p + i) hcnt0 (by have := HE.out; omega) (by have := HE.out; omega) (by rcases HB.out with c | c | c; exact .inl c; omega; exact .inr c)
        have hb2 : putB (putB B a (l.take d)) (256 * p + (16 * i + off)) ls = putB B a (l.take (d + cnt)) := by
          have e1 : (l.take d).length = d := by rw [List.length_take]; omega
          have e2 := putB_two B a (l.take d) ls
          rw [e1, HE.out] at e2
          rw [← Nat.add_assoc, e2, ← hls, List.take_add]
        rw [hb2, ht] at h3
        rwa [show p * 273 + i * 16 + off = p * 273 + (16 * i + off) by omega])
      have hcopy : (Builtin.copy_ #[39, 39] 3 #[.slice (some ⟨g, p * 273 + i * 16 + off, none⟩) (16 - off) (16 - off), .slice (some ⟨b, ob + d, none⟩) (l.length - d) (ca - d)]).run Try.prog (Go.Proofs.Ythamfkbopjagdaa.grow W d0) = .ok (goInt cnt) ((Go.Proofs.Ythamfkbopjagdaa.grow W d0).setCells g (p * 273 + i * 16 + off) (bvals ls)) := by
        have := run_copy_cells (P := Try.prog) (Go.Proofs.Ythamfkbopjagdaa.grow W d0) 39 39 3 5 g (p * 273 + i * 16 + off) (16 - off) (16 - off) ⟨b, ob + d, none⟩ (l.length - d) (ca - d) (bvals ls) Try.underlying39 (by kernel_rfl) (by rw [bvals_length, hlsl, hcnt]) (fun j v hj => by
          have hjl : j < cnt := by have := (List.getElem?_eq_some_iff.1 hj).1; rw [bvals_length, hlsl] at this; exact this
          rw [bvals_at _ _ (by omega), hlsat j hjl] at hj
          rw [Addr.add_lit, hx0.cells b _ hbW, ← Option.some.inj hj]
          have h1 := hc0 (d + j) (by omega)
          rw [Nat.add_assoc, HBW.out _, h1, List.getD_eq_getElem?_getD, List.getElem?_eq_getElem (by omega)]
          rfl) (fun j hj => by
          rw [bvals_length] at hj
          rw [show p * 273 + i * 16 + off + j = p * 273 + (16 * i + off + j) by omega, HM2.out.by_ p (16 * i + off + j) hpn (by omega)]
          rfl) (fun j hj => HM2.out.fz _) (bvals_one ls)
        rwa [bvals_length, hlsl] at this
      have HO4 : Hid (Only (· = g) (Go.Proofs.Ythamfkbopjagdaa.grow W d0) ((Go.Proofs.Ythamfkbopjagdaa.grow W d0).setCells g (p * 273 + i * 16 + off) (bvals ls))) := hid (Only.setCells (S := (· = g)) (.inl rfl) _ _ (Only.refl _ _))
      refine turn_act (by rfl) (fun K hK => ?_)
      refine Lib.wp_copy_run _ _ _ 39 39 rfl _ _ rfl rfl hcopy ?_
      refine hK _ _ ⟨_, Only.refl _ _, HO4.out, ?_⟩
      clear hK K
      simp only [Act.put, List.setIfInBounds_toArray, List.set_cons_zero, List.set_cons_succ, goInt_nat]
      have HO5 := hid (HO2.out.trans' HO4.out)
      have HB5 : Hid (d + cnt = 0 ∨ d + cnt = l.length ∨ (a + (d + cnt)) % 16 = 0) := hid (by
        rcases (show cnt = l.length - d ∨ cnt = 16 - off by rw [← hcnt]; rcases Nat.le_total (l.length - d) (16 - off) with c | c; exact .inl (Nat.min_eq_left c); exact .inr (Nat.min_eq_right c)) with c | c
        · exact .inr (.inl (by omega))
        · refine .inr (.inr ?_)
          have := HE.out
          omega)
      have hcb : (cnt : Int) ≤ 16 := by omega
      have hdb : (d : Int) ≤ 16777216 := by omega
      clear HM1 HM2 HM3 HO1 HO2 HO4 hcopy hx0 hcnt hls hlsl hlsat hlsb hxo
      generalize (Go.Proofs.Ythamfkbopjagdaa.grow W d0).setCells g (p * 273 + i * 16 + off) (bvals ls) = W9 at HM4 HO5 ⊢
      repeat (refine turn_read (by rfl) (fun K hK => ?_); go_big_quiet_op; refine hK _ ?_; clear hK K)
      refine turn_nil ?_
      go_wp2
      go_roundw
      case rel => exact ⟨d + cnt, by omega, by go_num, HM4, HO5, HB5⟩
      case measure => simp [intOf]; omega
    · obtain rfl : d = l.length := by omega
      have hd1 : ¬ (l.length : Int) < (l.length : Int) := by omega
      go_wp2
      go_ret
      exact ⟨rfl, by have := HM.out; rw [List.take_length] at this; exact hid this, HO⟩
end Go.Proofs.Ythamfkbopjagdaa

namespace Go.Proofs.Ythamfkbopjagdaa
set_option maxRecDepth 100000
set_option linter.unusedSimpArgs false
set_option linter.unusedVariables false
open Go.RowKit

/-- A row of bytes, as numbers tell them. -/
structure Buf (w : World) (qb m : Nat) (f : Nat → Int) : Prop where
  lt : qb < w.heap.size
  at_ : ∀ j, j < m → w.cell? ⟨qb, j, none⟩ = some (.int .u8 (f j))
  fz : ∀ x, w.frozen? ⟨qb, x, none⟩ = false
theorem Buf.only {S : Nat → Prop} {w w' : World} {qb m : Nat} {f : Nat → Int} (h : Buf w qb m f) (x : Only S w w') (hs : ¬ S qb) : Buf w' qb m f :=
  ⟨Nat.lt_of_lt_of_le h.lt x.size, fun j hj => (x.cells qb _ h.lt hs).trans (h.at_ j hj), fun y => (x.frozens qb _ h.lt hs).trans (h.fz y)⟩
theorem Buf.ext {w w' : World} {qb m : Nat} {f : Nat → Int} (h : Buf w qb m f) (x : Ext w w') : Buf w' qb m f := h.only (Only.ofExt (S := fun _ => False) x) id
theorem Buf.congr {w : World} {qb m : Nat} {f f' : Nat → Int} (h : Buf w qb m f) (e : ∀ j, j < m → f' j = f j) : Buf w qb m f' := ⟨h.lt, fun j hj => by rw [e j hj]; exact h.at_ j hj, h.fz⟩
theorem Buf.lay {w : World} {qb m : Nat} {f : Nat → Int} (h : Buf w qb m f) (d : Nat) (ls : List Int) (hd : d + ls.length ≤ m) : Buf (w.setCells qb d (bvals ls)) qb m (fun j => if d ≤ j ∧ j < d + ls.length then ls.getD (j - d) 0 else f j) := by
  have hcs : ∀ j, j < (bvals ls).length → (w.cell? ⟨qb, d + j, none⟩).isSome = true := fun j hj => by
    rw [bvals_length] at hj
    rw [h.at_ (d + j) (by omega)]
    rfl
  refine ⟨by rw [size_setCells]; exact h.lt, fun j hj => ?_, fun y => by rw [frozen_setCells]; exact h.fz y⟩
  rw [cell_setCells qb (bvals ls) d w qb j hcs, bvals_length]
  by_cases c : d ≤ j ∧ j < d + ls.length
  · rw [if_pos ⟨rfl, c.1, c.2⟩, if_pos c, bvals_at _ _ (by omega)]
  · rw [if_neg (fun e => c e.2), if_neg c]
    exact h.at_ j hj
/-- The bytes from somewhere on. -/
def bytesAt (B : Nat → Int) (a m : Nat) : List Int := (List.range m).map fun j => B (a + j)
theorem bytesAt_length (B : Nat → Int) (a m : Nat) : (bytesAt B a m).length = m := by simp [bytesAt]
theorem bytesAt_get (B : Nat → Int) (a m j : Nat) (h : j < (bytesAt B a m).length) : (bytesAt B a m)[j] = B (a + j) := by simp [bytesAt]
theorem bytesAt_byteL {B : Nat → Int} (h : ∀ y, 0 ≤ B y ∧ B y ≤ 255) (a m : Nat) : byteL (bytesAt B a m) := fun y hy => by
  obtain ⟨j, _, rfl⟩ := List.mem_map.1 hy
  exact h _
theorem made_bytes {w : World} {base g m : Nat} (h : w.ownsRow base 5 1 (.slice (some ⟨g, 0, none⟩) m m) m (madeCells #[Value.int .u8 0] m).toList) : Buf w g m (fun _ => 0) := by
  rcases h.2 with ⟨h0, _⟩ | ⟨g', cap, cur, hv, _, hg, _, _, hs, ht⟩
  · injection h0 with e; cases e
  · injection hv with e1 e2 e3
    injection e1 with e1
    injection e1 with e1
    subst e1
    refine ⟨(Array.getElem?_eq_some_iff.1 hg).1, fun k hk => ?_, fun x => by simp [World.frozen?, hg]⟩
    rw [h.cellAt k (by omega)]
    rw [toList_madeCells_one]
    simp [hk]
set_option maxRecDepth 100000 in
set_option maxHeartbeats 4000000 in
theorem tload_no (q g n : Nat) (B : Nat → Int) (T D : Nat → Bool) (w : World) (h : Mm w q g n B T D) (x k : Int) (hc : ¬ spanP n x k) : Calls Try.prog 44 #[.pointer (some ⟨q, 0, none⟩), .int .i64 x, .int .i64 k] w fun e w' => e = .returned (.tuple #[.slice none 0 0, .bool false]) ∧ w = w' := by
  have HH := hid h
  have HC := hid hc
  clear h hc
  go_enter Try.func44, Try.ntmps44
  go_wp2_with (go_at_call 47; refine (tspans_no q g n B T D _ HH.out x k HC.out).mono ?_; rintro e w1 ⟨rfl, rfl⟩)
  refine bodyPost_ret (v := .tuple #[.slice none 0 0, .bool false]) (by simp [results, Try.results44, go_sem]) rfl ?_
  exact ⟨rfl, rfl⟩
set_option maxRecDepth 100000 in
set_option maxHeartbeats 4000000 in
theorem tload_yes (q g n : Nat) (B : Nat → Int) (T D : Nat → Bool) (w : World) (h : Mm w q g n B T D) (a m : Nat) (hfit : a + m ≤ 256 * n) : Calls Try.prog 44 #[.pointer (some ⟨q, 0, none⟩), .int .i64 (a : Int), .int .i64 (m : Int)] w fun e w' => ∃ qb, e = .returned (.tuple #[.slice (some ⟨qb, 0, none⟩) m m, .bool true]) ∧ Hid (RdB w' (some ⟨qb, 0, none⟩) (bytesAt B a m)) ∧ Hid (Ext w w') ∧ Hid (w.heap.size ≤ qb ∧ qb < w'.heap.size) := by
  obtain ⟨i0, hi0, hz0, hz1, hz2⟩ := info_parts info_u8
  have HS : Hid (spanP n (a : Int) (m : Int)) := hid ⟨by omega, by omega, by omega, by omega⟩
  have HH := hid h
  have hbd := h.bd
  clear h
  have hm0 : (0 : Int) ≤ (m : Int) := by omega
  go_enter Try.func44, Try.ntmps44
  go_upto_region 4 with (first | (go_at_call 47; refine (tspans_yes q g n B T D _ HH.out (a : Int) (m : Int) HS.out.1 HS.out.2.1 HS.out.2.2.1 HS.out.2.2.2).mono ?_; rintro e w1 ⟨rfl, rfl⟩) | (at_make; refine wpList_make_full _ rfl _ _ 39 rfl w.heap.size 5 i0 _ 1 Try.underlying39 hi0 hz0 hz1 .i64 .i64 _ _ m rfl rfl rfl rfl (by rw [hz2]; omega) (by unfold maxLen; omega) (Nat.le_refl _) ?_; intro w2 hown hg))
  have hx1 : Ext w w2 := ⟨hg.os, hg.tape, hg.output, hg.size, fun k hk => hg.block k hk (by simp)⟩
  rw [Nat.mul_one] at hown
  have HBF := hid (made_bytes hown)
  have HE2 := hid hx1
  have HM2 := hid (HH.out.ext hx1)
  have hqw : w.heap.size ≤ w.heap.size := Nat.le_refl _
  have HQB : Hid (∃ qb, w.heap.size = qb) := hid ⟨_, rfl⟩
  clear hown hg hx1
  obtain ⟨qb, hqb⟩ := HQB.out
  rw [hqb] at HBF ⊢
  have hqg : ¬ qb = g := by have := HH.out.ltg; omega
  have hgq : ¬ g = qb := fun e => hqg e.symm
  have HQ9 := hid hqb
  clear hqw HQB hqb
  go_wp2
  go_loopw [9] (fun i wr => ∃ d : Nat, d ≤ m ∧ i = .int .i64 d ∧ Hid (Mm wr q g n B T D) ∧ Hid (Buf wr qb m (fun j => if j < d then B (a + j) else 0)) ∧ Hid (Ext w wr)) (fun i _ => m - (intOf i).toNat)
  case atStart => exact ⟨0, Nat.zero_le _, rfl, HM2, hid (HBF.out.congr (fun j _ => by rw [if_neg (by omega)])), HE2⟩
  case round =>
    clear HM2 HBF HE2
    obtain ⟨d, hd, rfl, HM, HBF, HE⟩ := hrel
    have hd0 : (0 : Int) ≤ (d : Int) := by omega
    by_cases hlt : d < m
    · have hd1 : (d : Int) < (m : Int) := by omega
      obtain ⟨p, hp⟩ : ∃ p, (a + d) / 256 = p := ⟨_, rfl⟩
      obtain ⟨i, hi⟩ : ∃ i, (a + d) % 256 / 16 = i := ⟨_, rfl⟩
      obtain ⟨off, hoff⟩ : ∃ off, (a + d) % 16 = off := ⟨_, rfl⟩
      have hpn : p < n := by omega
      have hi16 : i < 16 := by omega
      have ho16 : off < 16 := by omega
      have HP : Hid (((a : Int) + (d : Int)) / 256 = (p : Int)) := hid (by omega)
      have HI : Hid (((a : Int) + (d : Int)) % 256 / 16 = (i : Int)) := hid (by omega)
      have HX : Hid (a + d = 256 * p + 16 * i + off) := hid (by omega)
      have HOF : Hid (((a : Int) + (d : Int)) % 16 = (off : Int)) := hid (by omega)
      clear hp hi hoff
      have hi0 : (0 : Int) ≤ (i : Int) := by omega
      have hi1 : (i : Int) < 16 := by omega
      go_upto_region 7 with (go_at_call 48; refine (tplace_ q g n _ _ _ _ HM.out ((a : Int) + (d : Int)) p i (by omega) HP.out HI.out hpn).mono ?_; rintro e w1 ⟨rfl, rfl⟩)
      have hof := HOF.out
      have ho0 : (0 : Int) ≤ (off : Int) := by omega
      have ho1 : (off : Int) ≤ 16 := by omega
      have hdl : (d : Int) ≤ (m : Int) := by omega
      have hdc : ¬ (m : Int) = (d : Int) := by omega
      have hdcn : ¬ m = d := by omega
      have hocn : ¬ 16 = off := by omega
      have hoci : ¬ (16 : Int) = (off : Int) := by omega
      refine wp_region_turn (q := qb) (.rd 0 (.rd 1 (.rd 2 (.rd 3 (.rd 4 (.rd 5 (.rd 6 (.rd 7 (.rd 8 (.rd 9 (.rd 10 (.rd 11 (.rd 12 (.rd 13 (.ac 14 (.rd 15 (.rd 16 .done))))))))))))))))) (by kernel_rfl) (by kernel_rfl) (fun _ _ d _ _ h => by cases d <;> exact h) (by simp only [Ord.map, nthOp, List.append]; rfl) ?_
      intro d0
      repeat (refine turn_read (by rfl) (fun K hK => ?_); go_big_quiet_op; refine hK _ ?_; clear hK K)
      have hx0 : Ext wr (Go.Proofs.Ythamfkbopjagdaa.grow wr d0) := Ext.grow (Ext.refl _) d0
      have HM2 := hid (HM.out.ext hx0)
      have HB2 := hid (HBF.out.ext hx0)
      have HE2 := hid (HE.out.trans hx0)
      clear HM HBF HE hx0
      generalize Go.Proofs.Ythamfkbopjagdaa.grow wr d0 = W at HM2 HB2 HE2 ⊢
      obtain ⟨cnt, hcnt⟩ : ∃ c, Nat.min (16 - off) (m - d) = c := ⟨_, rfl⟩
      have hcnt0 : 0 < cnt := by rw [← hcnt]; exact Nat.lt_min.2 ⟨by omega, by omega⟩
      have hcnt1 : cnt ≤ m - d := by rw [← hcnt]; exact Nat.min_le_right _ _
      have hcnt2 : cnt ≤ 16 - off := by rw [← hcnt]; exact Nat.min_le_left _ _
      obtain ⟨ls, hls⟩ : ∃ x, bytesAt B (a + d) cnt = x := ⟨_, rfl⟩
      have hlsl : ls.length = cnt := by rw [← hls, bytesAt_length]
      have hlsat : ∀ j, j < cnt → ls.getD j 0 = B (a + d + j) := fun j hj => by
        rw [← hls, List.getD_eq_getElem?_getD, List.getElem?_eq_getElem (by rw [bytesAt_length]; exact hj), Option.getD_some, bytesAt_get]
      have HB3 := hid ((HB2.out.lay d ls (by omega)).congr (f' := fun j => if j < d + cnt then B (a + j) else 0) (fun j hj => by
        by_cases c : d ≤ j ∧ j < d + ls.length
        · rw [if_pos c, if_pos (by omega), hlsat _ (by omega)]
          congr 1
          omega
        · rw [if_neg c]
          by_cases c2 : j < d
          · rw [if_pos c2, if_pos (by omega)]
          · rw [if_neg c2, if_neg (by omega)]))
      have hcopy : (Builtin.copy_ #[39, 39] 3 #[.slice (some ⟨qb, d, none⟩) (m - d) (m - d), .slice (some ⟨g, p * 273 + i * 16 + off, none⟩) (16 - off) (16 - off)]).run Try.prog W = .ok (goInt cnt) (W.setCells qb d (bvals ls)) := by
        have := run_copy_cells (P := Try.prog) W 39 39 3 5 qb d (m - d) (m - d) ⟨g, p * 273 + i * 16 + off, none⟩ (16 - off) (16 - off) (bvals ls) Try.underlying39 (by kernel_rfl) (by rw [bvals_length, hlsl, hcnt]) (fun j v hj => by
          have hjl : j < cnt := by have := (List.getElem?_eq_some_iff.1 hj).1; rw [bvals_length, hlsl] at this; exact this
          rw [bvals_at _ _ (by omega), hlsat j hjl] at hj
          rw [Addr.add_lit, ← Option.some.inj hj, show p * 273 + i * 16 + off + j = p * 273 + (16 * i + off + j) by omega, HM2.out.by_ p (16 * i + off + j) hpn (by omega)]
          have := HX.out
          rw [show a + d + j = 256 * p + (16 * i + off + j) by omega]) (fun j hj => by
          rw [bvals_length] at hj
          rw [HB2.out.at_ (d + j) (by omega)]
          rfl) (fun j hj => HB2.out.fz _) (bvals_one ls)
        rwa [bvals_length, hlsl] at this
      have HO4 : Hid (Only (· = qb) W (W.setCells qb d (bvals ls))) := hid (Only.setCells (S := (· = qb)) (.inl rfl) _ _ (Only.refl _ _))
      have HM4 := hid (HM2.out.only HO4.out (by have := HM2.out.ltq; have := HH.out.ltq; have := HQ9.out; omega) (fun e => hgq e))
      have HE4 := hid (Ext.only HE2.out HO4.out (by rintro i rfl; have := HQ9.out; omega))
      refine turn_act (by rfl) (fun K hK => ?_)
      refine Lib.wp_copy_run _ _ _ 39 39 rfl _ _ rfl rfl hcopy ?_
      refine hK _ _ ⟨_, Only.refl _ _, HO4.out, ?_⟩
      clear hK K
      simp only [Act.put, List.setIfInBounds_toArray, List.set_cons_zero, List.set_cons_succ, goInt_nat]
      have hcb : (cnt : Int) ≤ 16 := by omega
      have hdb : (d : Int) ≤ 16777216 := by omega
      clear HM2 HE2 HO4 hcopy hcnt hls hlsl hlsat HB2
      generalize W.setCells qb d (bvals ls) = W9 at HM4 HB3 HE4 ⊢
      repeat (refine turn_read (by rfl) (fun K hK => ?_); go_big_quiet_op; refine hK _ ?_; clear hK K)
      refine turn_nil ?_
      go_wp2
      go_roundw
      case rel => exact ⟨d + cnt, by omega, by go_num, HM4, HB3, HE4⟩
      case measure => simp [intOf]; omega
    · obtain rfl : d = m := by omega
      have hd1 : ¬ (d : Int) < (d : Int) := by omega
      go_wp2
      refine bodyPost_ret (v := .tuple #[.slice (some ⟨qb, 0, none⟩) d d, .bool true]) (by simp [results, Try.results44, go_sem]) rfl ?_
      exact ⟨qb, rfl, hid (fun _ => ⟨qb, 0, rfl, HBF.out.lt, fun j hj => by rw [bytesAt_length] at hj; rw [Nat.zero_add, HBF.out.at_ j hj, if_pos hj, bytesAt_get]⟩), HE, hid ⟨by have := HQ9.out; omega, HBF.out.lt⟩⟩
end Go.Proofs.Ythamfkbopjagdaa

namespace Go.Proofs.Ythamfkbopjagdaa
set_option maxRecDepth 100000
set_option linter.unusedSimpArgs false
set_option linter.unusedVariables false
open Go.RowKit

theorem only_ag (w : World) (A B : Obj) (d0 d5 : Delta) : Only (fun x => x = w.heap.size) (Go.Proofs.Ythamfkbopjagdaa.grow (w.alloc A) d0) (Go.Proofs.Ythamfkbopjagdaa.grow (Go.Proofs.Ythamfkbopjagdaa.grow (w.alloc B) d0) d5) := by
  refine ⟨rfl, rfl, rfl, by simp only [grow_size, World.size_alloc]; omega, fun k hk hs => ?_⟩
  have hk' : k < (Go.Proofs.Ythamfkbopjagdaa.grow (w.alloc B) d0).heap.size := by simpa only [grow_size, World.size_alloc] using hk
  rw [grow_old _ _ _ hk', grow_heap, grow_heap]
  simp only [World.size_alloc]
  split
  · rename_i h
    have : k < w.heap.size := by have := hs; omega
    rw [heap_alloc_old w B this, heap_alloc_old w A this]
  · rfl
set_option maxRecDepth 100000 in
set_option maxHeartbeats 4000000 in
theorem tget_ (b o ca : Nat) (L : List Int) (tag : Bool) (w : World) (hL : L.length = 16) (hl : byteL L) (hr : RdB w (some ⟨b, o, none⟩) L) (hca : 16 ≤ ca) (hcm : ca ≤ maxLen) : Calls Try.prog 61 #[.slice (some ⟨b, o, none⟩) 16 ca, .bool tag] w fun e w' => e = .returned (.tuple #[.agg #[.bool (getL L tag).tag, .int .i64 (getL L tag).base, .int .i64 (getL L tag).top, .int .i64 (getL L tag).at_, .int .i64 (getL L tag).perms, .int .i64 (getL L tag).type], .bool true]) ∧ Ext w w' := by
  obtain ⟨x0, x1, x2, x3, x4, x5, x6, x7, x8, x9, x10, x11, x12, x13, x14, x15, rfl⟩ := sixteen hL
  exact get_yes b o ca x0 x1 x2 x3 x4 x5 x6 x7 x8 x9 x10 x11 x12 x13 x14 x15 tag w hr hca hcm (hl x0 (by simp)).1 (hl x0 (by simp)).2 (hl x1 (by simp)).1 (hl x1 (by simp)).2 (hl x2 (by simp)).1 (hl x2 (by simp)).2 (hl x3 (by simp)).1 (hl x3 (by simp)).2 (hl x4 (by simp)).1 (hl x4 (by simp)).2 (hl x5 (by simp)).1 (hl x5 (by simp)).2 (hl x6 (by simp)).1 (hl x6 (by simp)).2 (hl x7 (by simp)).1 (hl x7 (by simp)).2 (hl x8 (by simp)).1 (hl x8 (by simp)).2 (hl x9 (by simp)).1 (hl x9 (by simp)).2 (hl x10 (by simp)).1 (hl x10 (by simp)).2 (hl x11 (by simp)).1 (hl x11 (by simp)).2 (hl x12 (by simp)).1 (hl x12 (by simp)).2 (hl x13 (by simp)).1 (hl x13 (by simp)).2 (hl x14 (by simp)).1 (hl x14 (by simp)).2 (hl x15 (by simp)).1 (hl x15 (by simp)).2
set_option maxRecDepth 100000 in
set_option maxHeartbeats 4000000 in
theorem tlc_no (q g n : Nat) (B : Nat → Int) (T D : Nat → Bool) (w : World) (h : Mm w q g n B T D) (x : Int) (hc : ¬ placeP n x) : Calls Try.prog 42 #[.pointer (some ⟨q, 0, none⟩), .int .i64 x] w fun e w' => e = .returned (.tuple #[.agg #[.bool false, .int .i64 0, .int .i64 0, .int .i64 0, .int .i64 0, .int .i64 0], .bool false]) ∧ Ext w w' := by
  have HH := hid h
  have HC := hid hc
  have hlq := h.ltq
  clear h hc
  go_enter Try.func42, Try.ntmps42
  go_wp2_with (go_at_call 49; refine (tbegins_no q g n B T D _ (HH.out.ext (by repeat (first | (with_reducible exact Ext.refl _) | (with_reducible refine Ext.undrew ?_) | (with_reducible refine Ext.grow ?_ _) | (with_reducible refine Ext.drew ?_) | (with_reducible refine Ext.drewN ?_ _) | (with_reducible refine Ext.alloc ?_ _) | (with_reducible assumption) | ((with_reducible refine Ext.setCell ?_ ?_ _); rotate_left; (first | exact Nat.le_refl _ | ((try dsimp only); (try simp only [World.size_alloc, grow_size, World.size_setCell]); omega)))))) x HC.out).mono ?_; rintro e w1 ⟨rfl, rfl⟩)
  refine bodyPost_ret (v := .tuple #[.agg #[.bool false, .int .i64 0, .int .i64 0, .int .i64 0, .int .i64 0, .int .i64 0], .bool false]) (by simp [results, Try.results42, go_sem]) rfl ?_
  exact ⟨rfl, (by repeat (first | (with_reducible exact Ext.refl _) | (with_reducible refine Ext.undrew ?_) | (with_reducible refine Ext.grow ?_ _) | (with_reducible refine Ext.drew ?_) | (with_reducible refine Ext.drewN ?_ _) | (with_reducible refine Ext.alloc ?_ _) | (with_reducible assumption) | ((with_reducible refine Ext.setCell ?_ ?_ _); rotate_left; (first | exact Nat.le_refl _ | ((try dsimp only); (try simp only [World.size_alloc, grow_size, World.size_setCell]); omega)))))⟩
set_option maxRecDepth 100000 in
set_option maxHeartbeats 4000000 in
theorem tlc_yes (q g n : Nat) (B : Nat → Int) (T D : Nat → Bool) (w : World) (h : Mm w q g n B T D) (x : Int) (p i : Nat) (hpn : p < n) (hi16 : i < 16) (hx : x = 256 * (p : Int) + 16 * (i : Int)) : Calls Try.prog 42 #[.pointer (some ⟨q, 0, none⟩), .int .i64 x] w fun e w' => e = .returned (.tuple #[.agg #[.bool (getL (bytesAt B (256 * p + 16 * i) 16) (T (16 * p + i))).tag, .int .i64 (getL (bytesAt B (256 * p + 16 * i) 16) (T (16 * p + i))).base, .int .i64 (getL (bytesAt B (256 * p + 16 * i) 16) (T (16 * p + i))).top, .int .i64 (getL (bytesAt B (256 * p + 16 * i) 16) (T (16 * p + i))).at_, .int .i64 (getL (bytesAt B (256 * p + 16 * i) 16) (T (16 * p + i))).perms, .int .i64 (getL (bytesAt B (256 * p + 16 * i) 16) (T (16 * p + i))).type], .bool true]) ∧ Ext w w' := by
  have HH := hid h
  have htg := h.tg p i hpn hi16
  have H0 : Hid (0 ≤ x) := hid (by omega)
  have HP : Hid (x / 256 = (p : Int)) := hid (by omega)
  have HI : Hid (x % 256 / 16 = (i : Int)) := hid (by omega)
  have HC : Hid (placeP n x) := hid ⟨by omega, by omega, by omega⟩
  have hi0 : (0 : Int) ≤ (i : Int) := by omega
  have hi1 : (i : Int) < 16 := by omega
  have hlg := h.ltg
  have hbd := h.bd
  have HR : Hid (RdB w (some ⟨g, p * 273 + i * 16, none⟩) (bytesAt B (256 * p + 16 * i) 16)) := hid (fun _ => ⟨g, p * 273 + i * 16, rfl, h.ltg, fun j hj => by
    rw [bytesAt_length] at hj
    rw [bytesAt_get, show p * 273 + i * 16 + j = p * 273 + (16 * i + j) by omega, h.by_ p (16 * i + j) hpn (by omega)]
    congr 3
    omega⟩)
  have HBL := hid (bytesAt_byteL h.rg (256 * p + 16 * i) 16)
  have HLE : Hid ((bytesAt B (256 * p + 16 * i) 16).length = 16) := hid (bytesAt_length _ _ _)
  clear h hx
  generalize bytesAt B (256 * p + 16 * i) 16 = L at HR HBL HLE ⊢
  generalize T (16 * p + i) = tg at htg ⊢
  go_enter Try.func42, Try.ntmps42
  go_upto_region 4 with (first | (go_at_call 49; refine (tbegins_yes q g n B T D _ (HH.out.ext (by repeat (first | (with_reducible exact Ext.refl _) | (with_reducible refine Ext.undrew ?_) | (with_reducible refine Ext.grow ?_ _) | (with_reducible refine Ext.drew ?_) | (with_reducible refine Ext.drewN ?_ _) | (with_reducible refine Ext.alloc ?_ _) | (with_reducible assumption) | ((with_reducible refine Ext.setCell ?_ ?_ _); rotate_left; (first | exact Nat.le_refl _ | ((try dsimp only); (try simp only [World.size_alloc, grow_size, World.size_setCell]); omega)))))) x HC.out).mono ?_; rintro e w1 ⟨rfl, rfl⟩) | (go_at_call 48; refine (tplace_ q g n B T D _ (HH.out.ext (by repeat (first | (with_reducible exact Ext.refl _) | (with_reducible refine Ext.undrew ?_) | (with_reducible refine Ext.grow ?_ _) | (with_reducible refine Ext.drew ?_) | (with_reducible refine Ext.drewN ?_ _) | (with_reducible refine Ext.alloc ?_ _) | (with_reducible assumption) | ((with_reducible refine Ext.setCell ?_ ?_ _); rotate_left; (first | exact Nat.le_refl _ | ((try dsimp only); (try simp only [World.size_alloc, grow_size, World.size_setCell]); omega)))))) x p i H0.out HP.out HI.out hpn).mono ?_; rintro e w1 ⟨rfl, rfl⟩))
  have hbq : ¬ g = w.heap.size := Nat.ne_of_lt hlg
  have HX : Hid (Ext w (w.alloc (.cells #[.bool false, .int .i64 0, .int .i64 0, .int .i64 0, .int .i64 0, .int .i64 0] 24))) := hid (Ext.alloc (Ext.refl _) _)
  have HR2 := hid (HR.out.ext HX.out)
  refine wp_region_turn (q := w.heap.size) (.rd 0 (.rd 1 (.rd 2 (.rd 3 (.rd 4 (.rd 5 (.rd 6 (.rd 7 (.rd 8 (.rd 9 (.rd 10 (.rd 11 (.ac 12 (.rd 13 (.rd 14 (.ac 15 (.rd 16 .done))))))))))))))))) (by kernel_rfl) (by kernel_rfl) (fun _ _ d _ _ h => by cases d <;> exact h) (by simp only [Ord.map, nthOp, List.append]; rfl) ?_
  intro d0
  repeat (refine turn_read (by rfl) (fun K hK => ?_); go_big_quiet_op; refine hK _ ?_; clear hK K)
  refine turn_act (by rfl) (fun K hK => ?_)
  go_wp2_with (go_at_call 61; refine (tget_ g (p * 273 + i * 16) 16 L tg _ HLE.out HBL.out (HR2.out.ext (Ext.grow (Ext.refl _) d0)) (Nat.le_refl _) (by unfold maxLen; omega)).mono ?_; rintro e w5 ⟨rfl, hx5⟩; obtain ⟨d5, rfl⟩ := hx5.grown)
  refine ⟨_, Only.refl _ _, Only.ofExt (Ext.grow (Ext.refl _) d5), ?_⟩
  repeat (refine turn_read (by rfl) (fun K hK => ?_); go_big_quiet_op; refine hK _ ?_; clear hK K)
  refine turn_act (by rfl) (fun K hK => ?_)
  go_wp2_with fail
  refine ⟨_, Only.refl _ _, only_ag w _ _ d0 d5, ?_⟩
  repeat (refine turn_read (by rfl) (fun K hK => ?_); go_big_quiet_op; refine hK _ ?_; clear hK K)
  refine turn_nil ?_
  go_wp2
  refine bodyPost_ret (v := .tuple #[.agg #[.bool (getL L tg).tag, .int .i64 (getL L tg).base, .int .i64 (getL L tg).top, .int .i64 (getL L tg).at_, .int .i64 (getL L tg).perms, .int .i64 (getL L tg).type], .bool true]) (by simp [results, Try.results42, go_sem]) rfl ?_
  exact ⟨rfl, (by repeat (first | (with_reducible exact Ext.refl _) | (with_reducible refine Ext.undrew ?_) | (with_reducible refine Ext.grow ?_ _) | (with_reducible refine Ext.drew ?_) | (with_reducible refine Ext.drewN ?_ _) | (with_reducible refine Ext.alloc ?_ _) | (with_reducible assumption) | ((with_reducible refine Ext.setCell ?_ ?_ _); rotate_left; (first | exact Nat.le_refl _ | ((try dsimp only); (try simp only [World.size_alloc, grow_size, World.size_setCell]); omega)))))⟩
end Go.Proofs.Ythamfkbopjagdaa

namespace Go.Proofs.Ythamfkbopjagdaa
set_option maxRecDepth 100000
set_option linter.unusedSimpArgs false
set_option linter.unusedVariables false
open Go.RowKit

theorem bytesC_byteL (c : Cap) : byteL (bytesC c) := fun y hy => by
  simp [bytesC, rowB, four] at hy
  omega
theorem no_u8 : True := trivial
set_option maxRecDepth 100000 in
set_option maxHeartbeats 4000000 in
theorem tsc_no1 (q g n : Nat) (B : Nat → Int) (T D : Nat → Bool) (w : World) (h : Mm w q g n B T D) (x : Int) (t : Bool) (b tp at_ pm ty : Int) (hc : ¬ placeP n x) : Calls Try.prog 18 #[.pointer (some ⟨q, 0, none⟩), .int .i64 x, .agg #[.bool t, .int .i64 b, .int .i64 tp, .int .i64 at_, .int .i64 pm, .int .i64 ty]] w fun e w' => e = .returned (.bool false) ∧ Ext w w' := by
  have HH := hid h
  have HC := hid hc
  clear h hc
  go_enter Try.func18, Try.ntmps18
  go_wp2_with (go_at_call 49; refine (tbegins_no q g n B T D _ (HH.out.ext (by repeat (first | (with_reducible exact Ext.refl _) | (with_reducible refine Ext.undrew ?_) | (with_reducible refine Ext.grow ?_ _) | (with_reducible refine Ext.drew ?_) | (with_reducible refine Ext.drewN ?_ _) | (with_reducible refine Ext.alloc ?_ _) | (with_reducible assumption) | ((with_reducible refine Ext.setCell ?_ ?_ _); rotate_left; (first | exact Nat.le_refl _ | ((try dsimp only); (try simp only [World.size_alloc, grow_size, World.size_setCell]); omega)))))) x HC.out).mono ?_; rintro e w1 ⟨rfl, rfl⟩)
  go_ret
  exact ⟨rfl, (by repeat (first | (with_reducible exact Ext.refl _) | (with_reducible refine Ext.undrew ?_) | (with_reducible refine Ext.grow ?_ _) | (with_reducible refine Ext.drew ?_) | (with_reducible refine Ext.drewN ?_ _) | (with_reducible refine Ext.alloc ?_ _) | (with_reducible assumption) | ((with_reducible refine Ext.setCell ?_ ?_ _); rotate_left; (first | exact Nat.le_refl _ | ((try dsimp only); (try simp only [World.size_alloc, grow_size, World.size_setCell]); omega)))))⟩
set_option maxRecDepth 100000 in
set_option maxHeartbeats 4000000 in
theorem tsc_no2 (q g n : Nat) (B : Nat → Int) (T D : Nat → Bool) (w : World) (h : Mm w q g n B T D) (x : Int) (t : Bool) (b tp at_ pm ty : Int) (hc : placeP n x) (hr : rightC ⟨t, b, tp, at_, pm, ty⟩ = false) : Calls Try.prog 18 #[.pointer (some ⟨q, 0, none⟩), .int .i64 x, .agg #[.bool t, .int .i64 b, .int .i64 tp, .int .i64 at_, .int .i64 pm, .int .i64 ty]] w fun e w' => e = .returned (.bool false) ∧ Ext w w' := by
  have HH := hid h
  have HC := hid hc
  have HRT := hid hr
  clear h hc hr
  go_enter Try.func18, Try.ntmps18
  go_wp2_with (first | (go_at_call 49; refine (tbegins_yes q g n B T D _ (HH.out.ext (by repeat (first | (with_reducible exact Ext.refl _) | (with_reducible refine Ext.undrew ?_) | (with_reducible refine Ext.grow ?_ _) | (with_reducible refine Ext.drew ?_) | (with_reducible refine Ext.drewN ?_ _) | (with_reducible refine Ext.alloc ?_ _) | (with_reducible assumption) | ((with_reducible refine Ext.setCell ?_ ?_ _); rotate_left; (first | exact Nat.le_refl _ | ((try dsimp only); (try simp only [World.size_alloc, grow_size, World.size_setCell]); omega)))))) x HC.out).mono ?_; rintro e w1 ⟨rfl, rfl⟩) | (go_at_call 50; refine (capRight t b tp at_ pm ty _).mono ?_; rw [HRT.out]; rintro e w2 ⟨rfl, hy⟩; obtain ⟨d, rfl⟩ := hy.grown; clear hy))
  go_ret
  exact ⟨rfl, (by repeat (first | (with_reducible exact Ext.refl _) | (with_reducible refine Ext.undrew ?_) | (with_reducible refine Ext.grow ?_ _) | (with_reducible refine Ext.drew ?_) | (with_reducible refine Ext.drewN ?_ _) | (with_reducible refine Ext.alloc ?_ _) | (with_reducible assumption) | ((with_reducible refine Ext.setCell ?_ ?_ _); rotate_left; (first | exact Nat.le_refl _ | ((try dsimp only); (try simp only [World.size_alloc, grow_size, World.size_setCell]); omega)))))⟩
set_option maxRecDepth 100000 in
set_option maxHeartbeats 4000000 in
theorem tsc_yes (q g n : Nat) (B : Nat → Int) (T D : Nat → Bool) (w : World) (h : Mm w q g n B T D) (x : Int) (p i : Nat) (hpn : p < n) (hi16 : i < 16) (hx : x = 256 * (p : Int) + 16 * (i : Int)) (t : Bool) (b tp at_ pm ty : Int) (hr : rightC ⟨t, b, tp, at_, pm, ty⟩ = true) : Calls Try.prog 18 #[.pointer (some ⟨q, 0, none⟩), .int .i64 x, .agg #[.bool t, .int .i64 b, .int .i64 tp, .int .i64 at_, .int .i64 pm, .int .i64 ty]] w fun e w' => e = .returned (.bool true) ∧ Hid (Mm w' q g n (putB B (256 * p + 16 * i) (bytesC ⟨t, b, tp, at_, pm, ty⟩)) (upd1 T (16 * p + i) t) (upd1 D p (D p || t))) ∧ Hid (Only (· = g) w w') := by
  have HH := hid h
  have H0 : Hid (0 ≤ x) := hid (by omega)
  have HP : Hid (x / 256 = (p : Int)) := hid (by omega)
  have HI : Hid (x % 256 / 16 = (i : Int)) := hid (by omega)
  have HC : Hid (placeP n x) := hid ⟨by omega, by omega, by omega⟩
  have hi0 : (0 : Int) ≤ (i : Int) := by omega
  have hi1 : (i : Int) < 16 := by omega
  have hlg := h.ltg
  have hbd := h.bd
  have HRT := hid hr
  clear h hx hr
  go_enter Try.func18, Try.ntmps18
  go_upto_region 4 with (first | (go_at_call 49; refine (tbegins_yes q g n B T D _ (HH.out.ext (by repeat (first | (with_reducible exact Ext.refl _) | (with_reducible refine Ext.undrew ?_) | (with_reducible refine Ext.grow ?_ _) | (with_reducible refine Ext.drew ?_) | (with_reducible refine Ext.drewN ?_ _) | (with_reducible refine Ext.alloc ?_ _) | (with_reducible assumption) | ((with_reducible refine Ext.setCell ?_ ?_ _); rotate_left; (first | exact Nat.le_refl _ | ((try dsimp only); (try simp only [World.size_alloc, grow_size, World.size_setCell]); omega)))))) x HC.out).mono ?_; rintro e w1 ⟨rfl, rfl⟩) | (go_at_call 50; refine (capRight t b tp at_ pm ty _).mono ?_; rw [HRT.out]; rintro e w2 ⟨rfl, hy⟩; obtain ⟨d, rfl⟩ := hy.grown; clear hy) | (go_at_call 48; refine (tplace_ q g n B T D _ (HH.out.ext (by repeat (first | (with_reducible exact Ext.refl _) | (with_reducible refine Ext.undrew ?_) | (with_reducible refine Ext.grow ?_ _) | (with_reducible refine Ext.drew ?_) | (with_reducible refine Ext.drewN ?_ _) | (with_reducible refine Ext.alloc ?_ _) | (with_reducible assumption) | ((with_reducible refine Ext.setCell ?_ ?_ _); rotate_left; (first | exact Nat.le_refl _ | ((try dsimp only); (try simp only [World.size_alloc, grow_size, World.size_setCell]); omega)))))) x p i H0.out HP.out HI.out hpn).mono ?_; rintro e w1 ⟨rfl, rfl⟩))
  have hbq : ¬ w.heap.size = g := by omega
  have HX1 : Hid (Ext w (Go.Proofs.Ythamfkbopjagdaa.grow (w.alloc (.cells #[.bool t, .int .i64 b, .int .i64 tp, .int .i64 at_, .int .i64 pm, .int .i64 ty] 24)) d)) := hid (by repeat (first | (with_reducible exact Ext.refl _) | (with_reducible refine Ext.undrew ?_) | (with_reducible refine Ext.grow ?_ _) | (with_reducible refine Ext.drew ?_) | (with_reducible refine Ext.drewN ?_ _) | (with_reducible refine Ext.alloc ?_ _) | (with_reducible assumption) | ((with_reducible refine Ext.setCell ?_ ?_ _); rotate_left; (first | exact Nat.le_refl _ | ((try dsimp only); (try simp only [World.size_alloc, grow_size, World.size_setCell]); omega)))))
  have HROW : Hid (Row (Go.Proofs.Ythamfkbopjagdaa.grow (w.alloc (.cells #[.bool t, .int .i64 b, .int .i64 tp, .int .i64 at_, .int .i64 pm, .int .i64 ty] 24)) d) w.heap.size 0 [.bool t, .int .i64 b, .int .i64 tp, .int .i64 at_, .int .i64 pm, .int .i64 ty]) := hid ((⟨by simp, fun j v hj => by simp [go_sem]; simpa using hj, fun j hj => by simp [go_sem]⟩ : Row (w.alloc (.cells #[.bool t, .int .i64 b, .int .i64 tp, .int .i64 at_, .int .i64 pm, .int .i64 ty] 24)) w.heap.size 0 [.bool t, .int .i64 b, .int .i64 tp, .int .i64 at_, .int .i64 pm, .int .i64 ty]).ext (Ext.grow (Ext.refl _) d))
  generalize Go.Proofs.Ythamfkbopjagdaa.grow (w.alloc (.cells #[.bool t, .int .i64 b, .int .i64 tp, .int .i64 at_, .int .i64 pm, .int .i64 ty] 24)) d = W1 at HX1 HROW ⊢
  obtain ⟨qc, hqc⟩ : ∃ x, w.heap.size = x := ⟨_, rfl⟩
  rw [hqc] at hbq HROW ⊢
  have HQC := hid hqc
  have hqcl := HROW.out.lt
  clear hqc
  have ct0 : W1.cell? ⟨qc, 0, none⟩ = some (.bool t) := HROW.out.range 0 _ rfl
  have ct1 : W1.cell? ⟨qc, 1, none⟩ = some (.int .i64 b) := HROW.out.range 1 _ rfl
  have ct2 : W1.cell? ⟨qc, 2, none⟩ = some (.int .i64 tp) := HROW.out.range 2 _ rfl
  have ct3 : W1.cell? ⟨qc, 3, none⟩ = some (.int .i64 at_) := HROW.out.range 3 _ rfl
  have ct4 : W1.cell? ⟨qc, 4, none⟩ = some (.int .i64 pm) := HROW.out.range 4 _ rfl
  have ct5 : W1.cell? ⟨qc, 5, none⟩ = some (.int .i64 ty) := HROW.out.range 5 _ rfl
  have HM1 := hid (HH.out.ext HX1.out)
  refine wp_region_turn (q := g) (.rd 0 (.rd 1 (.rd 2 (.rd 3 (.rd 4 (.rd 5 (.rd 6 (.ac 7 (.ac 8 .done))))))))) (by kernel_rfl) (by kernel_rfl) (fun _ _ d _ _ h => by cases d <;> exact h) (by simp only [Ord.map, nthOp, List.append]; rfl) ?_
  intro d0
  repeat (refine turn_read (by rfl) (fun K hK => ?_); go_big_quiet_op; refine hK _ ?_; clear hK K)
  refine turn_act (by rfl) (fun K hK => ?_)
  go_wp2_with (go_at_call 51; refine (put_yes t b tp at_ pm ty _ HRT.out).mono ?_; rintro e w5 ⟨qq, ca, rfl, hca, hcm, hqq, hR5, hx5⟩)
  refine ⟨_, Only.refl _ _, Only.ofExt hx5, ?_⟩
  have hx05 : Ext W1 w5 := (Ext.grow (Ext.refl _) d0).trans hx5
  have HM5 := hid (HM1.out.ext hx05)
  have hcopy : (Builtin.copy_ #[39, 39] 3 #[.slice (some ⟨g, p * 273 + i * 16, none⟩) 16 16, .slice (some ⟨qq, 0, none⟩) 16 ca]).run Try.prog w5 = .ok (goInt 16) (w5.setCells g (p * 273 + i * 16) (bvals (bytesC ⟨t, b, tp, at_, pm, ty⟩))) := by
    obtain ⟨b', o', hA, hb', hc'⟩ := hR5 (by rw [bytesC_length]; decide)
    obtain ⟨rfl, rfl⟩ : qq = b' ∧ 0 = o' := by simpa using hA
    have := run_copy_cells (P := Try.prog) w5 39 39 3 5 g (p * 273 + i * 16) 16 16 ⟨qq, 0, none⟩ 16 ca (bvals (bytesC ⟨t, b, tp, at_, pm, ty⟩)) Try.underlying39 (by kernel_rfl) (by rw [bvals_length, bytesC_length]; rfl) (fun j v hj => by
      have hjl : j < (bytesC ⟨t, b, tp, at_, pm, ty⟩).length := by have := (List.getElem?_eq_some_iff.1 hj).1; rwa [bvals_length] at this
      rw [Addr.add_lit, hc' j hjl]
      rw [bvals_at _ _ hjl, List.getD_eq_getElem?_getD, List.getElem?_eq_getElem hjl] at hj
      exact hj) (fun j hj => by
      rw [bvals_length, bytesC_length] at hj
      rw [show p * 273 + i * 16 + j = p * 273 + (16 * i + j) by omega, HM5.out.by_ p (16 * i + j) hpn (by omega)]
      rfl) (fun j hj => HM5.out.fz _) (bvals_one _)
    rwa [bvals_length, bytesC_length] at this
  have HO6 : Hid (Only (· = g) w5 (w5.setCells g (p * 273 + i * 16) (bvals (bytesC ⟨t, b, tp, at_, pm, ty⟩)))) := hid (Only.setCells (S := (· = g)) (.inl rfl) _ _ (Only.refl _ _))
  have HM6 : Hid (Mm (w5.setCells g (p * 273 + i * 16) (bvals (bytesC ⟨t, b, tp, at_, pm, ty⟩))) q g n (putB B (256 * p + 16 * i) (bytesC ⟨t, b, tp, at_, pm, ty⟩)) T D) := hid (by
    have := HM5.out.lay hpn (x := 16 * i) (bytesC ⟨t, b, tp, at_, pm, ty⟩) (bytesC_byteL _) (by rw [bytesC_length]; omega)
    rw [show p * 273 + i * 16 = p * 273 + 16 * i by omega]
    exact this)
  have HO7 := hid ((Only.ofExt (S := (· = g)) (HX1.out.trans hx05)).trans' HO6.out)
  have hO16 : Only (· = g) W1 (w5.setCells g (p * 273 + i * 16) (bvals (bytesC ⟨t, b, tp, at_, pm, ty⟩))) := (Only.ofExt hx05).trans' HO6.out
  refine turn_act (by rfl) (fun K hK => ?_)
  refine Lib.wp_copy_run _ _ _ 39 39 rfl _ _ rfl rfl hcopy ?_
  refine hK _ _ ⟨_, Only.refl _ _, (Only.ofExt hx5).trans' HO6.out, ?_⟩
  clear hK K
  simp only [Act.put, List.setIfInBounds_toArray, List.set_cons_zero, List.set_cons_succ]
  repeat (refine turn_read (by rfl) (fun K hK => ?_); go_big_quiet_op; refine hK _ ?_; clear hK K)
  refine turn_nil ?_
  have ct0' := (hO16.cells qc 0 hqcl hbq).trans ct0
  have hqcl' := Nat.lt_of_lt_of_le hqcl hO16.size
  clear ct0 ct1 ct2 ct3 ct4 ct5 HROW HX1 HM1 HM5 HO6 hcopy hO16 hR5 hx5 hx05 hqcl
  generalize w5.setCells g (p * 273 + i * 16) (bvals (bytesC ⟨t, b, tp, at_, pm, ty⟩)) = W6 at HM6 HO7 ct0' hqcl' ⊢
  have htg := HM6.out.tg p i hpn hi16
  have hfz := HM6.out.fz (p * 273 + 256 + i)
  have hlg6 := HM6.out.ltg
  go_upto_region 5 with (fail)
  refine wp_region_turn (q := g) (.rd 0 (.rd 1 (.rd 2 (.rd 3 (.rd 4 (.rd 5 (.rd 6 (.ac 7 .done)))))))) (by kernel_rfl) (by kernel_rfl) (fun _ _ d _ _ h => by cases d <;> exact h) (by simp only [Ord.map, nthOp, List.append]; rfl) ?_
  intro d1
  repeat (refine turn_read (by rfl) (fun K hK => ?_); go_big_quiet_op; refine hK _ ?_; clear hK K)
  have hx7 : Ext W6 (Go.Proofs.Ythamfkbopjagdaa.grow W6 d1) := Ext.grow (Ext.refl _) d1
  have HM7 := hid ((HM6.out.ext hx7).retag hpn hi16 t)
  have HO8 := hid (HO7.out.transExt hx7)
  have ct1' := (hx7.cells qc 0 hqcl').trans ct0'
  have hdt := (HM6.out.ext hx7).dt p hpn
  have hfd := (HM6.out.ext hx7).fz (p * 273 + 272)
  replace htg := (HM6.out.ext hx7).tg p i hpn hi16
  replace hfz := (HM6.out.ext hx7).fz (p * 273 + 256 + i)
  clear HM6 HO7 ct0' hx7
  generalize Go.Proofs.Ythamfkbopjagdaa.grow W6 d1 = W7 at HM7 HO8 ct1' hdt hfd htg hfz ⊢
  have HS : Hid (Only (· = g) W7 (W7.setCell ⟨g, p * 273 + 256 + i, none⟩ (.bool t))) := hid (Only.setCell (S := (· = g)) (Only.refl _ _) (.inl rfl) _)
  have hdt2 : (W7.setCell ⟨g, p * 273 + 256 + i, none⟩ (.bool t)).cell? ⟨g, p * 273 + 272, none⟩ = some (.bool (D p)) := by rw [cell_setCell_far _ _ _ _ _ _ (by omega)]; exact hdt
  have hct2 : (W7.setCell ⟨g, p * 273 + 256 + i, none⟩ (.bool t)).cell? ⟨qc, 0, none⟩ = some (.bool t) := by rw [cell_setCell_far _ _ _ _ _ _ (fun e => hbq e.1)]; exact ct1'
  have hfd2 : (W7.setCell ⟨g, p * 273 + 256 + i, none⟩ (.bool t)).frozen? ⟨g, p * 273 + 272, none⟩ = false := by rw [World.frozen?_setCell]; exact hfd
  refine turn_act (by rfl) (fun K hK => ?_)
  go_wp2_with fail
  refine ⟨_, Only.refl _ _, HS.out, ?_⟩
  refine turn_nil ?_
  have HO9 := hid (HO8.out.trans' HS.out)
  clear HO8 HS htg hfz hdt hfd ct1'
  generalize W7.setCell ⟨g, p * 273 + 256 + i, none⟩ (.bool t) = W8 at HM7 HO9 hdt2 hct2 hfd2 ⊢
  cases hD : D p with
  | true =>
    rw [hD] at HM7 hdt2
    rw [Bool.true_or] at HM7
    have HOA : Hid (Only (· = g) w (W8.setCell ⟨g, p * 273 + 272, none⟩ (.bool true))) := hid (Only.setCell (S := (· = g)) HO9.out (.inl rfl) _)
    go_wp2
    go_ret
    exact ⟨rfl, by rw [hD, Bool.true_or]; exact HM7, HOA⟩
  | false =>
    rw [hD] at HM7 hdt2
    rw [Bool.false_or] at HM7
    have HOA : Hid (Only (· = g) w (W8.setCell ⟨g, p * 273 + 272, none⟩ (.bool t))) := hid (Only.setCell (S := (· = g)) HO9.out (.inl rfl) _)
    go_wp2
    go_ret
    exact ⟨rfl, by rw [hD, Bool.false_or]; exact HM7, HOA⟩
end Go.Proofs.Ythamfkbopjagdaa

namespace Go.Proofs.Ythamfkbopjagdaa
set_option maxRecDepth 100000
set_option linter.unusedSimpArgs false
set_option linter.unusedVariables false
open Go.RowKit

theorem info_bool : (Try.prog.info? 4).map (fun i => (i.zero, i.size, i.bytes)) = some (some (.bool false), 1, 1) := by kernel_rfl
theorem info_int : (Try.prog.info? 3).map (fun i => (i.zero, i.size, i.bytes)) = some (some (.int .i64 0), 1, 8) := by kernel_rfl
theorem cells_bool : Try.prog.cellsOf 4 = 1 := by kernel_rfl
/-- Is one of a page's granules tagged? -/
def anyB (b : Nat → Bool) : Bool := (List.range 16).any b
theorem eqIn_tags (b : Nat → Bool) (w : World) : (Op.equalIn 10000 96 (.agg #[.bool (b 0), .bool (b 1), .bool (b 2), .bool (b 3), .bool (b 4), .bool (b 5), .bool (b 6), .bool (b 7), .bool (b 8), .bool (b 9), .bool (b 10), .bool (b 11), .bool (b 12), .bool (b 13), .bool (b 14), .bool (b 15)]) (.agg #[.bool false, .bool false, .bool false, .bool false, .bool false, .bool false, .bool false, .bool false, .bool false, .bool false, .bool false, .bool false, .bool false, .bool false, .bool false, .bool false])).run Try.prog w = .ok (!(anyB b)) w := by
  obtain ⟨i, hi, _⟩ := info_parts info_bool
  rw [run_equalIn_array w 9999 _ _ Try.underlying96 hi, cells_bool]
  simp [Op.eqItems, List.range_succ, part, run_equalIn_bool, Try.underlying4, Result.andThen, cells_bool, anyB]
  generalize b 0 = b0
  generalize b 1 = b1
  generalize b 2 = b2
  generalize b 3 = b3
  generalize b 4 = b4
  generalize b 5 = b5
  generalize b 6 = b6
  generalize b 7 = b7
  generalize b 8 = b8
  generalize b 9 = b9
  generalize b 10 = b10
  generalize b 11 = b11
  generalize b 12 = b12
  generalize b 13 = b13
  generalize b 14 = b14
  generalize b 15 = b15
  cases b0 <;> simp
  cases b1 <;> simp
  cases b2 <;> simp
  cases b3 <;> simp
  cases b4 <;> simp
  cases b5 <;> simp
  cases b6 <;> simp
  cases b7 <;> simp
  cases b8 <;> simp
  cases b9 <;> simp
  cases b10 <;> simp
  cases b11 <;> simp
  cases b12 <;> simp
  cases b13 <;> simp
  cases b14 <;> simp
  cases b15 <;> simp
attribute [local go_sem] eqIn_tags
set_option maxRecDepth 100000 in
set_option maxHeartbeats 4000000 in
theorem ttagged_ (g x : Nat) (b : Nat → Bool) (w : World) (hb : ∀ j, j < 16 → w.cell? ⟨g, x + 256 + j, none⟩ = some (.bool (b j))) (hg : g < w.heap.size) : Calls Try.prog 82 #[.pointer (some ⟨g, x, none⟩)] w fun e w' => e = .returned (.bool (anyB b)) ∧ w = w' := by
  have HR : Hid (w.rangeAt g (x + 256) [.bool (b 0), .bool (b 1), .bool (b 2), .bool (b 3), .bool (b 4), .bool (b 5), .bool (b 6), .bool (b 7), .bool (b 8), .bool (b 9), .bool (b 10), .bool (b 11), .bool (b 12), .bool (b 13), .bool (b 14), .bool (b 15)]) := hid (fun j v hj => by
    have hlt : j < 16 := by simpa using (List.getElem?_eq_some_iff.1 hj).1
    rw [hb j hlt, ← hj]
    rcases (show j = 0 ∨ j = 1 ∨ j = 2 ∨ j = 3 ∨ j = 4 ∨ j = 5 ∨ j = 6 ∨ j = 7 ∨ j = 8 ∨ j = 9 ∨ j = 10 ∨ j = 11 ∨ j = 12 ∨ j = 13 ∨ j = 14 ∨ j = 15 by omega) with rfl | rfl | rfl | rfl | rfl | rfl | rfl | rfl | rfl | rfl | rfl | rfl | rfl | rfl | rfl | rfl <;> rfl)
  clear hb
  go_enter Try.func82, Try.ntmps82
  go_wp2_with (with_reducible refine wpList_load_mid rfl 96 (.tmp 5) rfl g (x + 256) rfl [.bool (b 0), .bool (b 1), .bool (b 2), .bool (b 3), .bool (b 4), .bool (b 5), .bool (b 6), .bool (b 7), .bool (b 8), .bool (b 9), .bool (b 10), .bool (b 11), .bool (b 12), .bool (b 13), .bool (b 14), .bool (b 15)] _ (HR.out) Try.underlying96 rfl (by kernel_rfl) ?_)
  go_ret
  exact ⟨by simp, rfl⟩
end Go.Proofs.Ythamfkbopjagdaa

namespace Go.Proofs.Ythamfkbopjagdaa
set_option maxRecDepth 100000
set_option linter.unusedSimpArgs false
set_option linter.unusedVariables false
open Go.RowKit

set_option maxRecDepth 100000 in
set_option maxHeartbeats 4000000 in
theorem tclean_no1 (q g n : Nat) (B : Nat → Int) (T D : Nat → Bool) (w : World) (h : Mm w q g n B T D) (x : Int) (hx : x < 0) : Calls Try.prog 72 #[.pointer (some ⟨q, 0, none⟩), .int .i64 x] w fun e w' => e = .returned (.bool false) ∧ w = w' := by
  have c0 := h.c0
  have hlq := h.ltq
  have hlg := h.ltg
  have hbd := h.bd
  have HH := hid h
  clear h
  go_enter Try.func72, Try.ntmps72
  go_wp2
  go_ret
  exact ⟨rfl, rfl⟩
set_option maxRecDepth 100000 in
set_option maxHeartbeats 4000000 in
theorem tclean_no2 (q g n : Nat) (B : Nat → Int) (T D : Nat → Bool) (w : World) (h : Mm w q g n B T D) (x : Int) (hx0 : 0 ≤ x) (hx : (n : Int) ≤ x) : Calls Try.prog 72 #[.pointer (some ⟨q, 0, none⟩), .int .i64 x] w fun e w' => e = .returned (.bool false) ∧ w = w' := by
  have c0 := h.c0
  have hlq := h.ltq
  have hlg := h.ltg
  have hbd := h.bd
  have HH := hid h
  clear h
  go_enter Try.func72, Try.ntmps72
  go_wp2
  go_ret
  exact ⟨rfl, rfl⟩
set_option maxRecDepth 100000 in
set_option maxHeartbeats 4000000 in
theorem tclean_no3 (q g n : Nat) (B : Nat → Int) (T D : Nat → Bool) (w : World) (h : Mm w q g n B T D) (p : Nat) (hpn : p < n) (ha : anyB (fun j => T (16 * p + j)) = true) : Calls Try.prog 72 #[.pointer (some ⟨q, 0, none⟩), .int .i64 (p : Int)] w fun e w' => e = .returned (.bool false) ∧ w = w' := by
  have c0 := h.c0
  have hlq := h.ltq
  have hlg := h.ltg
  have hbd := h.bd
  have HH := hid h
  have HA := hid ha
  have hp0 : (0 : Int) ≤ (p : Int) := by omega
  have hp1 : (p : Int) < (n : Int) := by omega
  clear h ha
  go_enter Try.func72, Try.ntmps72
  go_wp2_with (go_at_call 82; refine (ttagged_ g (p * 273) (fun j => T (16 * p + j)) _ (fun j hj => HH.out.tg p j hpn hj) hlg).mono ?_; rw [HA.out]; rintro e w1 ⟨rfl, rfl⟩)
  go_ret
  exact ⟨rfl, rfl⟩
set_option maxRecDepth 100000 in
set_option maxHeartbeats 4000000 in
theorem tclean_yes (q g n : Nat) (B : Nat → Int) (T D : Nat → Bool) (w : World) (h : Mm w q g n B T D) (p : Nat) (hpn : p < n) (ha : anyB (fun j => T (16 * p + j)) = false) : Calls Try.prog 72 #[.pointer (some ⟨q, 0, none⟩), .int .i64 (p : Int)] w fun e w' => e = .returned (.bool true) ∧ Hid (Mm w' q g n B T (upd1 D p false)) ∧ Hid (Only (· = g) w w') := by
  have c0 := h.c0
  have hlq := h.ltq
  have hlg := h.ltg
  have hbd := h.bd
  have HH := hid h
  have HA := hid ha
  have hp0 : (0 : Int) ≤ (p : Int) := by omega
  have hp1 : (p : Int) < (n : Int) := by omega
  have hdt := h.dt p hpn
  have hfz := h.fz (p * 273 + 272)
  have HM := hid (h.clean hpn (fun i hi => by
    have : ∀ j ∈ List.range 16, ¬ T (16 * p + j) = true := by simpa [anyB] using ha
    have := this i (by simpa using hi)
    simpa using this))
  have HO : Hid (Only (· = g) w (w.setCell ⟨g, p * 273 + 272, none⟩ (.bool false))) := hid (Only.setCell (S := (· = g)) (Only.refl _ _) (.inl rfl) _)
  clear h ha
  go_enter Try.func72, Try.ntmps72
  go_wp2_with (go_at_call 82; refine (ttagged_ g (p * 273) (fun j => T (16 * p + j)) _ (fun j hj => HH.out.tg p j hpn hj) hlg).mono ?_; rw [HA.out]; rintro e w1 ⟨rfl, rfl⟩)
  go_ret
  exact ⟨rfl, HM, HO⟩
/-- Which there are, up to one. -/
def whichN (D : Nat → Bool) (k : Nat) : List Nat := (List.range k).filter D
theorem whichN_yes {D : Nat → Bool} {k : Nat} (h : D k = true) : whichN D (k + 1) = whichN D k ++ [k] := by simp [whichN, List.range_succ, h]
theorem whichN_no {D : Nat → Bool} {k : Nat} (h : D k = false) : whichN D (k + 1) = whichN D k := by simp [whichN, List.range_succ, h]
theorem whichN_len (D : Nat → Bool) (k : Nat) : (whichN D k).length ≤ k := by
  have := List.length_filter_le D (List.range k)
  simpa [whichN] using this
theorem whichN_mem {D : Nat → Bool} {k x : Nat} : x ∈ whichN D k ↔ x < k ∧ D x = true := by simp [whichN]
def ints (l : List Nat) : List Value := l.map fun (j : Nat) => Value.int .i64 (j : Int)
theorem ints_length (l : List Nat) : (ints l).length = l.length := by simp [ints]
theorem ints_append (l m : List Nat) : ints (l ++ m) = ints l ++ ints m := by simp [ints]
/-- A row of numbers, to be read. -/
def RdN (w : World) (A : Option Addr) (l : List Nat) : Prop := 0 < l.length → ∃ b o, A = some ⟨b, o, none⟩ ∧ b < w.heap.size ∧ ∀ j (h : j < l.length), w.cell? ⟨b, o + j, none⟩ = some (.int .i64 (l[j] : Int))
theorem RdN.only {S : Nat → Prop} {w w' : World} {A : Option Addr} {l : List Nat} (h : RdN w A l) (x : Only S w w') (hs : ∀ b o, A = some ⟨b, o, none⟩ → ¬ S b) : RdN w' A l := fun h0 => by
  obtain ⟨b, o, hA, hb, hc⟩ := h h0
  exact ⟨b, o, hA, Nat.lt_of_lt_of_le hb x.size, fun j hj => by rw [x.cells b _ hb (hs b o hA)]; exact hc j hj⟩
theorem RdN.ext {w w' : World} {A : Option Addr} {l : List Nat} (h : RdN w A l) (x : Ext w w') : RdN w' A l := h.only (Only.ofExt (S := fun _ => False) x) (fun _ _ _ => id)
theorem ownsAt.rdN {w : World} {base n c : Nat} {A : Option Addr} {l : List Nat} (h : ownsAt w base 3 1 (.slice A n c) n (ints l)) (hn : l.length = n) : RdN w A l := fun h0 => by
  obtain ⟨g, o, hA, hb, hlt, hc, _⟩ := h.at_ rfl (by omega)
  refine ⟨g, o * 1, hA, hlt, fun j hj => hc j _ ?_⟩
  simp [ints, hj]
theorem Row.new (w : World) (cs : Array Value) (T : TypeId) : Row (w.alloc (.cells cs T)) w.heap.size 0 cs.toList :=
  ⟨by simp, fun j v hj => by simp [go_sem]; simpa using hj, fun j hj => by simp [go_sem]⟩
theorem grownOnly {S : Nat → Prop} {w w' : World} {row : Option Nat} (h : w.grownBy w' row) (hs : ∀ g, row = some g → S g) : Only S w w' :=
  ⟨h.os, h.tape, h.output, h.size, fun k hk hn => h.block k hk fun e => hn (hs k e.symm)⟩
set_option maxRecDepth 100000 in
set_option maxHeartbeats 4000000 in
theorem tdirty_ (q g n : Nat) (B : Nat → Int) (T D : Nat → Bool) (w : World) (h : Mm w q g n B T D) : Calls Try.prog 35 #[.pointer (some ⟨q, 0, none⟩)] w fun e w' => ∃ A ca, e = .returned (.slice A (whichN D n).length ca) ∧ Hid (RdN w' A (whichN D n)) ∧ Hid (Ext w w') ∧ Hid (∀ b o, A = some ⟨b, o, none⟩ → w.heap.size ≤ b) := by
  obtain ⟨i0, hi0, hz0, hz1, hz2⟩ := info_parts info_int
  have c0 := h.c0
  have hlq := h.ltq
  have hlg := h.ltg
  have hbd := h.bd
  have HH := hid h
  clear h
  go_enter Try.func35, Try.ntmps35
  go_wp2
  clear c0 hlq hlg
  go_loopw [3, 10] (fun v i wr => ∃ k : Nat, k ≤ n ∧ i = .int .i64 k ∧ Hid (ownsAt wr w.heap.size 3 1 v (whichN D k).length (ints (whichN D k))) ∧ Hid (Ext w wr)) (fun _ i _ => n - (intOf i).toNat)
  case atStart => exact ⟨0, Nat.zero_le _, rfl, hid (ownsAt_nil _ _ _ _), hid (Ext.refl _)⟩
  case round =>
    obtain ⟨k, hk, rfl, HO, HE⟩ := hrel
    have hk0 : (0 : Int) ≤ (k : Int) := by omega
    by_cases hlt : k < n
    · have hk1 : (k : Int) < (n : Int) := by omega
      have HM := hid (HH.out.ext HE.out)
      have c0 := HM.out.c0
      have hlq := HM.out.ltq
      have hlg := HM.out.ltg
      have hdt := HM.out.dt k hlt
      have hwl := whichN_len D k
      cases hD : D k with
      | false =>
        rw [hD] at hdt
        have HW := hid (whichN_no hD)
        clear hD
        go_wp2
        go_roundw
        case rel => exact ⟨k + 1, by omega, by go_num, by rw [HW.out]; exact HO, HE⟩
        case measure => simp [intOf]; omega
      | true =>
        rw [hD] at hdt
        have HW := hid (whichN_yes hD)
        clear hD
        go_wp2_with (at_builtin; refine wpList_plain rfl fun K hK => ?_; refine wp_append_at _ _ _ 52 rfl w.heap.size 3 i0 _ 1 8 Try.underlying52 hi0 hz0 hz1 hz2 rfl (by decide) _ _ _ rfl (HO.out.ext (Ext.alloc (Ext.refl _) _)) ⟨wr.heap.size, 0, none⟩ 1 1 [.int .i64 (k : Int)] rfl rfl (fun j u hj => by rw [Addr.add_lit]; exact (Row.new wr #[.int .i64 (k : Int)] _).range j u hj) (fun u hu => by obtain rfl : u = _ := List.mem_singleton.1 hu; rfl) (by unfold maxLen; omega) (by omega) (by have := HE.out.size; simp; omega) (by omega) ?_; intro v5 w5 hown5 hgrow5 hat5; refine hK _ _ ?_; clear hK K)
        have HO5 : Hid (ownsAt w5 w.heap.size 3 1 v5 (whichN D (k + 1)).length (ints (whichN D (k + 1)))) := hid (by
          rw [HW.out, ints_append, List.length_append]
          exact hown5)
        have HE5 : Hid (Ext w w5) := hid (Ext.only (HE.out.trans (Ext.alloc (Ext.refl _) _)) (grownOnly (S := fun i => w.heap.size ≤ i) hgrow5 (fun g e => (HO.out.lt g e).1)) (fun i hi => hi))
        clear hown5 hgrow5 hat5
        go_roundw
        case rel => exact ⟨k + 1, by omega, by go_num, HO5, HE5⟩
        case measure => simp [intOf]; omega
    · obtain rfl : k = n := by omega
      have hk1 : ¬ (k : Int) < (k : Int) := by omega
      obtain ⟨A, ca, rfl, _, _⟩ := HO.out.shape
      go_wp2
      go_ret
      exact ⟨A, ⟨ca, rfl⟩, hid (HO.out.rdN rfl), HE, hid (fun b o e => (HO.out.lt b (by rw [e]; rfl)).1)⟩
set_option maxRecDepth 100000 in
set_option maxHeartbeats 4000000 in
theorem tsame_ (A C : Option Addr) (n ca cc : Nat) (l : List Nat) (w : World) (hA : RdN w A l) (hC : RdN w C l) (hn : n = l.length) (hb : n ≤ 16777216) : Calls Try.prog 32 #[.slice A n ca, .slice C n cc] w fun e w' => e = .returned (.bool true) ∧ Ext w w' := by
  have HA := hid hA
  have HC := hid hC
  subst hn
  clear hA hC
  go_enter Try.func32, Try.ntmps32
  go_wp2
  go_loopw [5] (fun i wr => ∃ k : Nat, k ≤ l.length ∧ i = .int .i64 k ∧ Ext w wr) (fun i _ => l.length - (intOf i).toNat)
  case atStart => exact ⟨0, Nat.zero_le _, rfl, Ext.refl _⟩
  case round =>
    obtain ⟨k, hk, rfl, hx⟩ := hrel
    have hk0 : (0 : Int) ≤ (k : Int) := by omega
    by_cases hlt : k < l.length
    · have hk1 : (k : Int) < (l.length : Int) := by omega
      obtain ⟨b, o, rfl, hb1, h1⟩ := (HA.out.ext hx) (by omega)
      obtain ⟨b2, o2, rfl, hb2, h2⟩ := (HC.out.ext hx) (by omega)
      have c1 := h1 k hlt
      have c2 := h2 k hlt
      clear h1 h2
      generalize l[k] = z at c1 c2
      go_upto_region 6 with (fail)
      refine wp_region_grow (by kernel_rfl) (by kernel_rfl) (by first | (simp only [List.append]; rfl) | rfl) ?_
      (repeat (go_big_quiet_step (fail)))
      refine wpQuiet_nil ?_
      intro wq hq
      obtain ⟨d, rfl⟩ := hq
      go_wp2
      go_roundw
      case rel => exact ⟨k + 1, by omega, by go_num, (by repeat (first | (with_reducible exact Ext.refl _) | (with_reducible refine Ext.undrew ?_) | (with_reducible refine Ext.grow ?_ _) | (with_reducible refine Ext.drew ?_) | (with_reducible refine Ext.drewN ?_ _) | (with_reducible refine Ext.alloc ?_ _) | (with_reducible assumption) | ((with_reducible refine Ext.setCell ?_ ?_ _); rotate_left; (first | exact Nat.le_refl _ | ((try dsimp only); (try simp only [World.size_alloc, grow_size, World.size_setCell]); omega)))))⟩
      case measure => simp [intOf]; omega
    · obtain rfl : k = l.length := by omega
      have hk1 : ¬ (l.length : Int) < (l.length : Int) := by omega
      go_wp2
      go_ret
      exact ⟨rfl, hx⟩
end Go.Proofs.Ythamfkbopjagdaa

namespace Go.Proofs.Ythamfkbopjagdaa
set_option maxRecDepth 100000
set_option linter.unusedSimpArgs false
set_option linter.unusedVariables false
open Go.RowKit

attribute [local go_sem] Oper.semAt_some
set_option maxRecDepth 100000 in
set_option maxHeartbeats 4000000 in
theorem ttaggedF_ (q : Nat) (w : World) : Calls Try.prog 59 #[.pointer (some ⟨q, 0, none⟩)] w fun e w' => e = .returned (.func (.func 76) #[] #[.pointer (some ⟨w.heap.size, 0, none⟩)]) ∧ w' = w.alloc (.cells #[.pointer (some ⟨q, 0, none⟩)] 26) := by
  go_enter Try.func59, Try.ntmps59
  go_wp2
  go_ret
  exact ⟨rfl, rfl⟩
theorem wpIn_gen {F : Fence} {n : Nat} {P : Program} {a : Act} {Q : Exit → Act → World → Prop} {c : Code} {w : World} (I : World → Prop) (hI : I w) (h : ∀ w', I w' → c.wpIn F n P Q a w') : c.wpIn F n P Q a w := h w hI
theorem gives_grown {W W' : World} (h : Ext W W') : W.grownBy W' none := ⟨h.os, h.tape, h.output, h.size, fun k hk _ => h.block k hk⟩
/-- A page's tags, as one value. -/
@[irreducible] def tagsA (f : Nat → Bool) : Array Value := ((List.range 16).map fun j => Value.bool (f j)).toArray
theorem tagsA_get (f : Nat → Bool) {i : Nat} (hi : i < 16) : (tagsA f)[i]? = some (.bool (f i)) := by unfold tagsA; simp [hi]
theorem tagsA_size (f : Nat → Bool) : (tagsA f).size = 16 := by unfold tagsA; simp
theorem tagsA_list (f : Nat → Bool) (j : Nat) (v : Value) (h : (tagsA f).toList[j]? = some v) : j < 16 ∧ v = .bool (f j) := by
  unfold tagsA at h
  have hj : j < 16 := by simpa using (List.getElem?_eq_some_iff.1 h).1
  simp [hj] at h
  exact ⟨hj, h.symm⟩
theorem run_index_tags (f : Nat → Bool) (i : Nat) (hi : i < 16) (w : World) : (Instr.index 96 (.agg (tagsA f)) (.int .i64 (i : Int))).run Try.prog w = .ok (.bool (f i)) w := by
  obtain ⟨i0, hi0, _, h2, _⟩ := info_parts info_bool
  have hs : (sizeOf 4).run Try.prog w = .ok 1 w := by rw [run_sizeOf w hi0, cells_bool]
  have ha : (isAgg 4).run Try.prog w = .ok false w := by kernel_rfl
  have hc : (0 : Int) ≤ (i : Int) ∧ (i : Int) < 16 := by omega
  simp [Instr.index, run_underlying Try.underlying96, asIntOf, part, hc, hs, ha, tagsA_get f hi, Sem.run_bind, Sem.run_pure, Result.andThen]
  intro h
  omega
/-- A box's slice lies there. -/
def ownAtBox (lb : Nat) (W : World) (i : Nat) : Prop := ∃ o n c, W.cell? ⟨lb, 0, none⟩ = some (.slice (some ⟨i, o, none⟩) n c)
/-- What a round turns: a box, the row that it holds, and what holds no cells. -/
def SB (lb : Nat) (W : World) : Nat → Prop := fun i => i = lb ∨ ownAtBox lb W i ∨ ∃ o : Obj, W.heap[i]? = some o ∧ o.isCells = false
def KpT (lb : Nat) (W W' : World) : Prop := Only (SB lb W) W W' ∧ ∀ i, ownAtBox lb W' i → ownAtBox lb W i ∨ W.heap.size ≤ i
theorem KpT.trans {lb : Nat} {a b c : World} (h : KpT lb a b) (k : KpT lb b c) : KpT lb a c := by
  refine ⟨h.1.trans k.1 fun i hi => ?_, fun i hi => ?_⟩
  · rcases hi with hi | hi | ⟨o, ho, hc⟩
    · exact .inl (.inl hi)
    · rcases h.2 i hi with e | e
      · exact .inl (.inr (.inl e))
      · exact .inr e
    · by_cases hs : SB lb a i
      · exact .inl hs
      · rcases Nat.lt_or_ge i a.heap.size with e | e
        · exact .inl (.inr (.inr ⟨o, (h.1.block i e hs).symm.trans ho, hc⟩))
        · exact .inr e
  · rcases k.2 i hi with e | e
    · exact h.2 i e
    · exact .inr (Nat.le_trans h.1.size e)
theorem cell_isCells {w : World} {b x : Nat} {v : Value} (h : w.cell? ⟨b, x, none⟩ = some v) : ¬ ∃ o : Obj, w.heap[b]? = some o ∧ o.isCells = false := by
  rintro ⟨o, ho, hc⟩
  simp only [World.cell?, ho] at h
  cases o <;> simp_all [Obj.isCells]
/-- All that may turn while it is walked over, from a world on. -/
def Sx (lb : Nat) (w1 : World) : Nat → Prop := fun i => i = lb ∨ w1.heap.size ≤ i ∨ ∃ o : Obj, w1.heap[i]? = some o ∧ o.isCells = false
theorem Sx.step {lb : Nat} {w1 a b : World} (h : Only (Sx lb w1) w1 a) (ho : ∀ i, ownAtBox lb a i → w1.heap.size ≤ i) (k : KpT lb a b) : Only (Sx lb w1) w1 b ∧ ∀ i, ownAtBox lb b i → w1.heap.size ≤ i := by
  refine ⟨h.trans k.1 fun i hi => ?_, fun i hi => ?_⟩
  · rcases hi with hi | hi | ⟨o, hoo, hc⟩
    · exact .inl (.inl hi)
    · exact .inr (ho i hi)
    · by_cases hs : Sx lb w1 i
      · exact .inl hs
      · rcases Nat.lt_or_ge i w1.heap.size with e | e
        · exact .inl (.inr (.inr ⟨o, (h.block i e hs).symm.trans hoo, hc⟩))
        · exact .inr e
  · rcases k.2 i hi with e | e
    · exact ho i e
    · exact Nat.le_trans h.size e
end Go.Proofs.Ythamfkbopjagdaa

namespace Go.Proofs.Ythamfkbopjagdaa
set_option maxRecDepth 100000
set_option linter.unusedSimpArgs false
set_option linter.unusedVariables false
open Go.RowKit

attribute [local go_sem] Oper.semAt_some
theorem wpListIn_load_mid {F : Fence} {n : Nat} {P : Program} {w : World} {ops : Array Oper} {rest : List Oper} {o : Oper} {a : Act} {Q : Exit → Act → World → Prop} (hg : o.guard = none) (ty : TypeId) (x : Operand) (hop : o.op = .load ty x)
    (b off : Nat) (hx : a.eval x = .pointer (some ⟨b, off, none⟩)) (cs : Array Value) (d : TypeDesc) (hc : w.rangeAt b off cs.toList) (hu : P.underlying ty = some d) (hd : d.isRow = true) (hi : (P.info? ty).map (·.size) = some cs.toList.length)
    (hK : wpListIn F n P ops Q rest (a.put o.dst (.agg cs)) w) : wpListIn F n P ops Q (o :: rest) a w := by
  refine wpListIn_plain hg fun K hK' => ?_
  unfold Oper.wpIn
  refine ⟨?_, ?_⟩
  · simp [Oper.about, hop, Sem.run_pure]
  · rw [Oper.semAt_plain F _ _ (by rw [hop]; intro c hc'; cases hc')]
    simp only [execOp, hop, hx, run_loadAt_mid w b off ty cs.toList d hc hu hd hi, Sem.run_bind, Sem.run_map, Sem.run_pure, Result.andThen]
    exact hK' _ _ (by simpa using hK)
theorem whichN_skip {T : Nat → Bool} {a : Nat} : ∀ b, a ≤ b → (∀ t, a ≤ t → t < b → T t = false) → whichN T b = whichN T a
  | 0, h, _ => by obtain rfl : a = 0 := by omega
                  rfl
  | b + 1, h, ht => by
    rcases Nat.lt_or_ge b a with c | c
    · obtain rfl : a = b + 1 := by omega
      rfl
    · rw [whichN_no (ht b c (by omega)), whichN_skip b c (fun t h1 h2 => ht t h1 (by omega))]
theorem whichN_rise (D : Nat → Bool) (n : Nat) : (whichN D n).Pairwise (· < ·) := List.Pairwise.filter _ List.pairwise_lt_range
/-- Between two dirty pages no page is dirty. -/
theorem whichN_gap {D : Nat → Bool} {n k p : Nat} (hk : k + 1 < (whichN D n).length) (h1 : (whichN D n)[k] < p) (h2 : p < (whichN D n)[k + 1]) : D p = false := by
  cases e : D p with
  | false => rfl
  | true =>
    exfalso
    have hlt := (whichN_mem.1 (List.getElem_mem hk)).1
    obtain ⟨m, hm, hmp⟩ := List.mem_iff_getElem.1 (whichN_mem.2 ⟨(by omega : p < n), e⟩)
    have hr := List.pairwise_iff_getElem.1 (whichN_rise D n)
    have a1 : k < m := by
      rcases Nat.lt_or_ge k m with c | c
      · exact c
      · rcases Nat.eq_or_lt_of_le c with c | c
        · subst c; omega
        · have := hr m k hm (by omega) c; omega
    have a2 : m < k + 1 := by
      rcases Nat.lt_or_ge m (k + 1) with c | c
      · exact c
      · rcases Nat.eq_or_lt_of_le c with c | c
        · subst c; omega
        · have := hr (k + 1) m hk hm c; omega
    omega
theorem whichN_first {D : Nat → Bool} {n p : Nat} (hk : 0 < (whichN D n).length) (h2 : p < (whichN D n)[0]) : D p = false := by
  cases e : D p with
  | false => rfl
  | true =>
    exfalso
    have hlt := (whichN_mem.1 (List.getElem_mem hk)).1
    obtain ⟨m, hm, hmp⟩ := List.mem_iff_getElem.1 (whichN_mem.2 ⟨(by omega : p < n), e⟩)
    have hr := List.pairwise_iff_getElem.1 (whichN_rise D n)
    rcases Nat.eq_zero_or_pos m with c | c
    · subst c; omega
    · have := hr 0 m hk hm c; omega
theorem whichN_last {D : Nat → Bool} {n k p : Nat} (hk : k + 1 = (whichN D n).length) (h1 : (whichN D n)[k] < p) (hp : p < n) : D p = false := by
  cases e : D p with
  | false => rfl
  | true =>
    exfalso
    obtain ⟨m, hm, hmp⟩ := List.mem_iff_getElem.1 (whichN_mem.2 ⟨hp, e⟩)
    have hr := List.pairwise_iff_getElem.1 (whichN_rise D n)
    rcases Nat.lt_or_ge k m with c | c
    · omega
    · rcases Nat.eq_or_lt_of_le c with c | c
      · subst c; omega
      · have := hr m k hm (by omega) c; omega
/-- Up to where all has been told, when so many dirty pages have. -/
def upto (D : Nat → Bool) (np k : Nat) : Nat := if h : k < (whichN D np).length then (whichN D np)[k] else np
theorem upto_at {D : Nat → Bool} {np k : Nat} (h : k < (whichN D np).length) : upto D np k = (whichN D np)[k] := dif_pos h
theorem upto_end {D : Nat → Bool} {np k : Nat} (h : (whichN D np).length ≤ k) : upto D np k = np := dif_neg (by omega)
section
variable {w : World} {q g n : Nat} {B : Nat → Int} {T D : Nat → Bool}
theorem Mm.clear (h : Mm w q g n B T D) {t : Nat} (hd : D (t / 16) = false) : T t = false := by
  cases e : T t with
  | false => rfl
  | true => rw [h.inv t e] at hd; cases hd
theorem Mm.told0 (h : Mm w q g n B T D) : whichN T (16 * upto D n 0) = [] := by
  have : whichN T (16 * upto D n 0) = whichN T 0 := whichN_skip _ (by omega) fun t _ ht => h.clear (by
    by_cases c : 0 < (whichN D n).length
    · rw [upto_at c] at ht
      exact whichN_first c (by omega)
    · rw [upto_end (by omega)] at ht
      cases e : D (t / 16) with
      | false => rfl
      | true => exact absurd (List.length_pos_of_mem (whichN_mem.2 ⟨(by omega : t / 16 < n), e⟩)) c)
  rw [this]
  rfl
theorem Mm.toldS (h : Mm w q g n B T D) {k : Nat} (hk : k < (whichN D n).length) : whichN T (16 * upto D n (k + 1)) = whichN T (16 * (whichN D n)[k] + 16) := by
  have hp := (whichN_mem.1 (List.getElem_mem hk)).1
  by_cases c : k + 1 < (whichN D n).length
  · have hr := List.pairwise_iff_getElem.1 (whichN_rise D n) k (k + 1) hk c (Nat.lt_succ_self k)
    rw [upto_at c]
    exact whichN_skip _ (by omega) fun t h1 h2 => h.clear (whichN_gap c (by omega) (by omega))
  · rw [upto_end (by omega)]
    exact whichN_skip _ (by omega) fun t h1 h2 => h.clear (whichN_last (D := D) (n := n) (k := k) (by omega) (by omega) (by omega))
end
attribute [local go_sem] run_index_tags
set_option maxRecDepth 100000 in
set_option maxHeartbeats 4000000 in
theorem tgA_ (n : Nat) (hn : 2 ≤ n) (l0 q g np qb lb : Nat) (B : Nat → Int) (T D : Nat → Bool) (J Jx : List Nat → World → Prop)
    (hY : ∀ pre x W, J pre W → pre.length < 16 * np → YieldAt Fence.wide (n - 1) Try.prog l0 #[.int .i64 ((16 * x : Nat) : Int)] W fun e W' =>
      (e = .returned (.bool true) ∧ J (pre ++ [x]) W' ∧ KpT lb W W') ∨ (e = .returned (.bool false) ∧ Jx (pre ++ [x]) W'))
    (W : World) (hJ : AbidesFrom W.heap.size J) (hqb : W.cell? ⟨qb, 0, none⟩ = some (.pointer (some ⟨q, 0, none⟩))) (hqbl : qb < W.heap.size) (hqb2 : ¬ qb = lb) (hM : Mm W q g np B T D) (hql : ¬ q = lb) (hgl : ¬ g = lb) (hlb : lb < W.heap.size) (hown : ∀ i, ¬ ownAtBox lb W i) (h0 : J [] W) :
    CallsIn Fence.wide n Try.prog 76 #[.func (.yield l0) #[] #[], .pointer (some ⟨qb, 0, none⟩)] W fun e W' => (∃ v, e = .returned v) ∧
      ((∃ ys, ys = whichN T (16 * np) ∧ J ys W') ∨ (∃ pre : List Nat, True ∧ Jx pre W')) := by
  refine callsIn_of_wp Try.func76 rfl trivial ?_ rfl
  simp only [Try.ntmps76]
  simp only [List.size_toArray, List.length_cons, List.length_nil, Nat.reduceAdd, Nat.reduceSub, Array.replicate_succ, Array.replicate_zero, List.push_toArray, List.append_toArray, List.nil_append, List.cons_append]
  have HY := hid hY
  have HJ := hid hJ
  have HM := hid hM
  have HOW := hid hown
  have HJ0 := hid h0
  clear hY hJ hM hown h0
  gi_wp2
  refine ⟨trivial, (fun _ => by omega), ?_⟩
  refine CallsIn.mono (callsIn_wide.2 (tdirty_ q g np B T D _ HM.out)) ?_
  rintro e w1 ⟨A, ca, rfl, HRD, HX, HN⟩
  have HM1 := hid (HM.out.ext HX.out)
  have HJ1 : Hid (J [] w1) := hid (HJ.out [] W w1 none HJ0.out (gives_grown HX.out) (fun r e => by cases e))
  have HQ1 : Hid (w1.cell? ⟨qb, 0, none⟩ = some (.pointer (some ⟨q, 0, none⟩))) := hid ((HX.out.cells qb 0 hqbl).trans hqb)
  have HOW1 : Hid (∀ i, ownAtBox lb w1 i → w1.heap.size ≤ i) := hid (fun i ⟨o, nn, c, e⟩ => absurd ⟨o, nn, c, (HX.out.cells lb 0 hlb).symm.trans e⟩ (HOW.out i))
  have HNL : Hid (∀ b o, A = some ⟨b, o, none⟩ → ¬ b = lb) := hid (fun b o e => by have := HN.out b o e; omega)
  have hq1 : qb < w1.heap.size := Nat.lt_of_lt_of_le hqbl HX.out.size
  have hsz1 := HX.out.size
  have hbd := HM.out.bd
  obtain ⟨dn, hdn⟩ : ∃ x, (whichN D np).length = x := ⟨_, rfl⟩
  have hdn2 : dn ≤ np := by rw [← hdn]; exact whichN_len D np
  have HDN := hid hdn
  rw [hdn]
  clear hdn HOW HJ0 HM HN
  (try simp only [])
  gi_wp2
  gi_loopw [10] (fun i wr => ∃ k : Nat, k ≤ dn ∧ i = .int .i64 k ∧ Hid (J (whichN T (16 * upto D np k)) wr) ∧ Hid (Only (Sx lb w1) w1 wr) ∧ Hid (∀ i, ownAtBox lb wr i → w1.heap.size ≤ i)) (fun i _ => dn - (intOf i).toNat)
  case atStart => exact ⟨0, Nat.zero_le _, rfl, hid (by rw [HM1.out.told0]; exact HJ1.out), hid (Only.refl _ _), HOW1⟩
  case round =>
    obtain ⟨k, hk, rfl, hJk, HS, HOB⟩ := hrel
    have hnS : ∀ b x v, w1.cell? ⟨b, x, none⟩ = some v → b < w1.heap.size → ¬ b = lb → ¬ Sx lb w1 b := fun b x v hv hb hne h => by
      rcases h with h | h | h
      · exact hne h
      · omega
      · exact cell_isCells hv h
    have hqS := hnS q 0 _ HM1.out.c0 HM1.out.ltq hql
    have hgS := hnS g _ _ (HM1.out.dt 0 (by omega)) HM1.out.ltg hgl
    have hqbS := hnS qb 0 _ HQ1.out hq1 hqb2
    by_cases hlt : k < dn
    · have hk0 : (0 : Int) ≤ (k : Int) := by omega
      have hk1 : (k : Int) < (dn : Int) := by omega
      have hkl : k < (whichN D np).length := by rw [HDN.out]; exact hlt
      obtain ⟨b, ob, rfl, hb, hc⟩ := HRD.out (by omega)
      have hrow := hc k hkl
      have hbS := hnS b _ _ hrow hb (HNL.out b ob rfl)
      have hpn := (whichN_mem.1 (List.getElem_mem hkl)).1
      have HUP := hid (upto_at hkl)
      have HTS := hid (HM1.out.toldS hkl)
      clear hc
      generalize (whichN D np)[k] = p at hrow hpn HUP HTS
      have hrow' := (HS.out.cells b _ hb hbS).trans hrow
      have HMr := hid (HM1.out.only HS.out hqS hgS)
      have hqb' := (HS.out.cells qb 0 hq1 hqbS).trans HQ1.out
      have c0 := HMr.out.c0
      have hp0 : (0 : Int) ≤ (p : Int) := by omega
      have hp1 : (p : Int) < (np : Int) := by omega
      have HRA : Hid (wr.rangeAt g (p * 273 + 256) (tagsA (fun j => T (16 * p + j))).toList) := hid (fun j v hj => by
        obtain ⟨h1, rfl⟩ := tagsA_list _ j v hj
        exact HMr.out.tg p j hpn h1)
      have HSZ : Hid (16 = (tagsA (fun j => T (16 * p + j))).toList.length) := hid (by simp [tagsA_size])
      rw [HUP.out] at hJk
      gi_wp2_with (with_reducible refine wpListIn_load_mid rfl 96 (.tmp 20) rfl g (p * 273 + 256) rfl (tagsA (fun j => T (16 * p + j))) _ (HRA.out) Try.underlying96 rfl (by rw [← HSZ.out]; kernel_rfl) ?_)
      obtain ⟨f, hf⟩ : ∃ f : Nat → Bool, (fun j => T (16 * p + j)) = f := ⟨_, rfl⟩
      have HF : Hid (∀ j, f j = T (16 * p + j)) := hid (fun j => by rw [← hf])
      rw [hf]
      clear hf HRA HSZ hrow hrow' c0 hqb'
      gi_loopw [22] (fun i wx => ∃ j : Nat, j ≤ 16 ∧ i = .int .i64 j ∧ Hid (J (whichN T (16 * p + j)) wx) ∧ Hid (Only (Sx lb w1) w1 wx) ∧ Hid (∀ i, ownAtBox lb wx i → w1.heap.size ≤ i)) (fun i _ => 16 - (intOf i).toNat)
      case atStart => exact ⟨0, Nat.zero_le _, rfl, hJk, HS, HOB⟩
      case round =>
        clear hJk HS HOB HMr
        obtain ⟨j, hj, rfl, hJj, HSj, HOj⟩ := hrel
        by_cases hjl : j < 16
        · have hj0 : (0 : Int) ≤ (j : Int) := by omega
          have hj1 : (j : Int) < 16 := by omega
          have hix := fun w' => run_index_tags f j hjl w'
          cases hT : T (16 * p + j) with
          | false =>
            have hfj : f j = false := (HF.out j).trans hT
            have HW : Hid (whichN T (16 * p + (j + 1)) = whichN T (16 * p + j)) := hid (whichN_no hT)
            clear hT
            gi_wp2
            refine ⟨(fun f h => by cases h), ?_⟩
            gi_wp2
            go_roundw
            case rel => exact ⟨j + 1, by omega, by go_num, by rw [HW.out]; exact hJj, HSj, HOj⟩
            case measure => simp [intOf]; omega
          | true =>
            have hfj : f j = true := (HF.out j).trans hT
            have HW : Hid (whichN T (16 * p + (j + 1)) = whichN T (16 * p + j) ++ [16 * p + j]) := hid (whichN_yes hT)
            clear hT
            obtain ⟨fn, tmps, assign, body, hy, hR⟩ := HY.out (whichN T (16 * p + j)) (16 * p + j) wr hJj.out (by have := whichN_len T (16 * p + j); omega)
            rw [show ((16 * (16 * p + j) : Nat) : Int) = (p : Int) * 256 + (j : Int) * 16 by omega] at hy
            gi_wp2
            refine ⟨(fun _ => by omega), ?_⟩
            refine hR.mono ?_
            clear hR hy
            rintro e W4 (⟨rfl, hJ4, hk4⟩ | ⟨rfl, hJx4⟩)
            · obtain ⟨hS4, hO4⟩ := Sx.step HSj.out HOj.out hk4
              gi_wp2
              go_roundw
              case rel => exact ⟨j + 1, by omega, by go_num, by rw [HW.out]; exact hid hJ4, hid hS4, hid hO4⟩
              case measure => simp [intOf]; omega
            · gi_wp2
              refine bodyPost_ret (results_none rfl _ _ _) rfl ?_
              exact ⟨⟨_, rfl⟩, .inr ⟨_, trivial, hJx4⟩⟩
        · obtain rfl : j = 16 := by omega
          gi_wp2
          go_roundw
          case rel => exact ⟨k + 1, by omega, by go_num, by rw [HTS.out]; exact hJj, HSj, HOj⟩
          case measure => simp [intOf]; omega
    · obtain rfl : k = dn := by omega
      have hk1 : ¬ (k : Int) < (k : Int) := by omega
      rw [upto_end (by rw [HDN.out]; exact Nat.le_refl _)] at hJk
      gi_wp2
      go_end0
      exact ⟨⟨_, rfl⟩, .inl (by first | exact hJk.out | exact ⟨_, rfl, hJk.out⟩)⟩
end Go.Proofs.Ythamfkbopjagdaa
