/- Layer 7: the memory. -/
import Derived.Test.YtgpeabbbeidhpaaStepO
import Derived.Test.YtgpeabbbeidhpaaStep
import Derived.Test.YtgpeabbbeidhpaaOwnAt
import Derived.Test.YtgpeabbbeidhpaaEncB
import Derived.Test.YtgpeabbbeidhpaaEncC
import Derived.Test.YtgpeabbbeidhpaaBytes
namespace Go.Proofs.Ytgpeabbbeidhpaa
set_option linter.unusedSimpArgs false
set_option linter.unusedVariables false
open Go.RowKit

theorem heap_setCell (w : World) (b o : Nat) (v : Value) (i : Nat) : (w.setCell ⟨b, o, none⟩ v).heap[i]? = if b = i then (w.heap[i]?).map (fun | .cells c e f => .cells (c.setIfInBounds o v) e f | x => x) else w.heap[i]? := by
  unfold World.setCell
  simp only [Array.getElem?_modify]
  split
  · congr 1
  · rfl
theorem cell_setCell_self (w : World) (b o : Nat) (v : Value) : (w.setCell ⟨b, o, none⟩ v).cell? ⟨b, o, none⟩ = (w.cell? ⟨b, o, none⟩).map fun _ => v := by
  unfold World.cell?
  rw [heap_setCell]
  simp only [if_true]
  cases h : w.heap[b]? with
  | none => rfl
  | some x =>
    cases x with
    | cells c e f =>
      simp
      by_cases hl : o < c.size
      · simp [hl]
      · simp [hl]
    | _ => rfl
theorem cell_setCell_far (w : World) (b o b' o' : Nat) (v : Value) (h : ¬ (b' = b ∧ o' = o)) : (w.setCell ⟨b, o, none⟩ v).cell? ⟨b', o', none⟩ = w.cell? ⟨b', o', none⟩ := by
  unfold World.cell?
  rw [heap_setCell]
  by_cases hb : b = b'
  · subst hb
    simp only [if_true]
    cases w.heap[b]? with
    | none => rfl
    | some x =>
      cases x with
      | cells c e f =>
        simp
        rw [Array.getElem?_setIfInBounds, if_neg (by omega)]
      | _ => rfl
  · rw [if_neg hb]
/-- Cells that are laid, one behind the other. -/
theorem cell_setCells (b : Nat) : ∀ (cs : List Value) (o : Nat) (w : World) (b' x : Nat), (∀ j, j < cs.length → (w.cell? ⟨b, o + j, none⟩).isSome = true) →
    (w.setCells b o cs).cell? ⟨b', x, none⟩ = if b' = b ∧ o ≤ x ∧ x < o + cs.length then cs[x - o]? else w.cell? ⟨b', x, none⟩
  | [], o, w, b', x, _ => by rw [World.setCells, if_neg (by simp only [List.length_nil]; omega)]
  | v :: cs, o, w, b', x, h => by
    rw [World.setCells, cell_setCells b cs (o + 1) _ b' x (fun j hj => by
      have := h (j + 1) (by simp only [List.length_cons]; omega)
      rw [cell_setCell_far _ _ _ _ _ _ (by omega)]
      rwa [show o + 1 + j = o + (j + 1) by omega])]
    by_cases e : b' = b ∧ x = o
    · obtain ⟨rfl, rfl⟩ := e
      rw [if_neg (by omega), if_pos (by simp), Nat.sub_self, cell_setCell_self]
      have := h 0 (by simp)
      rw [Nat.add_zero] at this
      obtain ⟨u, hu⟩ := Option.isSome_iff_exists.1 this
      rw [hu]
      rfl
    · rw [cell_setCell_far _ _ _ _ _ _ e]
      by_cases c : b' = b ∧ o + 1 ≤ x ∧ x < o + 1 + cs.length
      · rw [if_pos c, if_pos (by simp only [List.length_cons]; omega), show x - o = (x - (o + 1)) + 1 by omega, List.getElem?_cons_succ]
      · rw [if_neg c, if_neg (by simp only [List.length_cons]; omega)]
theorem frozen_setCells (b : Nat) : ∀ (cs : List Value) (o : Nat) (w : World) (p : Addr), (w.setCells b o cs).frozen? p = w.frozen? p
  | [], _, _, _ => rfl
  | v :: cs, o, w, p => by rw [World.setCells, frozen_setCells b cs (o + 1), World.frozen?_setCell]
theorem size_setCells (b : Nat) : ∀ (cs : List Value) (o : Nat) (w : World), (w.setCells b o cs).heap.size = w.heap.size
  | [], _, _ => rfl
  | v :: cs, o, w => by rw [World.setCells, size_setCells b cs (o + 1), World.size_setCell]
/-- The memory: bytes, which granules are tagged, which pages are dirty. -/
structure Mm (w : World) (q g n : Nat) (B : Nat → Int) (T D : Nat → Bool) : Prop where
  ne : ¬ q = g
  ltq : q < w.heap.size
  ltg : g < w.heap.size
  c0 : w.cell? ⟨q, 0, none⟩ = some (.slice (some ⟨g, 0, none⟩) n n)
  by_ : ∀ p i, p < n → i < 256 → w.cell? ⟨g, p * 273 + i, none⟩ = some (.int .u8 (B (256 * p + i)))
  tg : ∀ p i, p < n → i < 16 → w.cell? ⟨g, p * 273 + 256 + i, none⟩ = some (.bool (T (16 * p + i)))
  dt : ∀ p, p < n → w.cell? ⟨g, p * 273 + 272, none⟩ = some (.bool (D p))
  fz : ∀ x, w.frozen? ⟨g, x, none⟩ = false
  bd : 1 ≤ n ∧ n ≤ 65536
  rg : ∀ a, 0 ≤ B a ∧ B a ≤ 255
  inv : ∀ t, T t = true → D (t / 16) = true
  tout : ∀ t, 16 * n ≤ t → T t = false
  dout : ∀ p, n ≤ p → D p = false
section
variable {S : Nat → Prop} {w w' : World} {q g n : Nat} {B B' : Nat → Int} {T T' D D' : Nat → Bool}
theorem Mm.only (h : Mm w q g n B T D) (x : Only S w w') (hq : ¬ S q) (hg : ¬ S g) : Mm w' q g n B T D :=
  ⟨h.ne, Nat.lt_of_lt_of_le h.ltq x.size, Nat.lt_of_lt_of_le h.ltg x.size, (x.cells q _ h.ltq hq).trans h.c0, fun p i h1 h2 => (x.cells g _ h.ltg hg).trans (h.by_ p i h1 h2), fun p i h1 h2 => (x.cells g _ h.ltg hg).trans (h.tg p i h1 h2),
    fun p h1 => (x.cells g _ h.ltg hg).trans (h.dt p h1), fun y => (x.frozens g _ h.ltg hg).trans (h.fz y), h.bd, h.rg, h.inv, h.tout, h.dout⟩
theorem Mm.ext (h : Mm w q g n B T D) (x : Ext w w') : Mm w' q g n B T D := h.only (Only.ofExt (S := fun _ => False) x) id id
/-- One cell of it turns. -/
theorem Mm.cellAt (h : Mm w q g n B T D) {x : Nat} {v : Value} (hx : (w.cell? ⟨g, x, none⟩).isSome = true) (y : Nat) : (w.setCell ⟨g, x, none⟩ v).cell? ⟨g, y, none⟩ = if y = x then some v else w.cell? ⟨g, y, none⟩ := by
  by_cases e : y = x
  · subst e
    rw [if_pos rfl, cell_setCell_self]
    obtain ⟨u, hu⟩ := Option.isSome_iff_exists.1 hx
    rw [hu]
    rfl
  · rw [if_neg e, cell_setCell_far _ _ _ _ _ _ (by omega)]
end
/-- One of all turns. -/
def upd1 {α : Type} (f : Nat → α) (i : Nat) (v : α) : Nat → α := fun j => if j = i then v else f j
theorem upd1_self {α : Type} (f : Nat → α) (i : Nat) (v : α) : upd1 f i v i = v := if_pos rfl
theorem upd1_ne {α : Type} (f : Nat → α) {i j : Nat} (v : α) (h : ¬ j = i) : upd1 f i v j = f j := if_neg h
section
variable {w : World} {q g n : Nat} {B : Nat → Int} {T D : Nat → Bool}
theorem Mm.untag (h : Mm w q g n B T D) {p i : Nat} (hp : p < n) (hi : i < 16) : Mm (w.setCell ⟨g, p * 273 + 256 + i, none⟩ (.bool false)) q g n B (upd1 T (16 * p + i) false) D := by
  have hs : (w.cell? ⟨g, p * 273 + 256 + i, none⟩).isSome = true := by rw [h.tg p i hp hi]; rfl
  refine ⟨h.ne, by rw [World.size_setCell]; exact h.ltq, by rw [World.size_setCell]; exact h.ltg, ?_, fun p' i' h1 h2 => ?_, fun p' i' h1 h2 => ?_, fun p' h1 => ?_, fun y => by rw [World.frozen?_setCell]; exact h.fz y, h.bd, h.rg, fun t ht => ?_, fun t ht => ?_, h.dout⟩
  · rw [cell_setCell_far _ _ _ _ _ _ (fun e => h.ne e.1)]
    exact h.c0
  · rw [h.cellAt hs, if_neg (by omega)]
    exact h.by_ p' i' h1 h2
  · rw [h.cellAt hs]
    by_cases e : p' = p ∧ i' = i
    · obtain ⟨rfl, rfl⟩ := e
      rw [if_pos rfl, upd1_self]
    · rw [if_neg (by omega), upd1_ne _ _ (by omega)]
      exact h.tg p' i' h1 h2
  · rw [h.cellAt hs, if_neg (by omega)]
    exact h.dt p' h1
  · unfold upd1 at ht
    split at ht
    · cases ht
    · exact h.inv t ht
  · unfold upd1
    split
    · rfl
    · exact h.tout t ht
theorem Mm.clean (h : Mm w q g n B T D) {p : Nat} (hp : p < n) (hc : ∀ i, i < 16 → T (16 * p + i) = false) : Mm (w.setCell ⟨g, p * 273 + 272, none⟩ (.bool false)) q g n B T (upd1 D p false) := by
  have hs : (w.cell? ⟨g, p * 273 + 272, none⟩).isSome = true := by rw [h.dt p hp]; rfl
  refine ⟨h.ne, by rw [World.size_setCell]; exact h.ltq, by rw [World.size_setCell]; exact h.ltg, ?_, fun p' i' h1 h2 => ?_, fun p' i' h1 h2 => ?_, fun p' h1 => ?_, fun y => by rw [World.frozen?_setCell]; exact h.fz y, h.bd, h.rg, fun t ht => ?_, h.tout, fun p' hp' => ?_⟩
  · rw [cell_setCell_far _ _ _ _ _ _ (fun e => h.ne e.1)]
    exact h.c0
  · rw [h.cellAt hs, if_neg (by omega)]
    exact h.by_ p' i' h1 h2
  · rw [h.cellAt hs, if_neg (by omega)]
    exact h.tg p' i' h1 h2
  · rw [h.cellAt hs]
    by_cases e : p' = p
    · subst e
      rw [if_pos rfl, upd1_self]
    · rw [if_neg (by omega), upd1_ne _ _ e]
      exact h.dt p' h1
  · have h1 := h.inv t ht
    unfold upd1
    by_cases e : t / 16 = p
    · exfalso
      have := hc (t % 16) (Nat.mod_lt _ (by decide))
      rw [← e, Nat.div_add_mod] at this
      rw [this] at ht
      cases ht
    · rw [if_neg e]
      exact h1
  · unfold upd1
    split
    · rfl
    · exact h.dout p' hp'
theorem Mm.retag (h : Mm w q g n B T D) {p i : Nat} (hp : p < n) (hi : i < 16) (b : Bool) : Mm ((w.setCell ⟨g, p * 273 + 256 + i, none⟩ (.bool b)).setCell ⟨g, p * 273 + 272, none⟩ (.bool (D p || b))) q g n B (upd1 T (16 * p + i) b) (upd1 D p (D p || b)) := by
  have hs : (w.cell? ⟨g, p * 273 + 256 + i, none⟩).isSome = true := by rw [h.tg p i hp hi]; rfl
  have hs1 : ∀ y, (w.setCell ⟨g, p * 273 + 256 + i, none⟩ (.bool b)).cell? ⟨g, y, none⟩ = if y = p * 273 + 256 + i then some (.bool b) else w.cell? ⟨g, y, none⟩ := fun y => h.cellAt hs y
  have hs2 : ((w.setCell ⟨g, p * 273 + 256 + i, none⟩ (.bool b)).cell? ⟨g, p * 273 + 272, none⟩).isSome = true := by rw [hs1, if_neg (by omega), h.dt p hp]; rfl
  have hs3 : ∀ y, ((w.setCell ⟨g, p * 273 + 256 + i, none⟩ (.bool b)).setCell ⟨g, p * 273 + 272, none⟩ (.bool (D p || b))).cell? ⟨g, y, none⟩ = if y = p * 273 + 272 then some (.bool (D p || b)) else if y = p * 273 + 256 + i then some (.bool b) else w.cell? ⟨g, y, none⟩ := fun y => by
    by_cases e : y = p * 273 + 272
    · subst e
      rw [if_pos rfl, cell_setCell_self]
      obtain ⟨u, hu⟩ := Option.isSome_iff_exists.1 hs2
      rw [hu]
      rfl
    · rw [if_neg e, cell_setCell_far _ _ _ _ _ _ (by omega), hs1]
  refine ⟨h.ne, by rw [World.size_setCell, World.size_setCell]; exact h.ltq, by rw [World.size_setCell, World.size_setCell]; exact h.ltg, ?_, fun p' i' h1 h2 => ?_, fun p' i' h1 h2 => ?_, fun p' h1 => ?_, fun y => by rw [World.frozen?_setCell, World.frozen?_setCell]; exact h.fz y, h.bd, h.rg, fun t ht => ?_, fun t ht => ?_, fun p' hp' => ?_⟩
  · rw [cell_setCell_far _ _ _ _ _ _ (fun e => h.ne e.1), cell_setCell_far _ _ _ _ _ _ (fun e => h.ne e.1)]
    exact h.c0
  · rw [hs3, if_neg (by omega), if_neg (by omega)]
    exact h.by_ p' i' h1 h2
  · rw [hs3, if_neg (by omega)]
    by_cases e : p' = p ∧ i' = i
    · obtain ⟨rfl, rfl⟩ := e
      rw [if_pos rfl, upd1_self]
    · rw [if_neg (by omega), upd1_ne _ _ (by omega)]
      exact h.tg p' i' h1 h2
  · rw [hs3]
    by_cases e : p' = p
    · subst e
      rw [if_pos rfl, upd1_self]
    · rw [if_neg (by omega), if_neg (by omega), upd1_ne _ _ e]
      exact h.dt p' h1
  · unfold upd1 at ht ⊢
    by_cases e : t = 16 * p + i
    · rw [if_pos e] at ht
      rw [if_pos (by omega), ht, Bool.or_true]
    · rw [if_neg e] at ht
      have := h.inv t ht
      split
      · rename_i e2
        rw [e2] at this
        rw [this, Bool.true_or]
      · exact this
  · unfold upd1
    rw [if_neg (by omega)]
    exact h.tout t ht
  · unfold upd1
    rw [if_neg (by omega)]
    exact h.dout p' hp'
end
theorem info_page : (Try.prog.info? 65).map (fun i => (i.zero, i.size, i.bytes)) = some (some (.agg (Array.replicate 256 (Value.int .u8 0) ++ Array.replicate 17 (Value.bool false))), 273, 273) := by kernel_rfl
theorem made_at (z : Array Value) (k j : Nat) (hj : j < k) : (madeCells z k).toList[j]? = some (z[j % z.size]!) := by
  unfold madeCells
  simp [hj]
theorem made_pages {w : World} {base g m : Nat} (h : w.ownsRow base 65 273 (.slice (some ⟨g, 0, none⟩) m m) m (madeCells (Array.replicate 256 (Value.int .u8 0) ++ Array.replicate 17 (Value.bool false)) (m * 273)).toList) :
    g < w.heap.size ∧ (∀ x, w.frozen? ⟨g, x, none⟩ = false) ∧ ∀ p j, p < m → j < 273 → w.cell? ⟨g, p * 273 + j, none⟩ = some (if j < 256 then Value.int .u8 0 else Value.bool false) := by
  rcases h.2 with ⟨h0, _⟩ | ⟨g', cap, cur, hv, _, hg, _, _, hs, ht⟩
  · injection h0 with e; cases e
  · injection hv with e1 e2 e3
    injection e1 with e1
    injection e1 with e1
    subst e1
    refine ⟨(Array.getElem?_eq_some_iff.1 hg).1, fun x => by simp [World.frozen?, hg], fun p j hp hj => ?_⟩
    have hlt : p * 273 + j < m * 273 := by
      have : (p + 1) * 273 ≤ m * 273 := Nat.mul_le_mul_right _ hp
      omega
    rw [cell_of_row w g _ cur 65 (0, 0) hg]
    have h1 : (cur.toList.take (m * 273))[p * 273 + j]? = (madeCells (Array.replicate 256 (Value.int .u8 0) ++ Array.replicate 17 (Value.bool false)) (m * 273)).toList[p * 273 + j]? := by rw [ht]
    rw [List.getElem?_take, if_pos hlt, made_at _ _ _ hlt] at h1
    have hsz : (Array.replicate 256 (Value.int .u8 0) ++ Array.replicate 17 (Value.bool false)).size = 273 := by simp
    rw [hsz, show (p * 273 + j) % 273 = j by rw [Nat.mul_comm, Nat.mul_add_mod]; exact Nat.mod_eq_of_lt hj] at h1
    have h2 : (Array.replicate 256 (Value.int .u8 0) ++ Array.replicate 17 (Value.bool false))[j]! = if j < 256 then Value.int .u8 0 else Value.bool false := by
      rw [getElem!_pos _ _ (by rw [hsz]; exact hj), Array.getElem_append]
      simp only [Array.size_replicate, Array.getElem_replicate]
      split <;> rfl
    rw [h2] at h1
    simpa using h1
set_option maxRecDepth 100000 in
set_option maxHeartbeats 4000000 in
theorem tnew_no (k : Int) (w : World) (hk : k < 1 ∨ 65536 < k) : Calls Try.prog 10 #[.int .i64 k] w fun e w' => e = .returned (.pointer none) ∧ w = w' := by
  by_cases h1 : k < 1
  · clear hk
    go_enter Try.func10, Try.ntmps10
    go_wp2
    go_ret
    exact ⟨rfl, rfl⟩
  · have h2 : 65536 < k := hk.resolve_left h1
    clear hk
    go_enter Try.func10, Try.ntmps10
    go_wp2
    go_ret
    exact ⟨rfl, rfl⟩
set_option maxRecDepth 100000 in
set_option maxHeartbeats 4000000 in
theorem tnew_ (n : Nat) (w : World) (h1 : 1 ≤ n) (h2 : n ≤ 65536) : Calls Try.prog 10 #[.int .i64 (n : Int)] w fun e w' => ∃ q, e = .returned (.pointer (some ⟨q, 0, none⟩)) ∧ ∃ g, Hid (Mm w' q g n (fun _ => 0) (fun _ => false) (fun _ => false)) ∧ Hid (Ext w w') ∧ w.heap.size ≤ q ∧ w.heap.size ≤ g := by
  obtain ⟨i0, hi0, hz0, hz1, hz2⟩ := info_parts info_page
  have k1 : ¬ (n : Int) < 1 := by omega
  have k2 : ¬ (65536 : Int) < (n : Int) := by omega
  have H1 := hid h1
  have H2 := hid h2
  clear h1 h2
  go_enter Try.func10, Try.ntmps10
  go_wp2_with (at_make; refine wpList_make_full _ rfl _ _ 52 rfl w.heap.size 65 i0 _ 273 Try.underlying52 hi0 hz0 hz1 .i64 .i64 _ _ n rfl rfl rfl rfl (by rw [hz2]; have := H2.out; omega) (by unfold maxLen; have := H2.out; omega) (Nat.le_refl _) ?_; intro w1 hown hg; have hx1 : Ext w w1 := ⟨hg.os, hg.tape, hg.output, hg.size, fun k hk => hg.block k hk (by simp)⟩; have HM := hid (made_pages hown); clear hown hg)
  go_ret
  obtain ⟨hql, hfz, hc⟩ := HM.out
  have hsz := hx1.size
  have x := Ext.alloc (Ext.refl w1) (.cells #[.slice (some ⟨w.heap.size, 0, none⟩) n n] 54)
  refine ⟨w1.heap.size, rfl, w.heap.size, hid ⟨by omega, by simp, by simp; omega, by simp [go_sem], fun p i h1 h2 => ?_, fun p i h1 h2 => ?_, fun p h1 => ?_, fun y => (x.frozens _ _ hql).trans (hfz y), ⟨H1.out, H2.out⟩, fun a => ⟨Int.le_refl _, by decide⟩, fun t ht => by simp at ht, fun t _ => rfl, fun p _ => rfl⟩, hid (by repeat (first | (with_reducible exact Ext.refl _) | (with_reducible refine Ext.undrew ?_) | (with_reducible refine Ext.grow ?_ _) | (with_reducible refine Ext.drew ?_) | (with_reducible refine Ext.drewN ?_ _) | (with_reducible refine Ext.alloc ?_ _) | (with_reducible assumption) | ((with_reducible refine Ext.setCell ?_ ?_ _); rotate_left; (first | exact Nat.le_refl _ | ((try dsimp only); (try simp only [World.size_alloc, grow_size, World.size_setCell]); omega))))), hsz, Nat.le_refl _⟩
  · rw [x.cells _ _ hql, hc p i h1 (by omega), if_pos h2]
  · rw [x.cells _ _ hql, Nat.add_assoc, hc p (256 + i) h1 (by omega), if_neg (by omega)]
  · rw [x.cells _ _ hql, hc p 272 h1 (by omega), if_neg (by omega)]
set_option maxRecDepth 100000 in
set_option maxHeartbeats 4000000 in
theorem tsize_ (q g n : Nat) (B : Nat → Int) (T D : Nat → Bool) (w : World) (h : Mm w q g n B T D) : Calls Try.prog 31 #[.pointer (some ⟨q, 0, none⟩)] w fun e w' => e = .returned (.int .i64 (256 * (n : Int))) ∧ w = w' := by
  have c0 := h.c0
  have hlq := h.ltq
  have hbd := h.bd
  have he : (n : Int) * 256 = 256 * (n : Int) := Int.mul_comm _ _
  clear h
  go_enter Try.func31, Try.ntmps31
  go_wp2
  go_ret
  exact ⟨by first | rfl | rw [he], rfl⟩
set_option maxRecDepth 100000 in
set_option maxHeartbeats 4000000 in
theorem tspans_yes (q g n : Nat) (B : Nat → Int) (T D : Nat → Bool) (w : World) (h : Mm w q g n B T D) (x k : Int) (h0 : 0 ≤ x) (h1 : 0 ≤ k) (h2 : x ≤ 256 * (n : Int)) (h3 : k ≤ 256 * (n : Int) - x) : Calls Try.prog 41 #[.pointer (some ⟨q, 0, none⟩), .int .i64 x, .int .i64 k] w fun e w' => e = .returned (.bool true) ∧ w = w' := by
  have HH := hid h
  have hbd := h.bd
  have HF := hid h3
  clear h
  go_enter Try.func41, Try.ntmps41
  go_wp2_with (go_at_call 31; refine (tsize_ q g n B T D _ HH.out).mono ?_; rintro e w1 ⟨rfl, rfl⟩)
  go_ret
  exact ⟨by first | rfl | exact congrArg (fun b => Ending.returned (Value.bool b)) (decide_eq_true HF.out) | exact congrArg (fun b => Ending.returned (Value.bool b)) (decide_eq_false (by have := HF.out; omega)), rfl⟩
set_option maxRecDepth 100000 in
set_option maxHeartbeats 4000000 in
theorem tspans_no1 (q g n : Nat) (B : Nat → Int) (T D : Nat → Bool) (w : World) (h : Mm w q g n B T D) (x k : Int) (h0 : x < 0) : Calls Try.prog 41 #[.pointer (some ⟨q, 0, none⟩), .int .i64 x, .int .i64 k] w fun e w' => e = .returned (.bool false) ∧ w = w' := by
  have HH := hid h
  have hbd := h.bd
  skip
  clear h
  go_enter Try.func41, Try.ntmps41
  go_wp2_with (go_at_call 31; refine (tsize_ q g n B T D _ HH.out).mono ?_; rintro e w1 ⟨rfl, rfl⟩)
  go_ret
  exact ⟨by first | rfl | exact congrArg (fun b => Ending.returned (Value.bool b)) (decide_eq_true HF.out) | exact congrArg (fun b => Ending.returned (Value.bool b)) (decide_eq_false (by have := HF.out; omega)), rfl⟩
set_option maxRecDepth 100000 in
set_option maxHeartbeats 4000000 in
theorem tspans_no2 (q g n : Nat) (B : Nat → Int) (T D : Nat → Bool) (w : World) (h : Mm w q g n B T D) (x k : Int) (h0 : 0 ≤ x) (h1 : k < 0) : Calls Try.prog 41 #[.pointer (some ⟨q, 0, none⟩), .int .i64 x, .int .i64 k] w fun e w' => e = .returned (.bool false) ∧ w = w' := by
  have HH := hid h
  have hbd := h.bd
  skip
  clear h
  go_enter Try.func41, Try.ntmps41
  go_wp2_with (go_at_call 31; refine (tsize_ q g n B T D _ HH.out).mono ?_; rintro e w1 ⟨rfl, rfl⟩)
  go_ret
  exact ⟨by first | rfl | exact congrArg (fun b => Ending.returned (Value.bool b)) (decide_eq_true HF.out) | exact congrArg (fun b => Ending.returned (Value.bool b)) (decide_eq_false (by have := HF.out; omega)), rfl⟩
set_option maxRecDepth 100000 in
set_option maxHeartbeats 4000000 in
theorem tspans_no3 (q g n : Nat) (B : Nat → Int) (T D : Nat → Bool) (w : World) (h : Mm w q g n B T D) (x k : Int) (h0 : 0 ≤ x) (h1 : 0 ≤ k) (h2 : 256 * (n : Int) < x) : Calls Try.prog 41 #[.pointer (some ⟨q, 0, none⟩), .int .i64 x, .int .i64 k] w fun e w' => e = .returned (.bool false) ∧ w = w' := by
  have HH := hid h
  have hbd := h.bd
  skip
  clear h
  go_enter Try.func41, Try.ntmps41
  go_wp2_with (go_at_call 31; refine (tsize_ q g n B T D _ HH.out).mono ?_; rintro e w1 ⟨rfl, rfl⟩)
  go_ret
  exact ⟨by first | rfl | exact congrArg (fun b => Ending.returned (Value.bool b)) (decide_eq_true HF.out) | exact congrArg (fun b => Ending.returned (Value.bool b)) (decide_eq_false (by have := HF.out; omega)), rfl⟩
set_option maxRecDepth 100000 in
set_option maxHeartbeats 4000000 in
theorem tspans_no4 (q g n : Nat) (B : Nat → Int) (T D : Nat → Bool) (w : World) (h : Mm w q g n B T D) (x k : Int) (h0 : 0 ≤ x) (h1 : 0 ≤ k) (h2 : x ≤ 256 * (n : Int)) (h3 : 256 * (n : Int) - x < k) : Calls Try.prog 41 #[.pointer (some ⟨q, 0, none⟩), .int .i64 x, .int .i64 k] w fun e w' => e = .returned (.bool false) ∧ w = w' := by
  have HH := hid h
  have hbd := h.bd
  have HF := hid h3
  clear h
  go_enter Try.func41, Try.ntmps41
  go_wp2_with (go_at_call 31; refine (tsize_ q g n B T D _ HH.out).mono ?_; rintro e w1 ⟨rfl, rfl⟩)
  go_ret
  exact ⟨by first | rfl | exact congrArg (fun b => Ending.returned (Value.bool b)) (decide_eq_true HF.out) | exact congrArg (fun b => Ending.returned (Value.bool b)) (decide_eq_false (by have := HF.out; omega)), rfl⟩
/-- So many bytes from there on are in it. -/
def spanP (n : Nat) (x k : Int) : Prop := 0 ≤ x ∧ 0 ≤ k ∧ x ≤ 256 * (n : Int) ∧ k ≤ 256 * (n : Int) - x
theorem tspans_no (q g n : Nat) (B : Nat → Int) (T D : Nat → Bool) (w : World) (h : Mm w q g n B T D) (x k : Int) (hc : ¬ spanP n x k) : Calls Try.prog 41 #[.pointer (some ⟨q, 0, none⟩), .int .i64 x, .int .i64 k] w fun e w' => e = .returned (.bool false) ∧ w = w' := by
  by_cases h0 : x < 0
  · exact tspans_no1 q g n B T D w h x k h0
  by_cases h1 : k < 0
  · exact tspans_no2 q g n B T D w h x k (by omega) h1
  by_cases h2 : 256 * (n : Int) < x
  · exact tspans_no3 q g n B T D w h x k (by omega) (by omega) h2
  by_cases h3 : 256 * (n : Int) - x < k
  · exact tspans_no4 q g n B T D w h x k (by omega) (by omega) (by omega) h3
  exact absurd ⟨by omega, by omega, by omega, by omega⟩ hc

end Go.Proofs.Ytgpeabbbeidhpaa
