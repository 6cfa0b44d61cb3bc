/- Layer 14: the map of what is live. -/
import Derived.Test.YtoeiemeffiiidaaDoorMBase
namespace Go.Proofs.YtoeiemeffiiidaaDoor
set_option linter.unusedSimpArgs false
set_option linter.unusedVariables false
open Go.RowKit

def putMap (w : World) (g : Nat) (es : Array MapEntry) (c : Nat) : World := { w with heap := w.heap.setIfInBounds g (.map es c) }
theorem putMap_size (w : World) (g : Nat) (es : Array MapEntry) (c : Nat) : (putMap w g es c).heap.size = w.heap.size := by simp [putMap]
theorem putMap_self {w : World} {g : Nat} (h : g < w.heap.size) (es : Array MapEntry) (c : Nat) : (putMap w g es c).heap[g]? = some (.map es c) := by simp [putMap, h]
theorem putMap_other (w : World) {g k : Nat} (h : g ≠ k) (es : Array MapEntry) (c : Nat) : (putMap w g es c).heap[k]? = w.heap[k]? := by simp [putMap, Array.getElem?_setIfInBounds_ne h]
theorem putMap_cell (w : World) {g b o : Nat} (h : g ≠ b) (es : Array MapEntry) (c : Nat) : (putMap w g es c).cell? ⟨b, o, none⟩ = w.cell? ⟨b, o, none⟩ := by
  unfold World.cell?
  simp only [putMap_other w h]
theorem Ext.putMap {a w : World} (h : Ext a w) {g : Nat} (hg : a.heap.size ≤ g) (es : Array MapEntry) (c : Nat) : Ext a (putMap w g es c) :=
  ⟨h.os, h.tape, h.output, by rw [putMap_size]; exact h.size, fun k hk => by rw [putMap_other w (by omega)]; exact h.block k hk⟩
theorem underlying_run {P : Program} {t : TypeId} {d : TypeDesc} (h : P.underlying t = some d) (w : World) : (underlying t).run P w = .ok d w := by
  unfold underlying
  simp [go_sem, h]
theorem check_int {P : Program} {kt : TypeId} (hk : P.underlying kt = some (.int .i64)) (em : Bool) (n : Nat) (k : Int) (w : World) : (Instr.checkKey em (n + 1) kt (.int .i64 k)).run P w = .ok () w := by
  unfold Instr.checkKey
  simp [go_sem, underlying_run hk]
theorem run_find {P : Program} {kt : TypeId} (hk : P.underlying kt = some (.int .i64)) (w : World) {es : List MapEntry} {k : Int} {r : Option (Nat × Value)} (hn : Instr.findNow (.int .i64) (.int .i64 k) es 0 = some r) :
    (Instr.findKey kt (.int .i64 k) es).run P w = .ok r w := by
  unfold Instr.findKey
  simp [go_sem, underlying_run hk, hn]
theorem getObj_run {P : Program} {w : World} {g : Nat} {es : Array MapEntry} {c : Nat} (hb : w.heap[g]? = some (.map es c)) : (getObj g).run P w = .ok (.map es c) w := by
  unfold getObj
  simp only [Sem.run, hb]
theorem setObj_run {P : Program} {w : World} {g : Nat} {es : Array MapEntry} {c : Nat} (hb : w.heap[g]? = some (.map es c)) (es' : Array MapEntry) (c' : Nat) : (setObj g (.map es' c')).run P w = .ok () (putMap w g es' c') := by
  unfold setObj
  simp only [Sem.run, hb]
  rfl
theorem run_insert {P : Program} {t kt et : TypeId} (ht : P.underlying t = some (.map kt et)) (hk : P.underlying kt = some (.int .i64)) (w : World) {g : Nat} {es : Array MapEntry} {c : Nat} (hb : w.heap[g]? = some (.map es c))
    (k : Int) (v : Value) (hn : Instr.findNow (.int .i64) (.int .i64 k) es.toList 0 = some none) :
    (Instr.mapUpdate t (.map (some g)) (.int .i64 k) v).run P w = .ok () (putMap w g (es.push ⟨.int .i64 k, v, c⟩) (c + 1)) := by
  have hck : ∀ em w, (Instr.checkKey em 10000 kt (.int .i64 k)).run P w = .ok () w := fun em w => check_int hk em 9999 k w
  have hfk := run_find hk w hn
  unfold Instr.mapUpdate
  simp [go_sem, underlying_run ht, getObj_run hb, hck, hfk, setObj_run hb]
theorem run_look {P : Program} {t kt et : TypeId} (ht : P.underlying t = some (.map kt et)) (hk : P.underlying kt = some (.int .i64)) (w : World) {g : Nat} {es : Array MapEntry} {c : Nat} (hb : w.heap[g]? = some (.map es c))
    (k : Int) (z : Value) (hz : (zeroValue et).run P w = .ok z w) (r : Option (Nat × Value)) (hn : Instr.findNow (.int .i64) (.int .i64 k) es.toList 0 = some r) :
    (Instr.lookup t (.map (some g)) (.int .i64 k) true).run P w = .ok (.tuple #[(r.map (·.2)).getD z, .bool r.isSome]) w := by
  have hck : ∀ em w, (Instr.checkKey em 10000 kt (.int .i64 k)).run P w = .ok () w := fun em w => check_int hk em 9999 k w
  have hfk := run_find hk w hn
  unfold Instr.lookup
  cases r <;> simp [go_sem, underlying_run ht, getObj_run hb, hck, hfk, hz]
/-- What is live: where, how many bytes were asked for, and how many it takes. -/
structure Lv where
  at_ : Int
  asked : Int
  takes : Int
instance : Inhabited Lv := ⟨⟨0, 0, 0⟩⟩
def Lv.val (x : Lv) : Value := .agg #[.int .i64 x.asked, .int .i64 x.takes]
def entP (p : Lv × Nat) : MapEntry := ⟨.int .i64 p.1.at_, p.1.val, p.2⟩
/-- The map at a block, in the order in which entries were laid. -/
def MapAt (w : World) (g : Nat) (lv : List Lv) : Prop := ∃ (ps : List (Lv × Nat)) (c : Nat), ps.map Prod.fst = lv ∧ (ps.map Prod.snd).Nodup ∧ (∀ p ∈ ps, p.2 < c) ∧ w.heap[g]? = some (.map (ps.map entP).toArray c)
theorem MapAt.lt {w : World} {g : Nat} {lv : List Lv} (h : MapAt w g lv) : g < w.heap.size := by
  obtain ⟨ps, c, _, _, _, h4⟩ := h
  exact (Array.getElem?_eq_some_iff.1 h4).1
theorem MapAt.only {S : Nat → Prop} {w w' : World} {g : Nat} {lv : List Lv} (h : MapAt w g lv) (x : Only S w w') (hn : ¬ S g) : MapAt w' g lv := by
  have hl := h.lt
  obtain ⟨ps, c, h1, h2, h3, h4⟩ := h
  exact ⟨ps, c, h1, h2, h3, (x.block g hl hn).trans h4⟩
theorem MapAt.ext {w w' : World} {g : Nat} {lv : List Lv} (h : MapAt w g lv) (x : Ext w w') : MapAt w' g lv := h.only (Only.ofExt (S := fun _ => False) x) id
/-- Which one begins there. -/
def idxL (lv : List Lv) (k : Int) : Option Nat := lv.findIdx? (fun x => x.at_ == k)
theorem findNow_ent (k : Int) : ∀ (ps : List (Lv × Nat)) (i : Nat), Instr.findNow (.int .i64) (.int .i64 k) (ps.map entP) i = some ((idxL (ps.map Prod.fst) k).map fun j => (i + j, (((ps.map Prod.fst).getD j default : Lv)).val))
  | [], i => rfl
  | p :: ps, i => by
    have ih := findNow_ent k ps (i + 1)
    unfold idxL at ih ⊢
    rw [List.map_cons, List.map_cons, List.findIdx?_cons]
    by_cases hk : p.1.at_ = k
    · have hs : Instr.sameNow (.int .i64) (.int .i64 k) (entP p).key = some true := by simp [entP, Instr.sameNow, hk]
      unfold Instr.findNow
      rw [hs]
      simp [hk, entP]
    · have hs : Instr.sameNow (.int .i64) (.int .i64 k) (entP p).key = some false := by simp [entP, Instr.sameNow]; exact fun e => hk e.symm
      unfold Instr.findNow
      rw [hs]
      simp only
      rw [ih]
      have hb : (p.1.at_ == k) = false := by simpa using hk
      rw [hb]
      simp only [Bool.false_eq_true, if_false, Option.map_map]
      generalize List.findIdx? (fun x => x.at_ == k) (List.map Prod.fst ps) = rr
      cases rr with
      | none => rfl
      | some j =>
        simp [Function.comp]
        omega
theorem map_erase {α β : Type} (f : α → β) : ∀ (l : List α) (i : Nat), (l.eraseIdx i).map f = (l.map f).eraseIdx i
  | [], _ => rfl
  | _ :: _, 0 => rfl
  | _ :: l, i + 1 => by simp [List.eraseIdx, map_erase f l i]
theorem run_delete {P : Program} {t t2 ty kt et : TypeId} (ht : P.underlying t = some (.map kt et)) (hk : P.underlying kt = some (.int .i64)) (w : World) {g : Nat} {es : Array MapEntry} {c : Nat} (hb : w.heap[g]? = some (.map es c))
    (k : Int) (i : Nat) (v : Value) (hn : Instr.findNow (.int .i64) (.int .i64 k) es.toList 0 = some (some (i, v))) :
    (Builtin.delete_ #[t, t2] ty #[.map (some g), .int .i64 k]).run P w = .ok (.tuple #[]) (putMap w g (es.eraseIdxIfInBounds i) c) := by
  have hck : ∀ em w, (Instr.checkKey em 10000 kt (.int .i64 k)).run P w = .ok () w := fun em w => check_int hk em 9999 k w
  have hfk := run_find hk w hn
  unfold Builtin.delete_
  simp [go_sem, underlying_run ht, getObj_run hb, hck, hfk, setObj_run hb]
theorem Only.putMap {w : World} {g : Nat} (es : Array MapEntry) (c : Nat) : Only (· = g) w (putMap w g es c) :=
  ⟨rfl, rfl, rfl, by rw [putMap_size]; exact Nat.le_refl _, fun k hk hn => putMap_other w (fun e => hn e.symm) es c⟩
section
variable {w : World} {g : Nat} {lv : List Lv}
theorem idxL_none {k : Int} : idxL lv k = none ↔ ∀ x ∈ lv, ¬ x.at_ = k := by
  unfold idxL
  rw [List.findIdx?_eq_none_iff]
  simp
/-- An entry is laid. -/
theorem MapAt.insert (h : MapAt w g lv) (z : Lv) (hz : idxL lv z.at_ = none) : ∃ w', (∀ (P : Program) (t kt et : TypeId), P.underlying t = some (.map kt et) → P.underlying kt = some (.int .i64) → (Instr.mapUpdate t (.map (some g)) (.int .i64 z.at_) z.val).run P w = .ok () w') ∧ MapAt w' g (lv ++ [z]) ∧ Only (· = g) w w' := by
  have hl := h.lt
  obtain ⟨ps, c, rfl, h2, h3, h4⟩ := h
  refine ⟨putMap w g ((ps.map entP).toArray.push ⟨.int .i64 z.at_, z.val, c⟩) (c + 1), fun P t kt et ht hk => run_insert ht hk w h4 z.at_ z.val ?_, ⟨ps ++ [(z, c)], c + 1, by simp, ?_, ?_, ?_⟩, Only.putMap _ _⟩
  · have := findNow_ent z.at_ ps 0
    rw [hz] at this
    simpa using this
  · rw [List.map_append, List.nodup_append]
    refine ⟨h2, by simp, ?_⟩
    intro a ha b hb e
    obtain ⟨p, hp, rfl⟩ := List.mem_map.1 ha
    have := h3 p hp
    simp at hb
    omega
  · intro p hp
    rcases List.mem_append.1 hp with hp | hp
    · have := h3 p hp
      omega
    · simp at hp
      subst hp
      exact Nat.lt_succ_self _
  · rw [putMap_self hl]
    simp [entP]
/-- An entry is taken out. -/
theorem MapAt.delete (h : MapAt w g lv) {k : Int} {i : Nat} (hi : idxL lv k = some i) : ∃ w', (∀ (P : Program) (t t2 ty kt et : TypeId), P.underlying t = some (.map kt et) → P.underlying kt = some (.int .i64) → (Builtin.delete_ #[t, t2] ty #[.map (some g), .int .i64 k]).run P w = .ok (.tuple #[]) w') ∧ MapAt w' g (lv.eraseIdx i) ∧ Only (· = g) w w' := by
  have hl := h.lt
  obtain ⟨ps, c, rfl, h2, h3, h4⟩ := h
  refine ⟨putMap w g ((ps.map entP).toArray.eraseIdxIfInBounds i) c, fun P t t2 ty kt et ht hk => run_delete ht hk w h4 k i _ (by
    have := findNow_ent k ps 0
    rw [hi] at this
    simpa using this), ⟨ps.eraseIdx i, c, ?_, ?_, ?_, ?_⟩, Only.putMap _ _⟩
  · rw [map_erase]
  · rw [map_erase]
    exact (List.eraseIdx_sublist _ _).nodup h2
  · exact fun p hp => h3 p (List.mem_of_mem_eraseIdx hp)
  · rw [putMap_self hl, map_erase]
    simp
/-- What is found. -/
theorem MapAt.look (h : MapAt w g lv) (k : Int) (P : Program) (t kt et : TypeId) (ht : P.underlying t = some (.map kt et)) (hk : P.underlying kt = some (.int .i64)) (z : Value) (hz : (zeroValue et).run P w = .ok z w) :
    (Instr.lookup t (.map (some g)) (.int .i64 k) true).run P w = .ok (.tuple #[((idxL lv k).map fun j => (lv.getD j default).val).getD z, .bool (idxL lv k).isSome]) w := by
  obtain ⟨ps, c, rfl, h2, h3, h4⟩ := h
  have h5 := findNow_ent k ps 0
  have := run_look ht hk w h4 k z hz _ (by simpa using h5)
  rw [this]
  cases idxL (ps.map Prod.fst) k <;> simp
end

end Go.Proofs.YtoeiemeffiiidaaDoor
