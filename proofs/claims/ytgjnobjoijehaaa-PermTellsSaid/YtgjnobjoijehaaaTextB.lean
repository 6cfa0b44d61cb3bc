/- Layer 1: how permissions are written. -/
import Derived.Test.YtgjnobjoijehaaaText
import Derived.Test.YtgjnobjoijehaaaShelf
namespace Go.Proofs.Ytgjnobjoijehaaa
set_option linter.unusedSimpArgs false
set_option linter.unusedVariables false
open Go.RowKit

theorem builderAt_alloc {T e : TypeId} {B b : Nat} {p : Value} {bs : List Value} {w : World} (h : Lib.BuilderAt T e B b p bs w) (o : Obj) : Lib.BuilderAt T e B b p bs (w.alloc o) := by
  obtain ⟨h1, v, h2, h3, h4⟩ := h
  exact ⟨h1, v, (Below.heap_alloc _ _ _ (Array.getElem?_eq_some_iff.1 h2).1).trans h2, h3.alloc o, h4⟩
theorem ownsRow_cells {w w' : World} {base : Nat} {e : TypeId} {size : Nat} {v : Value} {n : Nat} {xs : List Value} (h : w.ownsRow base e size v n xs)
    (hk : ∀ (j : Nat) c t f, w.heap[j]? = some (Obj.cells c t f) → w'.heap[j]? = some (Obj.cells c t f)) : w'.ownsRow base e size v n xs := by
  obtain ⟨h1, h2⟩ := h
  refine ⟨h1, ?_⟩
  rcases h2 with h2 | ⟨g, cap, cur, hv, hg, hh, r⟩
  · exact .inl h2
  · exact .inr ⟨g, cap, cur, hv, hg, hk _ _ _ _ hh, r⟩
theorem isBuilder_cells {T e : TypeId} {B b : Nat} {bs : List Value} {w w' : World} (h : Lib.IsBuilder T e B b bs w)
    (hk : ∀ (j : Nat) c t f, w.heap[j]? = some (Obj.cells c t f) → w'.heap[j]? = some (Obj.cells c t f)) : Lib.IsBuilder T e B b bs w' := by
  rcases h with ⟨h1, v, h2, h3, h4⟩ | ⟨h1, v, h2, h3, h4⟩
  · exact .inl ⟨h1, v, hk _ _ _ _ h2, ownsRow_cells h3 hk, h4⟩
  · exact .inr ⟨h1, v, hk _ _ _ _ h2, ownsRow_cells h3 hk, h4⟩
theorem iterAt_cells {w : World} {b : Nat} {s : ByteArray} {pos : Nat} (hit : w.heap[b]? = some (.stringIter s pos)) (pos' : Nat) :
    ∀ (j : Nat) c t f, w.heap[j]? = some (Obj.cells c t f) → (w.iterAt b s pos').heap[j]? = some (Obj.cells c t f) := fun j c t f h => by
  rw [Lib.iterAt_other w b j s pos' (fun e => by subst e; rw [hit] at h; cases h)]
  exact h
theorem isBuilder_alloc {T e : TypeId} {B b : Nat} {bs : List Value} {w : World} (h : Lib.IsBuilder T e B b bs w) (o : Obj) : Lib.IsBuilder T e B b bs (w.alloc o) := by
  rcases h with h | h
  · exact .inl (builderAt_alloc h o)
  · exact .inr (builderAt_alloc h o)
def letters : ByteArray := ⟨#[114, 119, 120, 108, 115, 101, 117]⟩
def letter (k : Nat) : UInt8 := letters.data.getD k 0
def textTo (p : Int) (k : Nat) : List UInt8 := ((List.range k).filter (fun i => hasB p (wrap64 (2 ^ i)))).map letter
theorem textTo_succ (p : Int) (k : Nat) : textTo p (k + 1) = if hasB p (wrap64 (2 ^ k)) then textTo p k ++ [letter k] else textTo p k := by
  simp only [textTo, List.range_succ, List.filter_append, List.map_append]
  cases h : hasB p (wrap64 (2 ^ k)) <;> simp [h]
theorem textTo_len (p : Int) (k : Nat) : (textTo p k).length ≤ k := by
  have := List.length_filter_le (fun i => hasB p (wrap64 (2 ^ i))) (List.range k)
  simpa [textTo] using this
theorem letter_lt : ∀ k : Nat, k < 7 → (letter k).toNat < 128 := by decide
theorem letter_at : ∀ (k : Nat) (h : k < letters.size), letters[k] = letter k := by
  intro k h
  have : k < 7 := h
  match k, this with
  | 0, _ => rfl
  | 1, _ => rfl
  | 2, _ => rfl
  | 3, _ => rfl
  | 4, _ => rfl
  | 5, _ => rfl
  | 6, _ => rfl

theorem next_letter {P : Program} (w : World) (b k : Nat) (ty : TypeId) (hit : w.heap[b]? = some (.stringIter letters k)) (hlt : k < 7) :
    (Instr.next (.pointer (some ⟨b, 0, none⟩)) true ty).run P w = .ok (.tuple #[.bool true, .int .i64 (k : Int), .int .i32 ((letter k).toNat : Int)]) (w.iterAt b letters (k + 1)) := by
  have h : k < letters.size := hlt
  have := Lib.run_next_ascii_at (P := P) w b letters k ty hit h (by rw [letter_at k h]; exact letter_lt k hlt)
  rwa [letter_at k h] at this

def textB (p : Int) : List UInt8 := if rightB p then (if p = 0 then [45] else textTo p 7) else []

set_option maxHeartbeats 1000000 in
theorem text (p : Int) (w : World) :
    Calls Try.prog 17 #[.int .i64 p] w fun e w' => e = .returned (.string ⟨(textB p).toArray⟩) ∧ Ext w w' := by
  cases hr : rightB p
  · have ht : textB p = [] := by simp [textB, hr]
    rw [ht]
    have HR := hid hr
    clear hr ht
    go_enter Try.func17, Try.ntmps17
    go_wp2_with (go_at_call 13; refine (right _ _).mono ?_; rw [HR.out]; rintro e w' ⟨rfl, rfl⟩)
    go_ret
    exact ⟨rfl, Ext.refl _⟩
  · by_cases h0 : p = 0
    · subst h0
      have ht : textB 0 = [45] := by simp [textB, hr]
      rw [ht]
      have HR := hid hr
      clear hr ht
      go_enter Try.func17, Try.ntmps17
      go_wp2_with (go_at_call 13; refine (right _ _).mono ?_; rw [HR.out]; rintro e w' ⟨rfl, rfl⟩)
      go_ret
      exact ⟨rfl, Ext.refl _⟩
    · have ht : textB p = textTo p 7 := by simp [textB, hr, h0]
      rw [ht]
      have hz : (p == 0) = false := by simpa using h0
      have HR := hid hr
      have H0 := hid h0
      clear hr ht h0
      go_enter Try.func17, Try.ntmps17
      go_wp2_with (go_at_call 13; refine (right _ _).mono ?_; rw [HR.out]; rintro e w' ⟨rfl, rfl⟩)
      have hI0 := Lib.fresh_isBuilder 41 5 w
      have hit0 : ((w.alloc (.cells #[.pointer none, .slice none 0 0] 41)).iter letters 0).heap[w.heap.size + 1]? = some (.stringIter letters 0) := by
        have := World.iter_heap (w.alloc (.cells #[.pointer none, .slice none 0 0] 41)) letters 0
        simpa using this
      have hI1 : Lib.IsBuilder 41 5 w.heap.size w.heap.size [] ((w.alloc (.cells #[.pointer none, .slice none 0 0] 41)).iter letters 0) := isBuilder_alloc hI0 _
      have HIT := hid hit0
      have HI := hid hI1
      clear hit0 hI0 hI1
      go_loopw [] (fun wr => ∃ k, k ≤ 7 ∧ wr.heap[w.heap.size + 1]? = some (.stringIter letters k) ∧ Lib.IsBuilder 41 5 w.heap.size w.heap.size (Lib.byteCells (textTo p k)) wr ∧ Below w.heap.size w wr) (fun wr => 7 - wr.iterPos (w.heap.size + 1))
      case atStart => exact ⟨0, by omega, HIT.out, HI.out, ((Below.refl _ _).alloc (Nat.le_refl _) _).alloc (by simp) _⟩
      case round =>
        obtain ⟨k, hk, hit, hI, hB⟩ := hrel
        have hpos : wr.iterPos (w.heap.size + 1) = k := by simp [World.iterPos, hit]
        have HP := hid hpos
        have HI := hid hI
        have HIT := hid hit
        clear hpos hI
        by_cases hlt : k < 7
        · have hnx := next_letter (P := Try.prog) wr (w.heap.size + 1) k 0 hit hlt
          have hc := letter_lt k hlt
          have hit2 := Lib.iterAt_heap wr (w.heap.size + 1) letters k (k + 1) hit
          have hI2 := isBuilder_cells HI.out (iterAt_cells hit (k + 1))
          have hB2 := Lib.below_iterAt hB (k := w.heap.size + 1) (by omega) letters (k + 1)
          have hlen : (Lib.byteCells (textTo p k)).length ≤ 1000000 := by have := textTo_len p k; simp [Lib.byteCells]; omega
          have hsz : w.heap.size ≤ (wr.iterAt (w.heap.size + 1) letters (k + 1)).heap.size := hB2.size
          have HW := hid (show wr.iterAt (w.heap.size + 1) letters (k + 1) = wr.iterAt (w.heap.size + 1) letters (k + 1) from rfl)
          have HIT2 := hid hit2
          have HI2 := hid hI2
          have HS := hid (textTo_succ p k)
          clear hit hit2 hI2
          go_wp2_with (first
            | (go_at_call 15; refine (has _ _ _).mono ?_; rintro e w' ⟨rfl, rfl⟩)
            | (go_at_call 25; refine (writeRune w.heap.size w.heap.size (Lib.byteCells (textTo p k)) (letter k).toNat hc _ HI2.out hlen hsz).mono ?_; rintro e w3 ⟨rfl, hI3, hB3, hO3⟩))
          · have hit3 := hO3.iter HIT2.out (by omega)
            have hp : hasB p (wrap64 (2 ^ k)) = true := by assumption
            go_roundw
            case rel => exact ⟨k + 1, by omega, hit3, by rw [HS.out, if_pos hp]; simpa [Lib.byteCells] using hI3, hB2.trans hB3⟩
            case measure => rw [HP.out]; simp [World.iterPos, hit3]; omega
          · have hp : ¬ hasB p (wrap64 (2 ^ k)) = true := by rw [Bool.not_eq_true]; assumption
            go_roundw
            case rel => exact ⟨k + 1, by omega, HIT2.out, by rw [HS.out, if_neg hp]; exact HI2.out, hB2⟩
            case measure => rw [HP.out]; have := HIT2.out; simp [World.iterPos, this]; omega
        · obtain rfl : k = 7 := by omega
          have hnx := Lib.run_next_end_at (P := Try.prog) wr (w.heap.size + 1) letters 7 0 hit (by decide)
          have hsz : w.heap.size ≤ wr.heap.size := hB.size
          clear hit
          go_wp2_with (go_at_call 26; refine (Try.Builder_String_any w.heap.size w.heap.size (textTo p 7) _ HI.out hsz).mono ?_; rintro e w3 ⟨rfl, hB3⟩)
          go_ret
          exact ⟨rfl, hB.trans hB3⟩
end Go.Proofs.Ytgjnobjoijehaaa
