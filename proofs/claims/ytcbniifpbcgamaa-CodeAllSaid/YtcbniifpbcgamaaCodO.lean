/- Layer 15: bytes of instructions. -/
import Derived.Test.YtcbniifpbcgamaaCodR
import Derived.Test.YtcbniifpbcgamaaBytes
import Derived.Test.YtcbniifpbcgamaaStepT
namespace Go.Proofs.Ytcbniifpbcgamaa
set_option linter.unusedSimpArgs false
set_option linter.unusedVariables false
open Go.RowKit


theorem RdB.of {w : World} {q o : Nat} {l : List Int} (hq : q < w.heap.size) (h : ∀ j (hj : j < l.length), w.cell? ⟨q, o + j, none⟩ = some (.int .u8 l[j])) : RdB w (some ⟨q, o, none⟩) l := fun _ => ⟨q, o, rfl, hq, h⟩
theorem Ext.owned {a w w' : World} {e : TypeId} {size n : Nat} {v : Value} {xs : List Value} (h : Ext a w) (hown : w.ownsRow a.heap.size e size v n xs) (hg : w.grownBy w' v.ownBlock) : Ext a w' :=
  Below.grown h hg h.size fun k hk => (hown.lt k hk).1
theorem OwnB.more {w : World} {base : Nat} {v : Value} {l m : List Int} (h : w.ownsRow base 5 1 v (l.length + m.length) (bvals l ++ bvals m)) : OwnB w base v (l ++ m) := by
  unfold OwnB
  rw [List.length_append, bvals_append]
  exact h
theorem OwnB.keptExt {w w' : World} {base : Nat} {v : Value} {l : List Int} (h : OwnB w base v l) (x : Ext w w') : OwnB w' base v l := by
  refine ⟨h.1, ?_⟩
  rcases h.2 with h0 | ⟨g, cap, cur, hv, hb, hg, r⟩
  · exact .inl h0
  · exact .inr ⟨g, cap, cur, hv, hb, by rw [x.block g (Array.getElem?_eq_some_iff.1 hg).1]; exact hg, r⟩
theorem OwnB.only {S : Nat → Prop} {w w' : World} {base : Nat} {v : Value} {l : List Int} (h : OwnB w base v l) (x : Only S w w') (hs : ∀ g, v.ownBlock = some g → ¬ S g) : OwnB w' base v l := by
  refine ⟨h.1, ?_⟩
  rcases h.2 with h0 | ⟨g, cap, cur, hv, hb, hg, r⟩
  · exact .inl h0
  · exact .inr ⟨g, cap, cur, hv, hb, by rw [x.block g (Array.getElem?_eq_some_iff.1 hg).1 (hs g (by rw [hv]; rfl))]; exact hg, r⟩
/-- What a call has laid down just now. -/
theorem OwnB.new (w : World) (base : Nat) (l : List Int) (n : Nat) (hn : l.length = n) (hl : n ≤ maxLen) (hb : base ≤ w.heap.size) : OwnB (w.alloc (.cells (bvals l).toArray 5)) base (.slice (some ⟨w.heap.size, 0, none⟩) n n) l := by
  subst hn
  refine ⟨by simp [bvals], .inr ⟨w.heap.size, l.length, (bvals l).toArray, rfl, hb, heap_alloc_new w _, Nat.le_refl _, hl, by simp [bvals], by simp [bvals, List.take_of_length_le]⟩⟩
/-- A block that is not of cells is not its own row. -/
theorem OwnB.notIter {w : World} {base k : Nat} {v : Value} {l : List Int} {s : ByteArray} {i : Nat} (h : OwnB w base v l) (hk : w.heap[k]? = some (.stringIter s i)) : ∀ g, v.ownBlock = some g → ¬ g = k := by
  rintro g hg rfl
  rcases h.2 with ⟨h0, _⟩ | ⟨g', cap, cur, hv, _, hc, _⟩
  · rw [h0] at hg; cases hg
  · rw [hv] at hg
    simp only [Value.ownBlock, Option.some.injEq] at hg
    subst hg
    rw [hk] at hc
    cases hc
theorem strOf_bytes1 : True := trivial

/-- The bytes of one part. -/
def pieceP (ch : Nat) (n : Int) : List Int := if ch = 119 then [n / 256 % 256, n % 256] else if ch = 118 then [] else [n % 256]
def preP (op : Int) (s : ByteArray) (v : Nat → Int) (i : Nat) : List Int := [op % 256] ++ (List.range i).flatMap fun j => pieceP (chAt s j) (v j)
theorem preP_succ (op : Int) (s : ByteArray) (v : Nat → Int) (i : Nat) : preP op s v (i + 1) = preP op s v i ++ pieceP (chAt s i) (v i) := by
  unfold preP
  rw [List.range_succ, List.flatMap_append, List.append_assoc]
  simp
theorem pieceP_le (ch : Nat) (n : Int) : (pieceP ch n).length ≤ 2 := by unfold pieceP; split <;> (try split) <;> simp
theorem preP_le (op : Int) (s : ByteArray) (v : Nat → Int) : ∀ i, (preP op s v i).length ≤ 1 + 2 * i
  | 0 => by simp [preP]
  | i + 1 => by
    rw [preP_succ, List.length_append]
    have := preP_le op s v i
    have := pieceP_le (chAt s i) (v i)
    omega
theorem preP_pos (op : Int) (s : ByteArray) (v : Nat → Int) (i : Nat) : 0 < (preP op s v i).length := by simp [preP]
/-- The bytes of an instruction. -/
def putI (op a b c : Int) : List Int := if kd op = 2 ∨ kd op = 5 then [op % 256, a % 256, b / 256 % 256, b % 256] else [op % 256, a % 256, b % 256, c % 256]
theorem putI_length (op a b c : Int) : (putI op a b c).length = 4 := by unfold putI; split <;> rfl
theorem putI_pre {op a b c : Int} (h : rightI op a b c = true) : preP op (kstr (kd op)) (v3 a b c) (kstr (kd op)).size = putI op a b c := by
  unfold rightI at h
  unfold putI
  rcases kd_cases op with hk | hk | hk | hk | hk | hk | hk | hk <;> rw [hk] at h ⊢
  · simp [kA] at h
  · have e0 : chAt (kstr 1) 0 = 45 := by decide
    have e1 : chAt (kstr 1) 1 = 45 := by decide
    have e2 : chAt (kstr 1) 2 = 45 := by decide
    have es : (kstr 1).size = 3 := by decide
    rw [es]
    simp [preP, List.range_succ, e0, e1, e2, pieceP, v3]
  · have e0 : chAt (kstr 2) 0 = 114 := by decide
    have e1 : chAt (kstr 2) 1 = 119 := by decide
    have e2 : chAt (kstr 2) 2 = 118 := by decide
    have es : (kstr 2).size = 3 := by decide
    rw [es]
    simp [preP, List.range_succ, e0, e1, e2, pieceP, v3]
  · have e0 : chAt (kstr 3) 0 = 114 := by decide
    have e1 : chAt (kstr 3) 1 = 114 := by decide
    have e2 : chAt (kstr 3) 2 = 45 := by decide
    have es : (kstr 3).size = 3 := by decide
    rw [es]
    simp [preP, List.range_succ, e0, e1, e2, pieceP, v3]
  · have e0 : chAt (kstr 4) 0 = 114 := by decide
    have e1 : chAt (kstr 4) 1 = 114 := by decide
    have e2 : chAt (kstr 4) 2 = 114 := by decide
    have es : (kstr 4).size = 3 := by decide
    rw [es]
    simp [preP, List.range_succ, e0, e1, e2, pieceP, v3]
  · have e0 : chAt (kstr 5) 0 = 45 := by decide
    have e1 : chAt (kstr 5) 1 = 119 := by decide
    have e2 : chAt (kstr 5) 2 = 118 := by decide
    have es : (kstr 5).size = 3 := by decide
    rw [es]
    simp [preP, List.range_succ, e0, e1, e2, pieceP, v3]
  · have e0 : chAt (kstr 6) 0 = 114 := by decide
    have e1 : chAt (kstr 6) 1 = 114 := by decide
    have e2 : chAt (kstr 6) 2 = 105 := by decide
    have es : (kstr 6).size = 3 := by decide
    rw [es]
    simp [preP, List.range_succ, e0, e1, e2, pieceP, v3]
  · have e0 : chAt (kstr 7) 0 = 105 := by decide
    have e1 : chAt (kstr 7) 1 = 45 := by decide
    have e2 : chAt (kstr 7) 2 = 45 := by decide
    have es : (kstr 7).size = 3 := by decide
    rw [es]
    simp [preP, List.range_succ, e0, e1, e2, pieceP, v3]

end Go.Proofs.Ytcbniifpbcgamaa
