/- Layer 15: the instruction of bytes, in words. -/
import Derived.Test.YtcbniifpbcgamaaCodR
import Derived.Test.YtcbniifpbcgamaaBytes
import Derived.Test.YtcbniifpbcgamaaStepT
import Derived.Test.YtcbniifpbcgamaaStep
namespace Go.Proofs.Ytcbniifpbcgamaa
set_option linter.unusedSimpArgs false
set_option linter.unusedVariables false
open Go.RowKit


def sgn16 (n : Int) : Int := if 32768 ≤ n then n - 65536 else n
theorem or16_all : ∀ x : Fin 256, ∀ y : Fin 256, bits .or .i16 (IntKind.i16.wrap ((x.val : Int) * 256)) (y.val : Int) = sgn16 ((x.val : Int) * 256 + (y.val : Int)) := by decide +kernel
theorem or16 {x y : Int} (hx : 0 ≤ x ∧ x ≤ 255) (hy : 0 ≤ y ∧ y ≤ 255) : bits .or .i16 (IntKind.i16.wrap (x * 256)) y = sgn16 (x * 256 + y) := by
  have := or16_all ⟨x.toNat, by omega⟩ ⟨y.toNat, by omega⟩
  simpa [show ((x.toNat : Nat) : Int) = x by omega, show ((y.toNat : Nat) : Int) = y by omega] using this
def gB (op x2 x3 : Int) : Int := if kd op = 2 ∨ kd op = 5 then sgn16 (x2 * 256 + x3) else x2
def gC (op x3 : Int) : Int := if kd op = 2 ∨ kd op = 5 then 0 else x3
def v4 (x0 x1 x2 x3 : Int) : Nat → Int := fun i => if i = 0 then x0 else if i = 1 then x1 else if i = 2 then x2 else x3
/-- A part, out of the bytes. -/
def getP (s : ByteArray) (B : Nat → Int) (j : Nat) : Int := if chAt s j = 119 then sgn16 (B (j + 1) * 256 + B (j + 2)) else if chAt s j = 118 then 0 else B (j + 1)
def partV (s : ByteArray) (B : Nat → Int) (i j : Nat) : Int := if j < i then getP s B j else 0
theorem partV_kd {x0 x1 x2 x3 : Int} (h : ¬ kd x0 = 0) : partV (kstr (kd x0)) (v4 x0 x1 x2 x3) (kstr (kd x0)).size 0 = x1 ∧ partV (kstr (kd x0)) (v4 x0 x1 x2 x3) (kstr (kd x0)).size 1 = gB x0 x2 x3 ∧ partV (kstr (kd x0)) (v4 x0 x1 x2 x3) (kstr (kd x0)).size 2 = gC x0 x3 := by
  unfold gB gC
  rcases kd_cases x0 with hk | hk | hk | hk | hk | hk | hk | hk <;> rw [hk] at h ⊢
  · exact absurd rfl h
  · have e0 : chAt (kstr 1) 0 = 45 := by decide
    have e1 : chAt (kstr 1) 1 = 45 := by decide
    have e2 : chAt (kstr 1) 2 = 45 := by decide
    have es : (kstr 1).size = 3 := by decide
    rw [es]
    simp [partV, getP, e0, e1, e2, v4]
  · have e0 : chAt (kstr 2) 0 = 114 := by decide
    have e1 : chAt (kstr 2) 1 = 119 := by decide
    have e2 : chAt (kstr 2) 2 = 118 := by decide
    have es : (kstr 2).size = 3 := by decide
    rw [es]
    simp [partV, getP, e0, e1, e2, v4]
  · have e0 : chAt (kstr 3) 0 = 114 := by decide
    have e1 : chAt (kstr 3) 1 = 114 := by decide
    have e2 : chAt (kstr 3) 2 = 45 := by decide
    have es : (kstr 3).size = 3 := by decide
    rw [es]
    simp [partV, getP, e0, e1, e2, v4]
  · have e0 : chAt (kstr 4) 0 = 114 := by decide
    have e1 : chAt (kstr 4) 1 = 114 := by decide
    have e2 : chAt (kstr 4) 2 = 114 := by decide
    have es : (kstr 4).size = 3 := by decide
    rw [es]
    simp [partV, getP, e0, e1, e2, v4]
  · have e0 : chAt (kstr 5) 0 = 45 := by decide
    have e1 : chAt (kstr 5) 1 = 119 := by decide
    have e2 : chAt (kstr 5) 2 = 118 := by decide
    have es : (kstr 5).size = 3 := by decide
    rw [es]
    simp [partV, getP, e0, e1, e2, v4]
  · have e0 : chAt (kstr 6) 0 = 114 := by decide
    have e1 : chAt (kstr 6) 1 = 114 := by decide
    have e2 : chAt (kstr 6) 2 = 105 := by decide
    have es : (kstr 6).size = 3 := by decide
    rw [es]
    simp [partV, getP, e0, e1, e2, v4]
  · have e0 : chAt (kstr 7) 0 = 105 := by decide
    have e1 : chAt (kstr 7) 1 = 45 := by decide
    have e2 : chAt (kstr 7) 2 = 45 := by decide
    have es : (kstr 7).size = 3 := by decide
    rw [es]
    simp [partV, getP, e0, e1, e2, v4]

/-- The parts, as far as they are filled. -/
def PB (w : World) (pb : Nat) (v : Nat → Int) : Prop := ∀ j, j < 3 → w.cell? ⟨pb, j, none⟩ = some (.int .i64 (v j)) ∧ w.frozen? ⟨pb, j, none⟩ = false
theorem PB.only {S : Nat → Prop} {w w' : World} {pb : Nat} {v : Nat → Int} (h : PB w pb v) (x : Only S w w') (hp : pb < w.heap.size) (hs : ¬ S pb) : PB w' pb v := fun j hj => by
  rw [x.cells pb j hp hs, x.frozens pb j hp hs]
  exact h j hj
theorem PB.set {w : World} {pb i : Nat} {s : ByteArray} {B : Nat → Int} (h : PB w pb (partV s B i)) (hi : i < 3) (z : Int) (hz : z = getP s B i) : PB (w.setCell ⟨pb, i, none⟩ (.int .i64 z)) pb (partV s B (i + 1)) := fun j hj => by
  subst hz
  have h1 := h j hj
  have h2 := h i hi
  by_cases e : j = i
  · subst e
    refine ⟨?_, ?_⟩
    · simp [go_sem, h1.1, partV]
    · simpa [go_sem] using h1.2
  · refine ⟨?_, ?_⟩
    · have hne : ¬ i = j := fun x => e x.symm
      have : partV s B (i + 1) j = partV s B i j := by
        unfold partV
        by_cases hji : j < i
        · rw [if_pos hji, if_pos (by omega)]
        · rw [if_neg hji, if_neg (by omega)]
      rw [this]
      simp [go_sem, h1.1, hne, e]
    · simpa [go_sem] using h1.2
theorem PB.same {w : World} {pb i : Nat} {s : ByteArray} {B : Nat → Int} (h : PB w pb (partV s B i)) (hz : getP s B i = 0) : PB w pb (partV s B (i + 1)) := fun j hj => by
  have : partV s B (i + 1) j = partV s B i j := by
    unfold partV
    by_cases hji : j < i
    · rw [if_pos hji, if_pos (by omega)]
    · rw [if_neg hji]
      by_cases e : j = i
      · subst e; rw [if_pos (by omega), hz]
      · rw [if_neg (by omega)]
  rw [this]
  exact h j hj

end Go.Proofs.Ytcbniifpbcgamaa
