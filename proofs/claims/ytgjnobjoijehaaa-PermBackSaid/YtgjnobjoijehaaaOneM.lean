/- Layer 1: what a text tells. -/
import Derived.Test.YtgjnobjoijehaaaOneI
import Derived.Lib.DecodeN
namespace Go.Proofs.Ytgjnobjoijehaaa
set_option linter.unusedSimpArgs false
set_option linter.unusedVariables false
open Go.RowKit


theorem permB_cases : ∀ b : Fin 128, permB b.val.toUInt8 = 0 ∨ permB b.val.toUInt8 = 1 ∨ permB b.val.toUInt8 = 2 ∨ permB b.val.toUInt8 = 4 ∨ permB b.val.toUInt8 = 8 ∨ permB b.val.toUInt8 = 16 ∨ permB b.val.toUInt8 = 32 ∨ permB b.val.toUInt8 = 64 := by decide +kernel
theorem permR_cases {r : Int} (h0 : 0 ≤ r) : permR r = 0 ∨ permR r = 1 ∨ permR r = 2 ∨ permR r = 4 ∨ permR r = 8 ∨ permR r = 16 ∨ permR r = 32 ∨ permR r = 64 := by
  unfold permR
  by_cases h : r < 128
  · rw [if_pos h]
    exact permB_cases ⟨r.toNat, by omega⟩
  · rw [if_neg h]
    exact .inl rfl
def addP (p x : Int) : Int := ofL [p, x] 0
theorem addP_fin : ∀ p : Fin 128, ∀ x : Fin 128, 0 ≤ addP (p.val : Int) (x.val : Int) ∧ addP (p.val : Int) (x.val : Int) ≤ 127 := by decide +kernel
theorem addP_right {p r : Int} (hp : 0 ≤ p ∧ p ≤ 127) (h0 : 0 ≤ r) : 0 ≤ addP p (permR r) ∧ addP p (permR r) ≤ 127 := by
  obtain ⟨n, rfl⟩ := Int.eq_ofNat_of_zero_le hp.1
  have key : ∀ x : Nat, x < 128 → permR r = (x : Int) → 0 ≤ addP (n : Int) (permR r) ∧ addP (n : Int) (permR r) ≤ 127 := fun x hx e => by rw [e]; exact addP_fin ⟨n, by omega⟩ ⟨x, hx⟩
  rcases permR_cases h0 with e | e | e | e | e | e | e | e
  · exact key 0 (by omega) e
  · exact key 1 (by omega) e
  · exact key 2 (by omega) e
  · exact key 4 (by omega) e
  · exact key 8 (by omega) e
  · exact key 16 (by omega) e
  · exact key 32 (by omega) e
  · exact key 64 (by omega) e
/-- The bytes, one after the other. -/
def foldP (l : List UInt8) : Int := l.foldl (fun p b => addP p (permB b)) 0
theorem foldP_snoc (l : List UInt8) (b : UInt8) : foldP (l ++ [b]) = addP (foldP l) (permB b) := by simp [foldP]
def asciiL (l : List UInt8) : Prop := ∀ b ∈ l, b.toNat < 128
theorem textB_fold : ∀ q : Fin 128, foldP (textB (q.val : Int)) = (q.val : Int) ∧ (textB (q.val : Int)).all (fun b => decide (b.toNat < 128)) = true := by decide +kernel
def eqT (p : Int) (s : ByteArray) : Bool := decide (textB p = s.data.toList)
theorem eqT_list (p : Int) (s : ByteArray) : (textB p == s.toList) = eqT p s := by
  rw [ByteArray.toList_eq]
  unfold eqT
  rw [Bool.eq_iff_iff]
  simp
/-- Which permissions a text tells, if any. -/
def findP (s : ByteArray) : Option Nat := (List.range 128).find? fun q => eqT (q : Int) s
def parseV (s : ByteArray) : Value := match findP s with
  | some q => .tuple #[.int .i64 (q : Int), .bool true]
  | none => .tuple #[.int .i64 0, .bool false]
theorem eqT_fold {q : Nat} (hq : q < 128) {s : ByteArray} (h : eqT (q : Int) s = true) : foldP s.data.toList = (q : Int) ∧ asciiL s.data.toList := by
  have h1 := textB_fold ⟨q, hq⟩
  unfold eqT at h
  rw [decide_eq_true_eq] at h
  simp only at h1
  rw [h] at h1
  exact ⟨h1.1, fun b hb => by simpa using List.all_eq_true.1 h1.2 b hb⟩
/-- What the permissions that one got tell. -/
theorem parse_yes {p : Int} (hp : 0 ≤ p ∧ p ≤ 127) {s : ByteArray} (h : eqT p s = true) : parseV s = .tuple #[.int .i64 p, .bool true] := by
  obtain ⟨n, rfl⟩ := Int.eq_ofNat_of_zero_le hp.1
  have hn : n < 128 := by omega
  unfold parseV
  cases hf : findP s with
  | none =>
    have := List.find?_eq_none.1 hf n (by simpa using hn)
    simp [h] at this
  | some q =>
    have h1 := List.find?_some hf
    have h2 : q < 128 := by simpa using List.mem_of_find?_eq_some hf
    have e := (eqT_fold h2 h1).1.symm.trans (eqT_fold hn h).1
    simp only
    rw [e]
theorem parse_no {p : Int} {s : ByteArray} (ha : asciiL s.data.toList → p = foldP s.data.toList) (h : eqT p s = false) : parseV s = .tuple #[.int .i64 0, .bool false] := by
  unfold parseV
  cases hf : findP s with
  | none => rfl
  | some q =>
    have h1 := List.find?_some hf
    have h2 : q < 128 := by simpa using List.mem_of_find?_eq_some hf
    obtain ⟨e1, e2⟩ := eqT_fold h2 h1
    have e3 := (ha e2).trans e1
    rw [e3] at h
    rw [h] at h1
    cases h1
theorem pair_slAt (w : World) (x y : Int) (q : Nat) (hq : q = w.heap.size) : SlAt (w.alloc (.cells #[.int .i64 x, .int .i64 y] 3)) (some ⟨q, 0, none⟩) (([x, y] : List Int).map (Value.int .i64)) := by
  subst hq
  exact slAtNew _ _ _
theorem decode_le (s : ByteArray) (i : Nat) : (Utf8.decode s i).1 ≤ 1114111 ∧ 1 ≤ (Utf8.decode s i).2 := by
  rw [Lib.decode_at]
  have h0 : (s.get! i).toNat < 256 := UInt8.toNat_lt _
  unfold Lib.decodeN
  repeat' split
  all_goals (simp only; omega)
/-- How far one is, and what one has got by then. -/
def gotP (s : ByteArray) (i : Nat) (p : Int) : Prop := (0 ≤ p ∧ p ≤ 127) ∧ (asciiL s.data.toList → i ≤ s.size ∧ p = foldP (s.data.toList.take i))
theorem gotP_step {s : ByteArray} {i : Nat} {p : Int} (h : gotP s i p) (hi : i < s.size) : gotP s (i + (Utf8.decode s i).2) (addP p (permR ((Utf8.decode s i).1 : Int))) := by
  refine ⟨addP_right h.1 (by omega), fun ha => ?_⟩
  obtain ⟨h1, h2⟩ := h.2 ha
  have hl : i < s.data.toList.length := by simpa using hi
  have hb : (s[i]'hi).toNat < 128 := by
    have h3 := ha _ (List.getElem_mem hl)
    have h4 : (s.data[i]'hi).toNat < 128 := by simpa using h3
    exact h4
  rw [decode_ascii s i hi hb]
  simp only
  refine ⟨by omega, ?_⟩
  rw [List.take_succ_eq_append_getElem hl, foldP_snoc, ← h2]
  have e2 : s.data.toList[i]'hl = s[i]'hi := by rw [Array.getElem_toList]; rfl
  rw [e2]
  have e : permR ((s[i]'hi).toNat : Int) = permB (s[i]'hi) := by
    unfold permR
    rw [if_pos (by omega)]
    congr 1
    simp
  rw [e]

end Go.Proofs.Ytgjnobjoijehaaa
