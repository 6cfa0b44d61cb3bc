/- Layer 16: the lines of a text as asm.Read meets them. -/
import Derived.Test.YtdhpbofpomefoaaDoorAsmG
namespace Go.Proofs.YtdhpbofpomefoaaDoor
set_option linter.unusedSimpArgs false
set_option linter.unusedVariables false
open Go.RowKit

/-- What stands ahead of the first newline. -/
def lnL (l : List UInt8) : List UInt8 := l.takeWhile (· != 10)
theorem lnL_none : ∀ {l : List UInt8}, (10 : UInt8) ∉ l → lnL l = l
  | [], _ => rfl
  | b :: l, h => by
    obtain ⟨h1, h2⟩ : ¬ (10 : UInt8) = b ∧ (10 : UInt8) ∉ l := by simpa using h
    unfold lnL
    rw [List.takeWhile_cons, if_pos (by simpa using fun e => h1 e.symm)]
    exact congrArg _ (lnL_none h2)
theorem lnL_some : ∀ {l : List UInt8}, (10 : UInt8) ∈ l → ∃ r, l = lnL l ++ 10 :: r ∧ (10 : UInt8) ∉ lnL l
  | [], h => nomatch h
  | b :: l, h => by
    by_cases hb : b = 10
    · subst hb
      exact ⟨l, by simp [lnL], by simp [lnL]⟩
    · have h2 : (10 : UInt8) ∈ l := (List.mem_cons.1 h).resolve_left fun e => hb e.symm
      obtain ⟨r, hr, hn⟩ := lnL_some h2
      have e : lnL (b :: l) = b :: lnL l := by unfold lnL; rw [List.takeWhile_cons, if_pos (by simpa using hb)]
      refine ⟨r, by rw [e, List.cons_append, ← hr], by rw [e]; simpa using ⟨fun e => hb e.symm, hn⟩⟩
/-- Where the first newline stands. -/
def idxL (l : List UInt8) : Int := if (10 : UInt8) ∈ l then (lnL l).length else -1
theorem indexByte_L : ∀ l : List UInt8, Lib.indexByte l 10 = idxL l
  | [] => rfl
  | b :: l => by
    have ih := indexByte_L l
    unfold Lib.indexByte
    rw [ih]
    by_cases hb : b = 10
    · subst hb
      simp [idxL, lnL]
    · have hb' : (b == 10) = false := by simpa using hb
      have e : lnL (b :: l) = b :: lnL l := by unfold lnL; rw [List.takeWhile_cons, if_pos (by simpa using hb)]
      have hm : ((10 : UInt8) ∈ b :: l) ↔ (10 : UInt8) ∈ l := by
        rw [List.mem_cons]
        exact ⟨fun h => h.resolve_left fun e => hb e.symm, .inr⟩
      unfold idxL
      rw [hb', if_neg (by simp), e]
      by_cases h : (10 : UInt8) ∈ l
      · rw [if_pos h, if_pos (hm.2 h)]
        have : (((lnL l).length : Int) == -1) = false := beq_eq_false_iff_ne.2 (by omega)
        rw [this]
        simp
      · rw [if_neg h, if_neg (fun x => h (hm.1 x))]
        rfl
/-- How long the first line is, its newline with it. -/
def endL (l : List UInt8) : Nat := if (10 : UInt8) ∈ l then (lnL l).length + 1 else l.length
theorem endL_le (l : List UInt8) : endL l ≤ l.length := by
  unfold endL
  split
  · rename_i h
    obtain ⟨r, hr, _⟩ := lnL_some h
    have := congrArg List.length hr
    simp only [List.length_append, List.length_cons] at this
    omega
  · exact Nat.le_refl _
theorem endL_pos {l : List UInt8} (h : l ≠ []) : 0 < endL l := by
  unfold endL
  split
  · omega
  · exact List.length_pos_iff.2 h
theorem endL_idx (l : List UInt8) : (idxL l + 1 = 0 ∧ endL l = l.length ∧ (10 : UInt8) ∉ l) ∨ (¬ idxL l + 1 = 0 ∧ idxL l + 1 = (endL l : Nat) ∧ (10 : UInt8) ∈ l) := by
  unfold endL idxL
  by_cases h : (10 : UInt8) ∈ l
  · rw [if_pos h, if_pos h]
    exact .inr ⟨by omega, by omega, h⟩
  · rw [if_neg h, if_neg h]
    exact .inl ⟨by omega, rfl, h⟩
/-- The lines, each with its newline. -/
def chN : Nat → List UInt8 → List (List UInt8)
  | 0, _ => []
  | n + 1, s => if s = [] then [] else s.take (endL s) :: chN n (s.drop (endL s))
def chL (s : List UInt8) : List (List UInt8) := chN s.length s
theorem chN_more : ∀ (n m : Nat) (s : List UInt8), s.length ≤ n → s.length ≤ m → chN n s = chN m s
  | 0, 0, _, _, _ => rfl
  | 0, m + 1, s, h, _ => by
    have : s = [] := List.length_eq_zero_iff.1 (by omega)
    subst this
    rfl
  | n + 1, 0, s, _, h => by
    have : s = [] := List.length_eq_zero_iff.1 (by omega)
    subst this
    rfl
  | n + 1, m + 1, s, h1, h2 => by
    unfold chN
    by_cases h : s = []
    · rw [if_pos h, if_pos h]
    · rw [if_neg h, if_neg h]
      have hp := endL_pos h
      rw [chN_more n m (s.drop (endL s)) (by rw [List.length_drop]; omega) (by rw [List.length_drop]; omega)]
theorem chL_nil : chL [] = [] := rfl
theorem chL_cons {s : List UInt8} (h : s ≠ []) : chL s = s.take (endL s) :: chL (s.drop (endL s)) := by
  have hl : 0 < s.length := List.length_pos_iff.2 h
  have hp := endL_pos h
  unfold chL
  obtain ⟨k, hk⟩ : ∃ k, s.length = k + 1 := ⟨s.length - 1, by omega⟩
  rw [hk]
  show (if s = [] then [] else s.take (endL s) :: chN k (s.drop (endL s))) = _
  rw [if_neg h, chN_more k (s.drop (endL s)).length _ (by rw [List.length_drop]; omega) (Nat.le_refl _)]
/-- What is told of a line with its newline. -/
def lineN (val : List UInt8 → Int) (c : List UInt8) : In × Bool := if Lib.hasSuffix c [10] = true then parseN val (Lib.trimSuffix c [10]) else (noIn, false)
/-- Read, over the lines. -/
def rdC (val : List UInt8 → Int) : List In → List (List UInt8) → List In × Nat × Bool
  | acc, [] => (acc, acc.length, true)
  | acc, c :: cs => match lineN val c with
    | (x, true) => rdC val (acc ++ [x]) cs
    | (_, false) => ([], acc.length, false)
theorem suffix_line {w : List UInt8} : Lib.hasSuffix (w ++ [10]) [10] = true ∧ Lib.trimSuffix (w ++ [10]) [10] = w := by
  have h : Lib.hasSuffix (w ++ [10]) [10] = true := by unfold Lib.hasSuffix; exact List.isSuffixOf_iff_suffix.2 ⟨w, rfl⟩
  refine ⟨h, ?_⟩
  unfold Lib.trimSuffix
  rw [if_pos h]
  simp
theorem suffix_no {w : List UInt8} (h : (10 : UInt8) ∉ w) : Lib.hasSuffix w [10] = false := by
  refine Bool.eq_false_iff.2 fun e => ?_
  obtain ⟨t, ht⟩ := List.isSuffixOf_iff_suffix.1 e
  exact h (ht ▸ by simp)
theorem take_end {s : List UInt8} (h : (10 : UInt8) ∈ s) : s.take (endL s) = lnL s ++ [10] ∧ s.drop (endL s) = s.drop ((lnL s).length + 1) := by
  obtain ⟨r, hr, _⟩ := lnL_some h
  have e : endL s = (lnL s).length + 1 := if_pos h
  rw [e]
  refine ⟨?_, rfl⟩
  clear e
  generalize lnL s = t at hr ⊢
  subst hr
  simp [List.take_append]
  exact List.take_of_length_le (Nat.le_succ _)
theorem readN_rdC (val : List UInt8 → Int) : ∀ (n : Nat) (acc : List In) (s : List UInt8), s.length < n → readN val n acc s = rdC val acc (chL s)
  | 0, _, _, h => absurd h (by omega)
  | n + 1, acc, s, h => by
    rw [readN_eq]
    by_cases hs : s = []
    · subst hs
      rw [if_pos rfl, chL_nil]
      rfl
    · rw [if_neg hs, chL_cons hs]
      have hp := endL_pos hs
      have hle := endL_le s
      by_cases h10 : (10 : UInt8) ∈ s
      · rw [if_neg (by simpa using h10), (take_end h10).1, (take_end h10).2]
        show _ = match lineN val (lnL s ++ [10]) with
          | (x, true) => rdC val (acc ++ [x]) (chL (s.drop ((lnL s).length + 1)))
          | (_, false) => ([], acc.length, false)
        have e : lineN val (lnL s ++ [10]) = parseN val (lnL s) := by unfold lineN; rw [if_pos suffix_line.1, suffix_line.2]
        rw [e]
        show (match parseN val (lnL s) with
          | (x, true) => readN val n (acc ++ [x]) (s.drop ((lnL s).length + 1))
          | (_, false) => ([], acc.length, false)) = _
        rcases parseN val (lnL s) with ⟨x, _ | _⟩
        · rfl
        · exact readN_rdC val n (acc ++ [x]) _ (by rw [List.length_drop]; omega)
      · rw [if_pos h10]
        have e : endL s = s.length := if_neg h10
        rw [e, List.take_length]
        show _ = match lineN val s with
          | (x, true) => rdC val (acc ++ [x]) (chL (s.drop s.length))
          | (_, false) => ([], acc.length, false)
        have e2 : lineN val s = (noIn, false) := by unfold lineN; rw [suffix_no h10]; rfl
        rw [e2]
theorem readL_rdC (val : List UInt8 → Int) (s : List UInt8) : readL val s = rdC val [] (chL s) := readN_rdC val _ _ _ (Nat.lt_succ_self _)
theorem chL_len {s c : List UInt8} : ∀ n, s.length ≤ n → c ∈ chL s → c.length ≤ n ∧ c ≠ []
  | n, hn, hc => by
    by_cases hs : s = []
    · subst hs
      rw [chL_nil] at hc
      cases hc
    · rw [chL_cons hs] at hc
      have hp := endL_pos hs
      have hle := endL_le s
      rcases List.mem_cons.1 hc with rfl | hc
      · refine ⟨by rw [List.length_take]; omega, fun e => ?_⟩
        have := congrArg List.length e
        rw [List.length_take, List.length_nil] at this
        omega
      · exact chL_len n (by rw [List.length_drop]; omega) hc
  termination_by s.length
  decreasing_by rw [List.length_drop]; have := List.length_pos_iff.2 hs; omega
theorem idx_ (l : List UInt8) (w : World) : Calls Tryd.prog 47 #[.string ⟨l.toArray⟩, .int .u8 10] w fun e w' => e = .returned (.int .i64 (idxL l)) ∧ w' = w := by
  have := Tryd.strings_IndexByte ⟨l.toArray⟩ 10 w
  have e : Lib.indexByte (⟨l.toArray⟩ : ByteArray).data.toList (10 : Int).toNat.toUInt8 = idxL l := indexByte_L l
  rw [e] at this
  exact this
theorem cut_ (l : List UInt8) (w : World) (hl : l.length ≤ 9223372036854775807) : Calls Tryd.prog 33 #[.string ⟨l.toArray⟩, .string ⟨#[10]⟩] w fun e w' => e = .returned (.tuple #[.string ⟨(Lib.trimSuffix l [10]).toArray⟩, .bool (Lib.hasSuffix l [10])]) ∧ w' = w :=
  Tryd.strings_CutSuffix ⟨l.toArray⟩ ⟨#[10]⟩ w (by show l.toArray.size ≤ _; simpa using hl)

end Go.Proofs.YtdhpbofpomefoaaDoor
