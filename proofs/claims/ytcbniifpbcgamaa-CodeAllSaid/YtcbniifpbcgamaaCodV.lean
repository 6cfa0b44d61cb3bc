/- Layer 15: parts of many words. -/
import Derived.Test.YtcbniifpbcgamaaCodW
import Derived.Test.YtcbniifpbcgamaaApnd
namespace Go.Proofs.Ytcbniifpbcgamaa
set_option linter.unusedSimpArgs false
set_option linter.unusedVariables false
open Go.RowKit


theorem wordsI_take (L : List I4) (j : Nat) (h : j ≤ L.length) : (wordsI L).take (4 * j) = wordsI (L.take j) := by
  have e : wordsI L = wordsI (L.take j) ++ wordsI (L.drop j) := by rw [← wordsI_append, List.take_append_drop]
  rw [e, List.take_left' (by rw [wordsI_length, List.length_take]; omega)]
theorem wordsI_drop (L : List I4) (j : Nat) (h : j ≤ L.length) : (wordsI L).drop (4 * j) = wordsI (L.drop j) := by
  have e : wordsI L = wordsI (L.take j) ++ wordsI (L.drop j) := by rw [← wordsI_append, List.take_append_drop]
  rw [e, List.drop_left' (by rw [wordsI_length, List.length_take]; omega)]
theorem RdI.congr {w : World} {A : Option Addr} {n : Nat} {M M' : Nat → I4} (h : RdI w A n M) (e : ∀ i, i < n → M i = M' i) : RdI w A n M' := fun h0 => by
  obtain ⟨b, o, hA, hb, hc⟩ := h h0
  exact ⟨b, o, hA, hb, fun i hi => by rw [← e i hi]; exact hc i hi⟩
theorem RdB.take {w : World} {A : Option Addr} {l : List Int} (h : RdB w A l) (n : Nat) : RdB w A (l.take n) := fun h0 => by
  have h1 : 0 < l.length := by simp at h0; omega
  obtain ⟨b, o, hA, hb, hc⟩ := h h1
  exact ⟨b, o, hA, hb, fun j hj => by
    have hj' : j < l.length := by simp at hj; omega
    rw [hc j hj']
    simp⟩
theorem RdB.dropc {w : World} {A : Option Addr} {l : List Int} (h : RdB w A l) (n ca : Nat) (hc : l.length ≤ ca) : RdB w (if ca = n then A else A.map (fun x => x.add n)) (l.drop n) := fun h0 => by
  have h1 : n < l.length := by simp at h0; omega
  obtain ⟨b, o, hA, hb, hcc⟩ := h (by omega)
  rw [if_neg (by omega)]
  subst hA
  refine ⟨b, o + n, by simp [Addr.add], hb, fun j hj => ?_⟩
  have hj' : n + j < l.length := by simp at hj; omega
  have h2 := hcc (n + j) hj'
  rw [show o + n + j = o + (n + j) by omega, h2]
  simp
theorem quiet_slice {P : Program} {o : Oper} {a : Act} {w : World} {K : Act → Prop} (ty : TypeId) (x : Operand) (lo hi : Option Operand) (ho : o.op = .slice ty x lo hi none) (v : Value)
    (hr : ∀ w', (Instr.sliceAt ty (a.eval x) (lo.map a.eval) (hi.map a.eval) none).run P w' = .ok v w') (k : K (a.put o.dst v)) : o.quiet P a (Grown w) K := by
  refine ⟨_, fun w' hw' => ?_, k⟩
  unfold Oper.quietAt execOp
  rw [ho]
  simp only [Option.map_none, hr, Sem.run_bind, Sem.run_map, Sem.run_pure, Result.andThen, Oper.quietUpon, and_self]

end Go.Proofs.Ytcbniifpbcgamaa
