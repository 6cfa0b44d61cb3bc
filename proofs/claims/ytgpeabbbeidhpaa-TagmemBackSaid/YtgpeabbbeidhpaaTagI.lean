/- Layer 7: tagged, which is walked over. -/
import Derived.Test.YtgpeabbbeidhpaaTagH
import Derived.RangeFuncNested
import Derived.RangeFuncBound
import Derived.RangeFuncCalls
import Derived.RangeFuncLeaves
import Derived.Shelf.Abstract
import Derived.Shelf.RegionOpen
import Derived.WalkKit
import Derived.OwnWalkIn
import Derived.TacticsInMore
import Derived.LoopNIn
import Derived.LoopIn
namespace Go.Proofs.Ytgpeabbbeidhpaa
set_option linter.unusedSimpArgs false
set_option linter.unusedVariables false
open Go.RowKit

attribute [local go_sem] Oper.semAt_some
set_option maxRecDepth 100000 in
set_option maxHeartbeats 4000000 in
theorem ttaggedF_ (q : Nat) (w : World) : Calls Try.prog 44 #[.pointer (some ⟨q, 0, none⟩)] w fun e w' => e = .returned (.func (.func 55) #[] #[.pointer (some ⟨w.heap.size, 0, none⟩)]) ∧ w' = w.alloc (.cells #[.pointer (some ⟨q, 0, none⟩)] 25) := by
  go_enter Try.func44, Try.ntmps44
  go_wp2
  go_ret
  exact ⟨rfl, rfl⟩
theorem wpIn_gen {F : Fence} {n : Nat} {P : Program} {a : Act} {Q : Exit → Act → World → Prop} {c : Code} {w : World} (I : World → Prop) (hI : I w) (h : ∀ w', I w' → c.wpIn F n P Q a w') : c.wpIn F n P Q a w := h w hI
theorem gives_grown {W W' : World} (h : Ext W W') : W.grownBy W' none := ⟨h.os, h.tape, h.output, h.size, fun k hk _ => h.block k hk⟩
/-- A page's tags, as one value. -/
@[irreducible] def tagsA (f : Nat → Bool) : Array Value := ((List.range 16).map fun j => Value.bool (f j)).toArray
theorem tagsA_get (f : Nat → Bool) {i : Nat} (hi : i < 16) : (tagsA f)[i]? = some (.bool (f i)) := by unfold tagsA; simp [hi]
theorem tagsA_size (f : Nat → Bool) : (tagsA f).size = 16 := by unfold tagsA; simp
theorem tagsA_list (f : Nat → Bool) (j : Nat) (v : Value) (h : (tagsA f).toList[j]? = some v) : j < 16 ∧ v = .bool (f j) := by
  unfold tagsA at h
  have hj : j < 16 := by simpa using (List.getElem?_eq_some_iff.1 h).1
  simp [hj] at h
  exact ⟨hj, h.symm⟩
theorem run_index_tags (f : Nat → Bool) (i : Nat) (hi : i < 16) (w : World) : (Instr.index 63 (.agg (tagsA f)) (.int .i64 (i : Int))).run Try.prog w = .ok (.bool (f i)) w := by
  obtain ⟨i0, hi0, _, h2, _⟩ := info_parts info_bool
  have hs : (sizeOf 4).run Try.prog w = .ok 1 w := by rw [run_sizeOf w hi0, cells_bool]
  have ha : (isAgg 4).run Try.prog w = .ok false w := by kernel_rfl
  have hc : (0 : Int) ≤ (i : Int) ∧ (i : Int) < 16 := by omega
  simp [Instr.index, run_underlying Try.underlying63, asIntOf, part, hc, hs, ha, tagsA_get f hi, Sem.run_bind, Sem.run_pure, Result.andThen]
  intro h
  omega
/-- A box's slice lies there. -/
def ownAtBox (lb : Nat) (W : World) (i : Nat) : Prop := ∃ o n c, W.cell? ⟨lb, 0, none⟩ = some (.slice (some ⟨i, o, none⟩) n c)
/-- What a round turns: a box, the row that it holds, and what holds no cells. -/
def SB (lb : Nat) (W : World) : Nat → Prop := fun i => i = lb ∨ ownAtBox lb W i ∨ ∃ o : Obj, W.heap[i]? = some o ∧ o.isCells = false
def KpT (lb : Nat) (W W' : World) : Prop := Only (SB lb W) W W' ∧ ∀ i, ownAtBox lb W' i → ownAtBox lb W i ∨ W.heap.size ≤ i
theorem KpT.trans {lb : Nat} {a b c : World} (h : KpT lb a b) (k : KpT lb b c) : KpT lb a c := by
  refine ⟨h.1.trans k.1 fun i hi => ?_, fun i hi => ?_⟩
  · rcases hi with hi | hi | ⟨o, ho, hc⟩
    · exact .inl (.inl hi)
    · rcases h.2 i hi with e | e
      · exact .inl (.inr (.inl e))
      · exact .inr e
    · by_cases hs : SB lb a i
      · exact .inl hs
      · rcases Nat.lt_or_ge i a.heap.size with e | e
        · exact .inl (.inr (.inr ⟨o, (h.1.block i e hs).symm.trans ho, hc⟩))
        · exact .inr e
  · rcases k.2 i hi with e | e
    · exact h.2 i e
    · exact .inr (Nat.le_trans h.1.size e)
theorem cell_isCells {w : World} {b x : Nat} {v : Value} (h : w.cell? ⟨b, x, none⟩ = some v) : ¬ ∃ o : Obj, w.heap[b]? = some o ∧ o.isCells = false := by
  rintro ⟨o, ho, hc⟩
  simp only [World.cell?, ho] at h
  cases o <;> simp_all [Obj.isCells]
/-- All that may turn while it is walked over, from a world on. -/
def Sx (lb : Nat) (w1 : World) : Nat → Prop := fun i => i = lb ∨ w1.heap.size ≤ i ∨ ∃ o : Obj, w1.heap[i]? = some o ∧ o.isCells = false
theorem Sx.step {lb : Nat} {w1 a b : World} (h : Only (Sx lb w1) w1 a) (ho : ∀ i, ownAtBox lb a i → w1.heap.size ≤ i) (k : KpT lb a b) : Only (Sx lb w1) w1 b ∧ ∀ i, ownAtBox lb b i → w1.heap.size ≤ i := by
  refine ⟨h.trans k.1 fun i hi => ?_, fun i hi => ?_⟩
  · rcases hi with hi | hi | ⟨o, hoo, hc⟩
    · exact .inl (.inl hi)
    · exact .inr (ho i hi)
    · by_cases hs : Sx lb w1 i
      · exact .inl hs
      · rcases Nat.lt_or_ge i w1.heap.size with e | e
        · exact .inl (.inr (.inr ⟨o, (h.block i e hs).symm.trans hoo, hc⟩))
        · exact .inr e
  · rcases k.2 i hi with e | e
    · exact ho i e
    · exact Nat.le_trans h.size e

end Go.Proofs.Ytgpeabbbeidhpaa
