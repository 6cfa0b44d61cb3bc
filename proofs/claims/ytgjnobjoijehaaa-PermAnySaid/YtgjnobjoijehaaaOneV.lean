/- Layer 1: rows of numbers of one's own. -/
import Derived.Test.YtgjnobjoijehaaaOneU
import Derived.Test.YtgjnobjoijehaaaH
import Derived.Test.YtgjnobjoijehaaaStepT
namespace Go.Proofs.Ytgjnobjoijehaaa
set_option linter.unusedSimpArgs false
set_option linter.unusedVariables false
open Go.RowKit


theorem info_int : (Try.prog.info? 3).map (fun i => (i.zero, i.size, i.bytes)) = some (some (.int .i64 0), 1, 8) := by kernel_rfl
def ivals (l : List Int) : List Value := l.map (Value.int .i64)
theorem ivals_one (l : List Int) : ∀ v ∈ ivals l, v.oneCell' = true := by
  intro v hv
  obtain ⟨z, _, rfl⟩ := List.mem_map.1 hv
  rfl
/-- Numbers of the call's own. -/
def OwnI (w : World) (base : Nat) (v : Value) (l : List Int) : Prop := w.ownsRow base 3 1 v l.length (ivals l)
theorem OwnI.nil (w : World) (base : Nat) : OwnI w base (.slice none 0 0) [] := ⟨by simp [ivals], .inl ⟨rfl, rfl⟩⟩
theorem OwnI.rd {w : World} {base : Nat} {v : Value} {l : List Int} (h : OwnI w base v l) : ∃ A ca, v = .slice A l.length ca ∧ SlAt w A (ivals l) := by
  rcases h.2 with ⟨rfl, h0⟩ | ⟨g, cap, cur, rfl, hb, hg, hn, _, hs, ht⟩
  · exact ⟨none, 0, by rw [h0], fun h1 => absurd h1 (by simp [ivals, h0])⟩
  · refine ⟨some ⟨g, 0, none⟩, cap, rfl, fun _ => ⟨g, 0, rfl, (Array.getElem?_eq_some_iff.1 hg).1, fun j hj => ?_⟩⟩
    rw [cell_of_row w g _ cur 3 (0, 0) hg]
    have hj' : j < l.length := by simpa [ivals] using hj
    have h1 : (cur.toList.take (l.length * 1))[j]? = (ivals l)[j]? := by rw [ht]
    rw [List.getElem?_take, if_pos (by omega), List.getElem?_eq_getElem hj] at h1
    rw [Nat.zero_add]
    simpa using h1
theorem owns_lt {w : World} {base : Nat} {e : TypeId} {size n : Nat} {v : Value} {xs : List Value} (h : w.ownsRow base e size v n xs) {g : Nat} (hg : v.ownBlock = some g) : g < w.heap.size := by
  rcases h.2 with ⟨h0, _⟩ | ⟨g', cap, cur, hv, _, hh, _⟩
  · rw [h0] at hg; cases hg
  · rw [hv] at hg
    have e : g' = g := by simpa [Value.ownBlock] using hg
    subst e
    exact (Array.getElem?_eq_some_iff.1 hh).1
theorem ownsGrown {w w' : World} {base : Nat} {e : TypeId} {size n : Nat} {v : Value} {xs : List Value} {row : Option Nat} (h : w.ownsRow base e size v n xs) (hg : w.grownBy w' row) (hne : ∀ g, v.ownBlock = some g → ¬ row = some g) : w'.ownsRow base e size v n xs := by
  refine ⟨h.1, ?_⟩
  rcases h.2 with h0 | ⟨g, cap, cur, hv, hb, hgg, r⟩
  · exact .inl h0
  · refine .inr ⟨g, cap, cur, hv, hb, ?_, r⟩
    rw [hg.block g (Array.getElem?_eq_some_iff.1 hgg).1 (fun e => hne g (by rw [hv]; rfl) e.symm)]
    exact hgg
theorem ownsExt {w w' : World} {base : Nat} {e : TypeId} {size n : Nat} {v : Value} {xs : List Value} (h : w.ownsRow base e size v n xs) (x : Ext w w') : w'.ownsRow base e size v n xs := by
  refine ⟨h.1, ?_⟩
  rcases h.2 with h0 | ⟨g, cap, cur, hv, hb, hg, r⟩
  · exact .inl h0
  · exact .inr ⟨g, cap, cur, hv, hb, by rw [x.block g (Array.getElem?_eq_some_iff.1 hg).1]; exact hg, r⟩
theorem Ext.owned {a w w' : World} {e : TypeId} {size n : Nat} {v : Value} {xs : List Value} (h : Ext a w) (hown : w.ownsRow a.heap.size e size v n xs) (hg : w.grownBy w' v.ownBlock) : Ext a w' := by
  refine ⟨hg.os.trans h.os, hg.tape.trans h.tape, hg.output.trans h.output, Nat.le_trans h.size hg.size, fun k hk => ?_⟩
  rw [hg.block k (Nat.lt_of_lt_of_le hk h.size) (fun e => by
    rcases hown.2 with ⟨h0, _⟩ | ⟨g, cap, cur, hv, hb, _⟩
    · rw [h0] at e; cases e
    · rw [hv] at e
      have : k = g := by simpa [Value.ownBlock] using e
      omega)]
  exact h.block k hk
theorem only_append {w w' : World} {v : Value} {q : Nat} (hq : ∀ g, v.ownBlock = some g → g = q) (hg : w.grownBy w' v.ownBlock) : Only (· = q) w w' :=
  ⟨hg.os, hg.tape, hg.output, hg.size, fun k hk hs => hg.block k hk (fun e => hs (hq k e.symm))⟩
def backL (l : List Int) (k : Nat) : List Int := (l.drop k).reverse.flatMap fun z => [z, z]
def rightL (l : List Int) (k : Nat) : List Int := (l.drop k).reverse.filter rightB
theorem drop_rev {l : List Int} {j : Nat} (h : j < l.length) : (l.drop j).reverse = (l.drop (j + 1)).reverse ++ [l[j]] := by
  rw [List.drop_eq_getElem_cons h, List.reverse_cons]
theorem backL_succ {l : List Int} {j : Nat} (h : j < l.length) : backL l j = backL l (j + 1) ++ [l[j], l[j]] := by
  unfold backL
  rw [drop_rev h, List.flatMap_append]
  simp
theorem rightL_yes {l : List Int} {j : Nat} (h : j < l.length) (hr : rightB l[j] = true) : rightL l j = rightL l (j + 1) ++ [l[j]] := by
  unfold rightL
  rw [drop_rev h, List.filter_append]
  simp [hr]
theorem rightL_no {l : List Int} {j : Nat} (h : j < l.length) (hr : rightB l[j] = false) : rightL l j = rightL l (j + 1) := by
  unfold rightL
  rw [drop_rev h, List.filter_append]
  simp [hr]
theorem backL_len (l : List Int) (k : Nat) : (backL l k).length ≤ 2 * l.length := by
  have h : ∀ m : List Int, (m.flatMap fun z => [z, z]).length = 2 * m.length := by
    intro m
    induction m with
    | nil => rfl
    | cons z m ih => simp only [List.flatMap_cons, List.length_append, List.length_cons, List.length_nil, ih]; omega
  unfold backL
  rw [h, List.length_reverse, List.length_drop]
  omega
theorem rightL_len (l : List Int) (k : Nat) : (rightL l k).length ≤ l.length := by
  have h1 := List.length_filter_le rightB (l.drop k).reverse
  unfold rightL
  rw [List.length_reverse, List.length_drop] at h1
  omega
theorem of_back (l : List Int) : ofL (backL l 0) 0 = ofL l 0 := ofL_congr fun z _ => by simp [backL]
theorem of_rights (l : List Int) : ofL (rightL l 0) 0 = ofL l 0 := ofL_congr fun z hz => by simp [rightL, hz]

end Go.Proofs.Ytgjnobjoijehaaa
