/- Layer 6: found: values, and the rows of what is sealed. -/
import Derived.Test.YtlapemeoffpmgaaCloD
import Derived.RangeFuncNested
import Derived.RangeFuncBound
import Derived.RangeFuncCalls
import Derived.RangeFuncLeaves
namespace Go.Proofs.Ytlapemeoffpmgaa
set_option linter.unusedSimpArgs false
set_option linter.unusedVariables false
open Go.RowKit

/-- A function but for one place. -/
def upF {α : Type} (f : Nat → α) (k : Nat) (v : α) : Nat → α := fun j => if j = k then v else f j
theorem upF_same {α : Type} (f : Nat → α) (k : Nat) (v : α) : upF f k v k = v := if_pos rfl
theorem upF_other {α : Type} (f : Nat → α) {j k : Nat} (v : α) (h : j ≠ k) : upF f k v j = f j := if_neg h
theorem sealedC_snoc (G : List Cap) (g : Cap) (k : Nat) (hk : g.type = (k : Int)) : sealedC (G ++ [g]) = upF (sealedC G) k (sealedC G k ++ [g.norm]) := by
  funext j
  unfold upF
  by_cases hj : j = k
  · subst hj
    rw [if_pos rfl]
    simp [sealedC, hk]
  · rw [if_neg hj]
    have : ¬ (k : Int) = (j : Int) := by omega
    simp [sealedC, hk, this]
theorem sealedC_nil : sealedC [] = fun _ => [] := by funext k; rfl
theorem sealedC_len (G : List Cap) (k : Nat) : (sealedC G k).length ≤ G.length := by
  unfold sealedC
  rw [List.length_map]
  exact List.length_filter_le _ _
/-- What is waiting, and what could be opened yet. -/
@[irreducible] def totC (w : List Cap) (S : Nat → List Cap) : Nat := w.length + sumS (List.range 256) (fun k => if 2 ≤ k then S k else [])
def cutS (S : Nat → List Cap) (L : List Nat) : Nat → List Cap := fun k => if k ∈ L then [] else S k
theorem tot_step (c : Cap) (w : List Cap) (S : Nat → List Cap) : totC (w ++ (kindsOf 64 c).flatMap S) (cutS S (kindsOf 64 c)) + 1 = totC (c :: w) S := by
  unfold totC cutS
  obtain ⟨R, hR⟩ : ∃ R, List.range 256 = R := ⟨_, rfl⟩
  rw [hR]
  have e1 := sumS_take (fun k : Nat => decide (2 ≤ k) && authC c 64 k) (fun k => if 2 ≤ k then S k else []) R
  have e2 : (R.filter fun k : Nat => decide (2 ≤ k) && authC c 64 k).flatMap (fun k => if 2 ≤ k then S k else []) = (kindsOf 64 c).flatMap S := by
    unfold kindsOf
    rw [hR]
    refine flatMap_cg fun k hk => ?_
    rw [← hR] at hk
    rw [if_pos (kindsOf_mem.1 hk).2.1]
  have e3 : sumS R (fun k : Nat => if (decide (2 ≤ k) && authC c 64 k) = true then [] else (if 2 ≤ k then S k else [])) = sumS R (fun k => if 2 ≤ k then (if k ∈ kindsOf 64 c then [] else S k) else []) := sumS_congr fun k hk => by
    have hk2 : k < 256 := by rw [← hR] at hk; simpa using hk
    by_cases c2 : 2 ≤ k
    · by_cases ca : authC c 64 k = true
      · rw [if_pos (by simp [c2, ca]), if_pos c2, if_pos (kindsOf_mem.2 ⟨hk2, c2, ca⟩)]
      · rw [if_neg (by simp [ca]), if_pos c2, if_pos c2, if_neg fun h => ca (kindsOf_mem.1 h).2.2]
    · rw [if_neg (by simp [c2]), if_neg c2, if_neg c2]
  rw [e2, e3] at e1
  rw [List.length_append]
  simp only [List.length_cons]
  omega
theorem tot_start (G : List Cap) : totC (sealedC G 0 ++ sealedC G 1) (sealedC G) ≤ G.length := by
  have h1 := sealed_sum G
  have e : totC (sealedC G 0 ++ sealedC G 1) (sealedC G) = sumS (List.range 256) (sealedC G) := by
    unfold totC
    have e0 : List.range 256 = 0 :: 1 :: (List.range 254).map (· + 2) := by decide +kernel
    rw [e0, sumS_cons, sumS_cons, sumS_cons, sumS_cons, List.length_append]
    have e1 : sumS ((List.range 254).map (· + 2)) (fun k => if 2 ≤ k then sealedC G k else []) = sumS ((List.range 254).map (· + 2)) (sealedC G) := sumS_congr fun k hk => by
      obtain ⟨j, _, rfl⟩ := List.mem_map.1 hk
      rw [if_pos (by omega)]
    rw [e1]
    simp
    omega
  omega
theorem sumS_le (S : Nat → List Cap) {k : Nat} : ∀ (R : List Nat), k ∈ R → (S k).length ≤ sumS R S
  | [], h => by cases h
  | a :: R, h => by
    rw [sumS_cons]
    rcases List.mem_cons.1 h with rfl | h
    · omega
    · have := sumS_le S R h
      omega
theorem tot_one {w : List Cap} {S : Nat → List Cap} {k : Nat} (h2 : 2 ≤ k) (hk : k < 256) : w.length + (S k).length ≤ totC w S := by
  have := sumS_le (k := k) (fun k => if 2 ≤ k then S k else []) (List.range 256) (by simpa using hk)
  simp only [if_pos h2] at this
  unfold totC
  omega
theorem kinds_nodup (p : Int) (o : Cap) : (kindsOf p o).Nodup := List.Pairwise.filter _ List.nodup_range
/-- One more kind opened. -/
theorem cut_snoc {S : Nat → List Cap} {L : List Nat} {k : Nat} : cutS S (L ++ [k]) = upF (cutS S L) k [] := by
  funext j
  unfold cutS upF
  by_cases hj : j = k
  · subst hj
    rw [if_pos rfl, if_pos (by simp)]
  · rw [if_neg hj]
    by_cases hl : j ∈ L
    · rw [if_pos (by simp [hl])]
      exact (if_pos hl).symm
    · rw [if_neg (by simp [hl, hj])]
      exact (if_neg hl).symm
theorem cut_nil (S : Nat → List Cap) : cutS S [] = S := by
  funext j
  unfold cutS
  simp
theorem cut_at {S : Nat → List Cap} {L : List Nat} {k : Nat} (h : ¬ k ∈ L) : cutS S L k = S k := if_neg h
theorem sumS_upd (S : Nat → List Cap) (k : Nat) : ∀ (R : List Nat), R.Nodup → k ∈ R → sumS R (upF S k []) + (S k).length = sumS R S
  | [], _, h => by cases h
  | a :: R, hn, h => by
    obtain ⟨h1, h2⟩ := List.nodup_cons.1 hn
    rw [sumS_cons, sumS_cons]
    by_cases ha : a = k
    · subst ha
      have e9 : sumS R (upF S a []) = sumS R S := sumS_congr fun j hj => upF_other S [] (fun e => h1 (e ▸ hj))
      rw [upF_same, e9]
      simp only [List.length_nil]
      omega
    · rw [upF_other _ _ ha]
      have := sumS_upd S k R h2 (by rcases List.mem_cons.1 h with e | e; exact absurd e.symm ha; exact e)
      omega
theorem tot_move {w : List Cap} {S : Nat → List Cap} {k : Nat} (h2 : 2 ≤ k) (hk : k < 256) : totC (w ++ S k) (upF S k []) = totC w S := by
  unfold totC
  have h := sumS_upd (fun k => if 2 ≤ k then S k else []) k (List.range 256) List.nodup_range (by simpa using hk)
  have e : (upF (fun k => if 2 ≤ k then S k else []) k []) = fun j => if 2 ≤ j then upF S k [] j else [] := by
    funext j
    unfold upF
    by_cases hj : j = k
    · rw [if_pos hj, if_pos hj]; simp
    · rw [if_neg hj, if_neg hj]
  rw [e] at h
  simp only [if_pos h2] at h
  rw [List.length_append]
  omega
/-- The rows of what is sealed, kind by kind, in an array of headers. -/
structure SeaL (W : World) (n0 ab : Nat) (vs : Nat → Value) (S : Nat → List Cap) : Prop where
  lt : ab < W.heap.size
  base : n0 ≤ ab
  cs : ∀ k, k < 256 → W.cell? ⟨ab, k, none⟩ = some (vs k)
  fz : ∀ k, k < 256 → W.frozen? ⟨ab, k, none⟩ = false
  row : ∀ k, k < 256 → ownsAt W n0 24 6 (vs k) (S k).length (rowF Cap.cells (S k))
  ap : ∀ j k g, j < 256 → k < 256 → (vs j).ownBlock = some g → (vs k).ownBlock = some g → j = k
  nab : ∀ k g, k < 256 → (vs k).ownBlock = some g → ¬ g = ab
section
variable {W W1 : World} {n0 ab : Nat} {vs : Nat → Value} {S : Nat → List Cap}
theorem SeaL.only {T : Nat → Prop} (h : SeaL W n0 ab vs S) (x : Only T W W1) (h0 : ¬ T ab) (hT : ∀ k g, k < 256 → (vs k).ownBlock = some g → ¬ T g) : SeaL W1 n0 ab vs S :=
  ⟨Nat.lt_of_lt_of_le h.lt x.size, h.base, fun k hk => (x.cells ab k h.lt h0).trans (h.cs k hk), fun k hk => (x.frozens ab k h.lt h0).trans (h.fz k hk), fun k hk => (h.row k hk).only x (hT k · hk), h.ap, h.nab⟩
theorem SeaL.ext (h : SeaL W n0 ab vs S) (x : Ext W W1) : SeaL W1 n0 ab vs S := h.only (Only.ofExt (S := fun _ => False) x) id fun _ _ _ _ => id
/-- One row grown, and laid in its header. -/
theorem SeaL.put (h : SeaL W n0 ab vs S) {k : Nat} (hk : k < 256) {v' : Value} {l' : List Cap} {T : Nat → Prop} (x : Only T W W1) (hT : ∀ i, T i → (vs k).ownBlock = some i ∨ W.heap.size ≤ i) (hown : ownsAt W1 n0 24 6 v' l'.length (rowF Cap.cells l'))
    (hat : ∀ g, v'.ownBlock = some g → (vs k).ownBlock = some g ∨ W.heap.size ≤ g) : SeaL (W1.setCell ⟨ab, k, none⟩ v') n0 ab (upF vs k v') (upF S k l') := by
  have hx : Only (fun i => (vs k).ownBlock = some i) W W1 := Only.trans (Only.refl _ W) x hT
  have ha : ¬ (vs k).ownBlock = some ab := fun e => h.nab k ab hk e rfl
  have h1 : ∀ j, j < 256 → W1.cell? ⟨ab, j, none⟩ = some (vs j) := fun j hj => (hx.cells ab j h.lt ha).trans (h.cs j hj)
  have h2 : ∀ j, j < 256 → W1.frozen? ⟨ab, j, none⟩ = false := fun j hj => (hx.frozens ab j h.lt ha).trans (h.fz j hj)
  have hab : ab < W1.heap.size := Nat.lt_of_lt_of_le h.lt hx.size
  have hs : Only (fun i => i = ab) W1 (W1.setCell ⟨ab, k, none⟩ v') := Only.setCell (S := fun i => i = ab) (Only.refl _ _) (.inl rfl) _
  have hn : ∀ g, v'.ownBlock = some g → ¬ g = ab := fun g e => by
    rcases hat g e with h3 | h3
    · exact h.nab k g hk h3
    · have := h.lt; omega
  refine ⟨Nat.lt_of_lt_of_le hab hs.size, h.base, fun j hj => ?_, fun j hj => ?_, fun j hj => ?_, fun i j g hi hj e1 e2 => ?_, fun j g hj e => ?_⟩
  · by_cases c : j = k
    · subst c
      rw [upF_same]
      simp [go_sem, h1 j hj]
    · rw [upF_other _ _ c]
      have : ¬ k = j := fun e => c e.symm
      simp [go_sem, h1 j hj, this]
  · simp [go_sem, h2 j hj]
  · by_cases c : j = k
    · subst c
      rw [upF_same, upF_same]
      exact hown.only hs hn
    · rw [upF_other _ _ c, upF_other _ _ c]
      exact ((h.row j hj).only hx fun g e1 e2 => c (h.ap j k g hj hk e1 e2)).only hs fun g e => h.nab j g hj e
  · unfold upF at e1 e2
    split at e1 <;> split at e2
    · omega
    · exfalso
      rcases hat g e1 with h3 | h3
      · have := h.ap k j g hk hj h3 e2; omega
      · have := (h.row j hj).lt g e2; omega
    · exfalso
      rcases hat g e2 with h3 | h3
      · have := h.ap i k g hi hk e1 h3; omega
      · have := (h.row i hi).lt g e1; omega
    · exact h.ap i j g hi hj e1 e2
  · unfold upF at e
    split at e
    · exact hn g e
    · exact h.nab j g hj e
/-- A header cleared. -/
theorem SeaL.nil (h : SeaL W n0 ab vs S) {k : Nat} (hk : k < 256) : SeaL (W.setCell ⟨ab, k, none⟩ (.slice none 0 0)) n0 ab (upF vs k (.slice none 0 0)) (upF S k []) :=
  h.put hk (T := fun _ => False) (Only.refl _ _) (fun _ h => h.elim) (ownsAt_nil _ _ _ _) (fun g e => by cases e)
end
def ownAtBox (lb : Nat) (W : World) (i : Nat) : Prop := ∃ o n c, W.cell? ⟨lb, 0, none⟩ = some (.slice (some ⟨i, o, none⟩) n c)
def SB (lb : Nat) (W : World) : Nat → Prop := fun i => i = lb ∨ ownAtBox lb W i ∨ ∃ o : Obj, W.heap[i]? = some o ∧ o.isCells = false
theorem cell_isCells {w : World} {b x : Nat} {v : Value} (h : w.cell? ⟨b, x, none⟩ = some v) : ¬ ∃ o : Obj, w.heap[b]? = some o ∧ o.isCells = false := by
  rintro ⟨o, ho, hc⟩
  simp only [World.cell?, ho] at h
  cases o <;> simp_all [Obj.isCells]
theorem ownsAt.isCells {w : World} {base : Nat} {e : TypeId} {size : Nat} {v : Value} {n : Nat} {xs : List Value} {g : Nat} (h : ownsAt w base e size v n xs) (hg : v.ownBlock = some g) : ∀ o : Obj, w.heap[g]? = some o → o.isCells = true := by
  rcases h.2 with ⟨rfl, _⟩ | ⟨g', o, cap, cur, rfl, _, h1, _⟩
  · cases hg
  · obtain rfl : g' = g := by simpa [Value.ownBlock] using hg
    intro o ho
    rw [h1] at ho
    cases ho
    rfl
/-- What a round keeps: it turns a box, and the row that it holds. -/
def KpB (lb : Nat) (W W' : World) : Prop := Only (SB lb W) W W' ∧ ∀ i, ownAtBox lb W' i → ownAtBox lb W i ∨ (W.heap.size ≤ i ∧ i < W'.heap.size)
theorem KpB.refl (lb : Nat) (W : World) : KpB lb W W := ⟨Only.refl _ _, fun _ h => .inl h⟩
theorem KpB.trans {lb : Nat} {a b c : World} (h : KpB lb a b) (k : KpB lb b c) : KpB lb a c := by
  refine ⟨h.1.trans k.1 fun i hi => ?_, fun i hi => ?_⟩
  · rcases hi with hi | hi | ⟨o, ho, hc⟩
    · exact .inl (.inl hi)
    · rcases h.2 i hi with e | e
      · exact .inl (.inr (.inl e))
      · exact .inr e.1
    · by_cases hs : SB lb a i
      · exact .inl hs
      · rcases Nat.lt_or_ge i a.heap.size with e | e
        · exact .inl (.inr (.inr ⟨o, (h.1.block i e hs).symm.trans ho, hc⟩))
        · exact .inr e
  · rcases k.2 i hi with e | e
    · rcases h.2 i e with e | e
      · exact .inl e
      · exact .inr ⟨e.1, Nat.lt_of_lt_of_le e.2 k.1.size⟩
    · exact .inr ⟨Nat.le_trans h.1.size e.1, e.2⟩
/-- What the iterator turns between two rounds. -/
def TnF (lb n0 : Nat) (A B : World) : Prop := ∃ T : Nat → Prop, Only T A B ∧ ∀ i, T i → n0 ≤ i ∧ ¬ ownAtBox lb A i ∧ ∀ o : Obj, A.heap[i]? = some o → o.isCells = true
theorem TnF.ext {lb n0 : Nat} {A B : World} (h : Ext A B) : TnF lb n0 A B := ⟨fun _ => False, Only.ofExt h, fun _ h => h.elim⟩
/-- What is known while it is told. -/
structure FoI (W : World) (n0 lb ab : Nat) (vs : Nat → Value) (S : Nat → List Cap) (vw : Value) (wt : List Cap) : Prop where
  sea : SeaL W n0 ab vs S
  own : ownsAt W n0 24 6 vw wt.length (rowF Cap.cells wt)
  wap : ∀ k g, k < 256 → vw.ownBlock = some g → ¬ (vs k).ownBlock = some g
  wab : ∀ g, vw.ownBlock = some g → ¬ g = ab
  lbx : ∀ i, ownAtBox lb W i → i < W.heap.size ∧ ¬ i = ab ∧ ¬ vw.ownBlock = some i ∧ ∀ k, k < 256 → ¬ (vs k).ownBlock = some i
  lbl : lb < n0
section
variable {W W1 : World} {n0 lb ab : Nat} {vs : Nat → Value} {S : Nat → List Cap} {vw : Value} {wt : List Cap}
theorem FoI.lbs (h : FoI W n0 lb ab vs S vw wt) : lb < W.heap.size := by
  have := h.lbl
  have := h.sea.base
  have := h.sea.lt
  omega
theorem FoI.only {T : Nat → Prop} (h : FoI W n0 lb ab vs S vw wt) (x : Only T W W1) (h0 : ¬ T ab) (hl : ¬ T lb) (hT : ∀ k g, k < 256 → (vs k).ownBlock = some g → ¬ T g) (hw : ∀ g, vw.ownBlock = some g → ¬ T g) : FoI W1 n0 lb ab vs S vw wt := by
  refine ⟨h.sea.only x h0 hT, h.own.only x hw, h.wap, h.wab, ?_, h.lbl⟩
  rintro i ⟨o, n, c, e⟩
  obtain ⟨h1, h2⟩ := h.lbx i ⟨o, n, c, (x.cells lb 0 h.lbs hl).symm.trans e⟩
  exact ⟨Nat.lt_of_lt_of_le h1 x.size, h2⟩
theorem FoI.ext (h : FoI W n0 lb ab vs S vw wt) (x : Ext W W1) : FoI W1 n0 lb ab vs S vw wt := h.only (Only.ofExt (S := fun _ => False) x) id id (fun _ _ _ _ => id) fun _ _ => id
/-- A round keeps it. -/
theorem FoI.kp (h : FoI W n0 lb ab vs S vw wt) (k : KpB lb W W1) : FoI W1 n0 lb ab vs S vw wt := by
  have ha : ¬ SB lb W ab := by
    rintro (e | e | e)
    · have := h.lbl; have := h.sea.base; omega
    · exact (h.lbx ab e).2.1 rfl
    · exact cell_isCells (h.sea.cs 0 (by omega)) e
  have hv : ∀ k g, k < 256 → (vs k).ownBlock = some g → ¬ SB lb W g := by
    rintro k g hk e (e1 | e1 | ⟨o, ho, hc⟩)
    · have := ((h.sea.row k hk).lt g e).1; have := h.lbl; omega
    · exact (h.lbx g e1).2.2.2 k hk e
    · rw [(h.sea.row k hk).isCells e o ho] at hc; cases hc
  have hw : ∀ g, vw.ownBlock = some g → ¬ SB lb W g := by
    rintro g e (e1 | e1 | ⟨o, ho, hc⟩)
    · have := (h.own.lt g e).1; have := h.lbl; omega
    · exact (h.lbx g e1).2.2.1 e
    · rw [h.own.isCells e o ho] at hc; cases hc
  refine ⟨h.sea.only k.1 ha hv, h.own.only k.1 hw, h.wap, h.wab, fun i hi => ?_, h.lbl⟩
  rcases k.2 i hi with e | ⟨e, e2⟩
  · obtain ⟨h1, h2⟩ := h.lbx i e
    exact ⟨Nat.lt_of_lt_of_le h1 k.1.size, h2⟩
  · refine ⟨e2, fun e3 => ?_, fun e3 => ?_, fun j hj e3 => ?_⟩
    · have := h.sea.lt; omega
    · have := (h.own.lt i e3).2; omega
    · have := ((h.sea.row j hj).lt i e3).2; omega
/-- The first one that waits is taken. -/
theorem FoI.tail {g o c : Nat} {x : Cap} (h : FoI W n0 lb ab vs S (.slice (some ⟨g, o, none⟩) (wt.length + 1) c) (x :: wt)) : FoI W n0 lb ab vs S (.slice (some ⟨g, o + 6, none⟩) wt.length (c - 1)) wt := by
  obtain ⟨A', h1, _, h2⟩ := h.own.drop (k := 1) rfl (by simp)
  obtain rfl := h1 g o rfl
  refine ⟨h.sea, ?_, h.wap, h.wab, h.lbx, h.lbl⟩
  have e : (rowF Cap.cells (x :: wt)).drop (1 * 6) = rowF Cap.cells wt := by
    rw [rowF_drop (n := 6) cap_len]
    rfl
  rw [e] at h2
  simpa using h2
/-- The last one that waits is taken. -/
theorem FoI.shut {A : Option Addr} {n c : Nat} {l : List Cap} (h : FoI W n0 lb ab vs S (.slice A n c) l) (hn : l.length = n) : FoI W n0 lb ab vs S (.slice A 0 0) [] := by
  subst hn
  have e : (Value.slice A 0 0).ownBlock = (Value.slice A l.length c).ownBlock := by cases A <;> rfl
  exact ⟨h.sea, h.own.shut, fun k g hk e1 => h.wap k g hk (e ▸ e1), fun g e1 => h.wab g (e ▸ e1), fun i hi => by rw [e]; exact h.lbx i hi, h.lbl⟩
/-- What was sealed with one kind waits, and is no more sealed. -/
theorem FoI.app (h : FoI W n0 lb ab vs S vw wt) {k : Nat} (hk : k < 256) {v' : Value} (x : Only (fun i => vw.ownBlock = some i) W W1) (hown : ownsAt W1 n0 24 6 v' (wt ++ S k).length (rowF Cap.cells (wt ++ S k)))
    (hat : ∀ g, v'.ownBlock = some g → vw.ownBlock = some g ∨ W.heap.size ≤ g) :
    FoI (W1.setCell ⟨ab, k, none⟩ (.slice none 0 0)) n0 lb ab (upF vs k (.slice none 0 0)) (upF S k []) v' (wt ++ S k) ∧ TnF lb n0 W (W1.setCell ⟨ab, k, none⟩ (.slice none 0 0)) := by
  have hl : ¬ vw.ownBlock = some lb := fun e => by have := (h.own.lt lb e).1; have := h.lbl; omega
  have hv' : ∀ g, v'.ownBlock = some g → ¬ g = ab := fun g e => by
    rcases hat g e with h3 | h3
    · exact h.wab g h3
    · have := h.sea.lt; omega
  have h1 : SeaL W1 n0 ab vs S := h.sea.only x (fun e => h.wab ab e rfl) fun k g hk e e2 => h.wap k g hk e2 e
  have hs : Only (fun i => i = ab) W1 (W1.setCell ⟨ab, k, none⟩ (.slice none 0 0)) := Only.setCell (S := fun i => i = ab) (Only.refl _ _) (.inl rfl) _
  have hlab : ¬ lb = ab := by have := h.lbl; have := h.sea.base; omega
  refine ⟨⟨h1.nil hk, hown.only hs hv', fun j g hj e e2 => ?_, hv', ?_, h.lbl⟩, ⟨fun i => i = ab ∨ vw.ownBlock = some i, ?_, ?_⟩⟩
  · unfold upF at e2
    split at e2
    · cases e2
    · rcases hat g e with h3 | h3
      · exact h.wap j g hj h3 e2
      · have := ((h.sea.row j hj).lt g e2).2; omega
  · rintro i ⟨o, n, c, e⟩
    have e1 := (hs.cells lb 0 (Nat.lt_of_lt_of_le h.lbs x.size) hlab).symm.trans e
    obtain ⟨p1, p2, p3, p4⟩ := h.lbx i ⟨o, n, c, (x.cells lb 0 h.lbs hl).symm.trans e1⟩
    refine ⟨Nat.lt_of_lt_of_le p1 (Nat.le_trans x.size hs.size), p2, fun e3 => ?_, fun j hj e3 => ?_⟩
    · rcases hat i e3 with h3 | h3
      · exact p3 h3
      · omega
    · unfold upF at e3
      split at e3
      · cases e3
      · exact p4 j hj e3
  · exact Only.setCell (Only.trans (Only.refl _ W) x fun i hi => .inl (.inr hi)) (.inl (.inl rfl)) _
  · rintro i (rfl | e)
    · refine ⟨h.sea.base, fun e => (h.lbx i e).2.1 rfl, fun o ho => ?_⟩
      cases hc : o.isCells with
      | true => rfl
      | false => exact absurd ⟨o, ho, hc⟩ (cell_isCells (h.sea.cs 0 (by omega)))
    · exact ⟨(h.own.lt i e).1, fun e2 => (h.lbx i e2).2.2.1 e, fun o ho => h.own.isCells e o ho⟩
def lenV : Value → Nat | .slice _ n _ => n | _ => 0
def lenH (W : World) (ab : Nat) : Nat := ((List.range 256).map fun k => if 2 ≤ k then ((W.cell? ⟨ab, k, none⟩).map lenV).getD 0 else 0).sum
theorem SeaL.lens (h : SeaL W n0 ab vs S) : lenH W ab = sumS (List.range 256) (fun k => if 2 ≤ k then S k else []) := by
  unfold lenH sumS
  refine congrArg List.sum (List.map_congr_left fun k hk => ?_)
  have hk2 : k < 256 := by simpa using hk
  by_cases c : 2 ≤ k
  · simp only [if_pos c, h.cs k hk2]
    obtain ⟨A, ca, e, _⟩ := (h.row k hk2).shape
    rw [e]
    rfl
  · simp only [if_neg c, List.length_nil]
theorem FoI.meas (h : FoI W n0 lb ab vs S vw wt) : lenV vw + lenH W ab = totC wt S := by
  obtain ⟨A, ca, e, _⟩ := h.own.shape
  rw [h.sea.lens, e]
  unfold totC
  rfl
theorem tot_le (c : Cap) (w : List Cap) (S : Nat → List Cap) : totC w S + 1 = totC (c :: w) S := by
  unfold totC
  rw [List.length_cons]
  omega
@[irreducible] def FB (G Y : List Cap) (n : Nat) (w : List Cap) (S : Nat → List Cap) : Prop := foundC G = Y ++ bfsC n w S
theorem FB.start (G : List Cap) : FB G [] (G.length + 1) (sealedC G 0 ++ sealedC G 1) (sealedC G) := by
  unfold FB
  rfl
theorem FB.last {G Y : List Cap} {n : Nat} {S : Nat → List Cap} (h : FB G Y (n + 1) [] S) : foundC G = Y := by
  unfold FB at h
  rw [h, bfsC, List.append_nil]
theorem FB.step {G Y : List Cap} {n : Nat} {c : Cap} {w : List Cap} {S : Nat → List Cap} (h : FB G Y (n + 1) (c :: w) S) : FB G (Y ++ [c]) n (w ++ (kindsOf 64 c).flatMap S) (cutS S (kindsOf 64 c)) := by
  unfold FB at h ⊢
  rw [h, bfsC, List.append_assoc]
  rfl
end

end Go.Proofs.Ytlapemeoffpmgaa
