/- Layer 6: the set while it is made. -/
import Derived.Test.YtlapemeoffpmgaaCloFb
import Derived.RangeFuncNested
import Derived.RangeFuncBound
import Derived.RangeFuncCalls
import Derived.RangeFuncLeaves
import Derived.Shelf.Abstract
import Derived.Shelf.RegionOpen
import Derived.WalkKit
import Derived.OwnWalkIn
import Derived.TacticsInMore
import Derived.LoopNIn
import Derived.LoopIn
namespace Go.Proofs.Ytlapemeoffpmgaa
set_option linter.unusedSimpArgs false
set_option linter.unusedVariables false
open Go.RowKit

attribute [local go_sem] Oper.semAt_some
/-- A set while it is made: its two rows are its own. -/
structure NwS (W : World) (s : Nat) (v : Value) (G : List Cap) (u : Value) (O : List Cap) : Prop where
  lt : s < W.heap.size
  c0 : W.cell? ⟨s, 0, none⟩ = some v
  c1 : W.cell? ⟨s, 1, none⟩ = some u
  f0 : W.frozen? ⟨s, 0, none⟩ = false
  f1 : W.frozen? ⟨s, 1, none⟩ = false
  g : ownsAt W (s + 1) 24 6 v G.length (rowF Cap.cells G)
  o : ownsAt W (s + 1) 24 6 u O.length (rowF Cap.cells O)
  ap : ∀ b, v.ownBlock = some b → ¬ u.ownBlock = some b
section
variable {W W1 : World} {s : Nat} {v u : Value} {G O : List Cap}
theorem NwS.only {T : Nat → Prop} (h : NwS W s v G u O) (x : Only T W W1) (h0 : ¬ T s) (hv : ∀ b, v.ownBlock = some b → ¬ T b) (hu : ∀ b, u.ownBlock = some b → ¬ T b) : NwS W1 s v G u O :=
  ⟨Nat.lt_of_lt_of_le h.lt x.size, (x.cells s 0 h.lt h0).trans h.c0, (x.cells s 1 h.lt h0).trans h.c1, (x.frozens s 0 h.lt h0).trans h.f0, (x.frozens s 1 h.lt h0).trans h.f1, h.g.only x hv, h.o.only x hu, h.ap⟩
theorem NwS.ext (h : NwS W s v G u O) (x : Ext W W1) : NwS W1 s v G u O := h.only (Only.ofExt (S := fun _ => False) x) id (fun _ _ => id) fun _ _ => id
theorem NwS.put0 (h : NwS W s v G u O) {v' : Value} {G' : List Cap} {T : Nat → Prop} (x : Only T W W1) (hT : ∀ i, T i → v.ownBlock = some i ∨ W.heap.size ≤ i) (hown : ownsAt W1 (s + 1) 24 6 v' G'.length (rowF Cap.cells G'))
    (hat : ∀ g, v'.ownBlock = some g → v.ownBlock = some g ∨ W.heap.size ≤ g) : NwS (W1.setCell ⟨s, 0, none⟩ v') s v' G' u O := by
  have hx : Only (fun i => v.ownBlock = some i) W W1 := Only.trans (Only.refl _ W) x hT
  have ha : ¬ v.ownBlock = some s := fun e => by have := (h.g.lt s e).1; omega
  have h1 := (hx.cells s 1 h.lt ha).trans h.c1
  have h2 := (hx.frozens s 0 h.lt ha).trans h.f0
  have h3 := (hx.frozens s 1 h.lt ha).trans h.f1
  have h4 := (hx.cells s 0 h.lt ha).trans h.c0
  have hs : Only (fun i => i = s) W1 (W1.setCell ⟨s, 0, none⟩ v') := Only.setCell (S := fun i => i = s) (Only.refl _ _) (.inl rfl) _
  have hl : s < W1.heap.size := Nat.lt_of_lt_of_le h.lt hx.size
  refine ⟨Nat.lt_of_lt_of_le hl hs.size, by simp [go_sem, h4], by simp [go_sem, h1], by simp [go_sem, h2], by simp [go_sem, h3], hown.only hs fun g e e2 => ?_, (h.o.only hx fun g e e2 => h.ap g e2 e).only hs fun g e e2 => ?_, fun b e e2 => ?_⟩
  · have := (hown.lt g e).1; omega
  · have := (h.o.lt g e).1; omega
  · rcases hat b e with h3 | h3
    · exact h.ap b h3 e2
    · have := (h.o.lt b e2).2; omega
theorem NwS.put1 (h : NwS W s v G u O) {u' : Value} {O' : List Cap} {T : Nat → Prop} (x : Only T W W1) (hT : ∀ i, T i → u.ownBlock = some i ∨ W.heap.size ≤ i) (hown : ownsAt W1 (s + 1) 24 6 u' O'.length (rowF Cap.cells O'))
    (hat : ∀ g, u'.ownBlock = some g → u.ownBlock = some g ∨ W.heap.size ≤ g) : NwS (W1.setCell ⟨s, 1, none⟩ u') s v G u' O' := by
  have hx : Only (fun i => u.ownBlock = some i) W W1 := Only.trans (Only.refl _ W) x hT
  have ha : ¬ u.ownBlock = some s := fun e => by have := (h.o.lt s e).1; omega
  have h1 := (hx.cells s 1 h.lt ha).trans h.c1
  have h2 := (hx.frozens s 0 h.lt ha).trans h.f0
  have h3 := (hx.frozens s 1 h.lt ha).trans h.f1
  have h4 := (hx.cells s 0 h.lt ha).trans h.c0
  have hs : Only (fun i => i = s) W1 (W1.setCell ⟨s, 1, none⟩ u') := Only.setCell (S := fun i => i = s) (Only.refl _ _) (.inl rfl) _
  have hl : s < W1.heap.size := Nat.lt_of_lt_of_le h.lt hx.size
  refine ⟨Nat.lt_of_lt_of_le hl hs.size, by simp [go_sem, h4], by simp [go_sem, h1], by simp [go_sem, h2], by simp [go_sem, h3], (h.g.only hx fun g e e2 => h.ap g e e2).only hs fun g e e2 => ?_, hown.only hs fun g e e2 => ?_, fun b e e2 => ?_⟩
  · have := (h.g.lt g e).1; omega
  · have := (hown.lt g e).1; omega
  · rcases hat b e2 with h3 | h3
    · exact h.ap b e h3
    · have := (h.g.lt b e).2; omega
theorem NwS.set1 (h : NwS W s v G u O) {u' : Value} {O' : List Cap} (hown : ownsAt W (s + 1) 24 6 u' O'.length (rowF Cap.cells O')) (hap : ∀ b, v.ownBlock = some b → ¬ u'.ownBlock = some b) : NwS (W.setCell ⟨s, 1, none⟩ u') s v G u' O' := by
  have hs : Only (fun i => i = s) W (W.setCell ⟨s, 1, none⟩ u') := Only.setCell (S := fun i => i = s) (Only.refl _ _) (.inl rfl) _
  refine ⟨Nat.lt_of_lt_of_le h.lt hs.size, by simp [go_sem, h.c0], by simp [go_sem, h.c1], by simp [go_sem, h.f0], by simp [go_sem, h.f1], h.g.only hs fun g e e2 => ?_, hown.only hs fun g e e2 => ?_, hap⟩
  · have := (h.g.lt g e).1; omega
  · have := (hown.lt g e).1; omega
theorem NwS.clS {A B : Option Addr} {cg co : Nat} (h : NwS W s (.slice A G.length cg) G (.slice B O.length co) O) : ClS W s A cg G B co O :=
  ⟨h.lt, h.c0, h.c1, h.g.rdF rfl, h.o.rdF rfl⟩
end
theorem grantsC_snoc (l : List Cap) (d : Cap) : grantsC (l ++ [d]) = if (d.tag && rightC d) = true then grantsC l ++ [d] else grantsC l := by
  unfold grantsC
  rw [List.filter_append]
  split
  · rename_i h; simp [h]
  · rename_i h; simp [h]
theorem grantsC_len (l : List Cap) : (grantsC l).length ≤ l.length := List.length_filter_le _ _
theorem grantsC_mem {l : List Cap} {g : Cap} (h : g ∈ grantsC l) : g ∈ l ∧ g.tag = true ∧ rightC g = true := by
  have := List.mem_filter.1 h
  simpa using this
/-- What lies, when open ones are gathered. -/
def OpI (W0 : World) (lb : Nat) (pre : List Cap) (W : World) : Prop :=
  (∃ vr, Boxed W lb 22 vr ∧ ownsAt W W0.heap.size 24 6 vr pre.length (rowF Cap.cells pre)) ∧ Only (fun i => i = lb ∨ W0.heap.size ≤ i) W0 W
theorem OpI.own {W0 : World} {lb B : Nat} (hB : W0.heap.size ≤ B) : OwnFrom B (fun pre W => OpI W0 lb pre W) := by
  rintro pre W W' row ⟨⟨vr, h1, h2⟩, h4⟩ hg hr
  have hO : Only (fun i => row = some i) W W' := grownOnly hg fun g e => e
  refine ⟨⟨vr, (hO.block lb h1.lt fun e => ?_).trans h1, h2.only hO fun g hg2 e => ?_⟩, h4.trans' (grownOnly hg fun g e => .inr (Nat.le_trans hB (hr g e).1))⟩
  · obtain ⟨_, o, ho, hc⟩ := hr lb e
    rw [show W.heap[lb]? = _ from h1] at ho
    cases ho
    cases hc
  · obtain ⟨_, o, ho, hc⟩ := hr g e
    rw [h2.isCells hg2 o ho] at hc
    cases hc
theorem ownsAt.inBox {w : World} {base : Nat} {e : TypeId} {size : Nat} {v : Value} {n : Nat} {xs : List Value} {lb g : Nat} (h : ownsAt w base e size v n xs) (hb : w.cell? ⟨lb, 0, none⟩ = some v) (hg : v.ownBlock = some g) : ownAtBox lb w g := by
  rcases h.2 with ⟨rfl, _⟩ | ⟨g', o, cap, cur, rfl, _⟩
  · cases hg
  · obtain rfl : g' = g := by simpa [Value.ownBlock] using hg
    exact ⟨_, _, _, hb⟩
theorem OpI.turn {W0 : World} {lb : Nat} (hlb : lb < W0.heap.size) : ∀ pre A B, OpI W0 lb pre A → TnF lb W0.heap.size A B → OpI W0 lb pre B := by
  rintro pre A B ⟨⟨vr, h1, h2⟩, h4⟩ ⟨T, hx, hT⟩
  refine ⟨⟨vr, (hx.block lb h1.lt fun e => ?_).trans h1, h2.only hx fun g hg e => ?_⟩, h4.trans' (hx.wider fun i hi => .inr (hT i hi).1)⟩
  · have := (hT lb e).1; omega
  · exact (hT g e).2.1 (h2.inBox h1.cell hg)
/-- One round. -/
theorem open_round {W0 W w1 : World} {lb : Nat} {vr v' : Value} {pre : List Cap} {x : Cap} {row : Obj} (hlb : lb < W0.heap.size) (hO : Only (fun i => i = lb ∨ W0.heap.size ≤ i) W0 W) (hvb : Boxed W lb 22 vr) (hvr : ownsAt W W0.heap.size 24 6 vr pre.length (rowF Cap.cells pre))
    (hgrow : (W.alloc row).grownBy w1 vr.ownBlock) (hown : ownsAt w1 W0.heap.size 24 6 v' (pre.length + 1) (rowF Cap.cells pre ++ Cap.cells x)) (hat : v'.ownBlock = vr.ownBlock ∨ ∃ g, v'.ownBlock = some g ∧ (W.alloc row).heap.size ≤ g) :
    KeepsFrom W0.heap.size W (w1.setCell ⟨lb, 0, none⟩ v') ∧ KpB lb W (w1.setCell ⟨lb, 0, none⟩ v') ∧ OpI W0 lb (pre ++ [x]) (w1.setCell ⟨lb, 0, none⟩ v') := by
  have hsz : (W.alloc row).heap.size = W.heap.size + 1 := by simp
  have h1 : Only (fun i => i = lb ∨ vr.ownBlock = some i) W w1 := (Only.alloc (Only.refl _ _) _).trans' (grownOnly hgrow fun g e => .inr e)
  have h2 : Only (fun i => i = lb ∨ vr.ownBlock = some i) W (w1.setCell ⟨lb, 0, none⟩ v') := Only.setCell h1 (.inl (.inl rfl)) v'
  have hb1 : Boxed w1 lb 22 vr := (hvb.alloc row).kept hgrow fun e => by have := (hvr.lt lb e.symm).1; omega
  have hb2 := hb1.set v'
  have hne : ¬ v'.ownBlock = some lb := fun e => by have := (hown.lt lb e).1; omega
  have h3 : Only (fun i => i = lb) w1 (w1.setCell ⟨lb, 0, none⟩ v') := Only.setCell (S := fun i => i = lb) (Only.refl _ _) (.inl rfl) v'
  refine ⟨⟨h2.size, fun k o hk ho hc => (h2.block k (Array.getElem?_eq_some_iff.1 ho).1 ?_).trans ho⟩, ⟨h2.wider ?_, ?_⟩, ⟨v', hb2, ?_⟩, ?_⟩
  · rintro (rfl | e)
    · omega
    · rw [hvr.isCells e o ho] at hc
      cases hc
  · rintro i (rfl | e)
    · exact .inl rfl
    · exact .inr (.inl (hvr.inBox hvb.cell e))
  · rintro i ⟨o1, n1, c1, e⟩
    rw [hb2.cell] at e
    cases e
    rcases hat with h | ⟨g, h, h4⟩
    · exact .inl (hvr.inBox hvb.cell (h.symm.trans rfl))
    · have h5 := (hown.lt g h).2
      cases h
      exact .inr ⟨by simp only at h4; omega, Nat.lt_of_lt_of_le h5 h3.size⟩
  · rw [List.length_append, rowF_append, rowF_one]
    exact hown.only h3 fun g hg e => hne (by rw [hg, e])
  · refine hO.trans' (h2.wider ?_)
    rintro i (rfl | e)
    · exact .inl rfl
    · exact .inr (hvr.lt i e).1
theorem wpListIn_append_at {F : Fence} {n : Nat} {P : Program} (w : World) {ops : Array Oper} {rest : List Oper} {o : Oper} {a : Act} {Q : Exit → Act → World → Prop}
    (hg : o.guard = none) (s x : Operand) (t : TypeId) (hop : o.op = Op.call { callee := Callee.builtin Builtin.append, args := #[s, x], argTypes := #[t, t] })
    (base : Nat) (e : TypeId) (i : TypeInfo) (z : Value) (size bytes : Nat) (h1 : P.underlying t = some (.slice e)) (h2 : P.info? e = some i) (h3 : i.zero = some z) (h4 : i.size = size) (h5 : i.bytes = bytes) (h6 : z.cells.size = size) (h7 : 0 < size)
    (v : Value) (k : Nat) (xs : List Value) (hs : a.eval s = v) (hown : ownsAt w base e size v k xs) (ad : Addr) (m c : Nat) (news : List Value) (hx : a.eval x = .slice (some ad) m c) (hn : news.length = m * size)
    (hc : ∀ j u, news[j]? = some u → w.cell? (ad.add j) = some u) (h1c : ∀ u ∈ news, u.oneCell' = true) (b1 : k + m ≤ maxLen) (b2 : (k + m) * bytes ≤ 140737488355328) (b3 : base ≤ w.heap.size) (hm0 : 0 < m)
    (hK : ∀ v' w', ownsAt w' base e size v' (k + m) (xs ++ news) → w.grownBy w' v.ownBlock → (v'.ownBlock = v.ownBlock ∨ ∃ g, v'.ownBlock = some g ∧ w.heap.size ≤ g) → wpListIn F n P ops Q rest (a.put o.dst v') w') :
    wpListIn F n P ops Q (o :: rest) a w := by
  refine wpListIn_plain hg fun K hK' => ?_
  obtain ⟨v', w', hrun, r1, r2, r3⟩ := run_append_at (P := P) w base t o.type e i z size bytes h1 h2 h3 h4 h5 h6 h7 v k xs hown ad m c news hn hc h1c b1 b2 b3 hm0
  unfold Oper.wpIn
  refine ⟨?_, ?_⟩
  · simp [Oper.about, hop, resolve, Target.leads, Sem.run_pure]
  · rw [Oper.semAt_plain F _ _ (by rw [hop]; intro c hc'; cases hc')]
    simp [execOp, hop, resolve, invoke, builtin, hs, hx, hrun, Result.andThen]
    exact hK' _ _ (hK v' w' r1 r2 r3)
theorem bfs_len : ∀ (n : Nat) (w : List Cap) (S : Nat → List Cap), (bfsC n w S).length ≤ n
  | 0, w, S => Nat.le_refl _
  | n + 1, [], S => Nat.zero_le _
  | n + 1, c :: w, S => by
    rw [bfsC, List.length_cons]
    exact Nat.succ_le_succ (bfs_len n _ _)
theorem keepsFrom_ext {B : Nat} {W W1 : World} (h : Ext W W1) : KeepsFrom B W W1 := ⟨h.size, fun k o _ ho _ => (h.block k (Array.getElem?_eq_some_iff.1 ho).1).trans ho⟩
theorem KpB.putObj {lb : Nat} (W : World) (l : Nat) (o o' : Obj) (hne : ¬ lb = l) (hlb : lb < W.heap.size) (hl : W.heap[l]? = some o) (hc : o.isCells = false) : KpB lb W (W.putObj l o') := by
  refine ⟨grownOnly (grownBy_putObj' W l o') fun g e => by cases e; exact .inr (.inr ⟨o, hl, hc⟩), ?_⟩
  rintro i ⟨o1, n1, c1, e⟩
  refine .inl ⟨o1, n1, c1, ?_⟩
  have h : Only (fun i => i = l) W (W.putObj l o') := grownOnly (grownBy_putObj' W l o') fun g e => by cases e; rfl
  exact (h.cells lb 0 hlb hne).symm.trans e
theorem KpB.alloc {lb : Nat} {W : World} (hlb : lb < W.heap.size) (o : Obj) : KpB lb W (W.alloc o) := by
  refine ⟨Only.alloc (Only.refl _ _) _, ?_⟩
  rintro i ⟨o1, n1, c1, e⟩
  exact .inl ⟨o1, n1, c1, ((Ext.alloc (Ext.refl W) o).cells lb 0 hlb).symm.trans e⟩

end Go.Proofs.Ytlapemeoffpmgaa
