/- Layer 6: found as a range walks over it. -/
import Derived.Test.YtlapemeoffpmgaaCloFa
namespace Go.Proofs.Ytlapemeoffpmgaa
set_option linter.unusedSimpArgs false
set_option linter.unusedVariables false
open Go.RowKit

def SeqTurns {α : Type} (F : Fence) (n : Nat) (P : Program) (g : Nat) (lb : Array Value) (encs : α → Array Value) (Kp Tn : World → World → Prop) (S : List α → World → Prop) (N : Nat) (w : World) : Prop :=
  ∀ (l : Nat) (J : List α → World → Prop) (W : World), Below w.heap.size w W → AbidesFrom W.heap.size J → (∀ pre A B, J pre A → Tn A B → J pre B) →
    (∀ pre x W1, J pre W1 → pre.length < N → YieldAt F (n - 1) P l (encs x) W1 fun e W' => e = .returned (.bool true) ∧ J (pre ++ [x]) W' ∧ Kp W1 W') →
    J [] W →
    CallsIn F n P g (#[.func (.yield l) #[] #[]] ++ lb) W fun e W' => (∃ v, e = .returned v) ∧ ∃ xs, S xs W' ∧ J xs W'
theorem wpIn_rangeFunc_cells {F : Fence} {n : Nat} {P : Program} {α : Type} {g : Operand} {ps : Array Tmp} {assign body : Code} {Q : Exit → Act → World → Prop} {a : Act} {w : World}
    (hro : F.round = none) (h1 : 1 ≤ n) {gf : Nat} {lb : Array Value} (hg : a.eval g = .func (.func gf) #[] lb) (hFg : F.fn gf) (eg : ∀ args w, (callFunc gf args).run P w = .ok (.enter gf args) w)
    {encs : α → Array Value} {Kp Tn : World → World → Prop} {S : List α → World → Prop} {N : Nat} {w0 : World} (hseq : SeqTurns F (n - 1) P gf lb encs Kp Tn S N w0)
    (hKt : ∀ {A B C : World}, Kp A B → Kp B C → Kp A C) (hKb : ∀ (W : World) (l : Nat) (o o' : Obj), w.heap.size ≤ l → W.heap[l]? = some o → o.isCells = false → o.isWalk = false → Kp W (W.putObj l o'))
    (hTb : ∀ A B : World, Tn A B → ∀ (k : Nat) (o : Obj), A.heap[k]? = some o → o.isCells = false → B.heap[k]? = some o)
    (hSb : ∀ xs (W : World) (l : Nat) (o o' : Obj), w.heap.size ≤ l → W.heap[l]? = some o → o.isCells = false → S xs W → S xs (W.putObj l o'))
    (hb0 : Below w0.heap.size w0 w) (hps : ∀ x, (encs x).size = ps.size)
    (I : List α → World → Prop) (hI : OwnFrom w.heap.size I) (hIT : ∀ pre A B, I pre A → Tn A B → I pre B) (h0 : I [] w) (Ax : α → Act → World → Prop) (hAx : ∀ x a', OwnFrom w.heap.size (fun (_ : Unit) W => Ax x a' W))
    (hassign : ∀ (l : Nat) (pre : List α) (x : α) (W : World) (K : Act → World → Prop), I pre W → (∀ a' W', KeepsFrom w.heap.size W W' → Kp W W' → I pre W' → Ax x a' W' → K a' W') →
      assign.wpIn (F.inRound l) (n - 1 - 1) P (Exit.then K (fun _ _ _ => False)) { tmps := (ps.zip (encs x)).foldl (fun t (p, v) => t.setIfInBounds p v) a.tmps, defers := [] } W)
    (hbody : ∀ (l : Nat) (pre : List α) (x : α) (a' : Act) (W : World), w.heap.size ≤ l → I pre W → Ax x a' W → pre.length < N → body.wpIn (F.inRound l) (n - 1 - 1) P (ownPostG w.heap.size Kp I (fun _ _ _ => False) (pre ++ [x]) W) a' W)
    (hdone : ∀ (D : Nat) (xs : List α) (W : World), w.heap.size ≤ D → S xs W → I xs W → W.heap[D]? = some (.deferred (some [])) → Q .normal { a with defers := { target := .collected D, args := #[] } :: a.defers } W) :
    (Code.rangeFunc g ps assign body).wpIn F n P Q a w := by
  refine wpIn_rangeFunc fun fn hfn => ?_
  rw [hro]
  obtain ⟨R, hR⟩ : ∃ R : LoopState → Loop, R = fun st => { state := st, pending := none, fn, tmps := a.tmps, params := ps, assign, body, defers := w.heap.size } := ⟨_, rfl⟩
  obtain ⟨V, hV⟩ : ∃ V, (w.alloc (.deferred (some []))).alloc (.loop (R .ready)) = V := ⟨_, rfl⟩
  have vl : V.heap[w.heap.size + 1]? = some (.loop (R .ready)) := by
    rw [← hV]
    have := World.alloc_heap_new (w.alloc (.deferred (some []))) (.loop (R .ready))
    rwa [World.size_alloc] at this
  have vd : V.heap[w.heap.size]? = some (.deferred (some [])) := by
    rw [← hV]
    exact (Below.heap_alloc _ _ _ (by simp)).trans (World.alloc_heap_new w _)
  have vi : I [] V := by
    rw [← hV]
    exact hI.alloc _ (hI.alloc _ h0)
  have vb : Below w0.heap.size w0 V := by
    rw [← hV]
    exact hb0.trans ((((Below.refl _ w).alloc (Nat.le_refl _) _).alloc (by simp) _).mono hb0.size)
  have vs : w.heap.size + 1 < V.heap.size := (Array.getElem?_eq_some_iff.1 vl).1
  refine ⟨w.heap.size + 1, [{ target := .collected w.heap.size, args := #[] }], V, { target := .fn (.func gf) lb, args := #[.func (.yield (w.heap.size + 1)) #[] #[]] }, V, gf, #[.func (.yield (w.heap.size + 1)) #[] #[]] ++ lb, V, ?_, ?_, ?_, ?_, fun _ => h1, ?_⟩
  · rw [← hV, hR]
    exact run_enterLoop_outer _ _ _ _ _
  · simp only [resolve, hg]
    simp [go_sem]
  · intro f' hf'
    simp [Target.leads] at hf'
    subst hf'
    exact hFg
  · simp [invoke, go_sem, eg]
  · refine (hseq (w.heap.size + 1) (fun pre W => I pre W ∧ W.heap[w.heap.size + 1]? = some (.loop (R .ready)) ∧ W.heap[w.heap.size]? = some (.deferred (some []))) V vb ?_ ?_ ?_ ⟨vi, vl, vd⟩).mono ?_
    · rintro pre A B row ⟨i1, i2, i3⟩ hg' hr
      have hw : ∀ r, row = some r → w.heap.size ≤ r ∧ ∃ o : Obj, A.heap[r]? = some o ∧ o.isCells = false := fun r e => by
        obtain ⟨hB, ob, ho, hk⟩ := hr r e
        exact ⟨by omega, ob, ho, Obj.not_cells_of_walk hk⟩
      exact ⟨hI pre A B row i1 hg' hw, (grownBy_keeps hg' (fun r e => (hr r e).2) i2 rfl).trans i2, (grownBy_keeps hg' (fun r e => (hr r e).2) i3 rfl).trans i3⟩
    · rintro pre A B ⟨i1, i2, i3⟩ ht
      exact ⟨hIT pre A B i1 ht, hTb A B ht _ _ i2 rfl, hTb A B ht _ _ i3 rfl⟩
    · rintro pre x W ⟨i1, i2, i3⟩ hlen
      have hy := run_yield (P := P) (args := encs x) i2 (by rw [hR]; exact hps x)
      rw [hR] at hy
      refine ⟨fn, _, assign, body, hy, roundIn_of_wpIn hfn (hassign _ pre x W _ i1 fun a' Wa kf kp j1 hax => ?_)⟩
      have j2 := kf.same _ _ (by omega) i2 rfl
      have j3 := kf.same _ _ (Nat.le_refl _) i3 rfl
      have js : w.heap.size + 1 < Wa.heap.size := (Array.getElem?_eq_some_iff.1 j2).1
      refine ⟨_, run_beginRound j2 (by rw [hR]), ?_⟩
      have b2 : (Wa.putObj (w.heap.size + 1) (.loop { R .ready with state := .busy })).heap[w.heap.size + 1]? = some (.loop { R .ready with state := .busy }) := World.putObj_heap_same js
      have b3 : (Wa.putObj (w.heap.size + 1) (.loop { R .ready with state := .busy })).heap[w.heap.size]? = some (.deferred (some [])) := (World.putObj_heap_other (by omega)).trans j3
      refine wpIn_mono (hbody _ pre x a' _ (by omega) (hI.putObj _ j1 (by omega) j2 rfl) ((hAx x a').putObj (s := ()) _ hax (by omega) j2 rfl) hlen) ?_
      rintro e a3 W3 hp
      cases e with
      | normal =>
        obtain ⟨k3, kp3, j4⟩ := hp
        have c2 := k3.same _ _ (by omega) b2 rfl
        have c3 := k3.same _ _ (Nat.le_refl _) b3 rfl
        have hend := run_endRound (P := P) none c2
        rw [hR] at hend c2
        have hs3 : w.heap.size + 1 < W3.heap.size := (Array.getElem?_eq_some_iff.1 c2).1
        refine ⟨_, _, hend, rfl, ⟨hI.putObj _ j4 (by omega) c2 rfl, ?_, (World.putObj_heap_other (by omega)).trans c3⟩, ?_⟩
        · rw [hR]
          exact World.putObj_heap_same hs3
        · exact hKt kp (hKt (hKt (hKb _ _ _ _ (by omega) j2 rfl rfl) kp3) (hKb _ _ _ _ (by omega) c2 rfl rfl))
      | ret => exact hp.2.elim
      | exit id => exact hp.2.elim
      | goto t => exact hp.2.elim
      | panic ch => exact hp.elim
      | outgrown => exact hp.elim
    · rintro e W2 ⟨⟨v, rfl⟩, xs, hS, i1, i2, i3⟩
      have hend := run_endLoop (P := P) i2 (by rw [hR]; simp)
      rw [hR] at hend
      exact ⟨none, _, hend, hdone _ xs _ (Nat.le_refl _) (hSb xs W2 _ _ _ (by omega) i2 rfl hS) (hI.putObj _ i1 (by omega) i2 rfl) ((World.putObj_heap_other (by omega)).trans i3)⟩
theorem TnF.cells {lb n0 : Nat} {A B : World} (h : TnF lb n0 A B) (k : Nat) (o : Obj) (ho : A.heap[k]? = some o) (hc : o.isCells = false) : B.heap[k]? = some o := by
  obtain ⟨T, hx, hT⟩ := h
  refine (hx.block k (Array.getElem?_eq_some_iff.1 ho).1 fun ht => ?_).trans ho
  have := (hT k ht).2.2 o ho
  rw [hc] at this
  cases this
theorem TnF.weak {lb n0 n1 : Nat} {A B : World} (h : TnF lb n1 A B) (hn : n0 ≤ n1) : TnF lb n0 A B := by
  obtain ⟨T, hx, hT⟩ := h
  exact ⟨T, hx, fun i hi => ⟨Nat.le_trans hn (hT i hi).1, (hT i hi).2⟩⟩
set_option maxRecDepth 100000 in
set_option maxHeartbeats 4000000 in
theorem found_ (A : Option Addr) (m ca : Nat) (w : World) : Calls Try.prog 25 #[.slice A m ca] w fun e w' => e = .returned (.func (.func 51) #[] #[.pointer (some ⟨w.heap.size, 0, none⟩)]) ∧ w' = w.alloc (.cells #[.slice A m ca] 22) := by
  go_enter Try.func25, Try.ntmps25
  go_wp2
  go_ret
  exact ⟨rfl, rfl⟩
/-- What is walked over. -/
theorem foundS_ (n : Nat) (hn : 2 ≤ n) (lb qb ca m : Nat) (A : Option Addr) (G : List Cap) (w : World) (hm : G.length = m) (hm1 : m ≤ 1000) (hG : ∀ g ∈ G, 0 ≤ g.type ∧ g.type ≤ 255) (hqb : w.cell? ⟨qb, 0, none⟩ = some (.slice A m ca)) (hqbl : qb < w.heap.size) (hA : RdF Cap.cells w A G) (hlb : lb < w.heap.size) (hown : ∀ i, ¬ ownAtBox lb w i) :
    SeqTurns Fence.wide n Try.prog 51 #[.pointer (some ⟨qb, 0, none⟩)] (fun x : Cap => #[Value.agg #[.bool x.tag, .int .i64 x.base, .int .i64 x.top, .int .i64 x.at_, .int .i64 x.perms, .int .i64 x.type]]) (KpB lb) (TnF lb w.heap.size) (fun xs _ => xs = foundC G) m w := fun l0 J W hW _ hT hY h0 => by
  have hE : Only (fun i => w.heap.size ≤ i) w W := ⟨hW.os, hW.tape, hW.output, hW.size, fun k hk _ => hW.block k hk⟩
  refine CallsIn.mono (foundA_ n hn l0 lb qb ca m A G J hY W (fun pre X Y hj ht => hT pre X Y hj (ht.weak hW.size)) hm hm1 hG ((hW.cell (p := ⟨qb, 0, none⟩) hqbl).trans hqb) (Nat.lt_of_lt_of_le hqbl hW.size) ?_ (Nat.lt_of_lt_of_le hlb hW.size) ?_ h0) ?_
  · intro h9
    obtain ⟨b, o, e, hb, hc⟩ := hA h9
    exact ⟨b, o, e, Nat.lt_of_lt_of_le hb hW.size, fun j u hj => (hW.cell (p := ⟨b, o + j, none⟩) hb).trans (hc j u hj)⟩
  · rintro i ⟨o, nn, c, e⟩
    exact hown i ⟨o, nn, c, (hW.cell (p := ⟨lb, 0, none⟩) hlb).symm.trans e⟩
  · rintro e W' ⟨h1, h2⟩
    exact ⟨h1, _, rfl, h2⟩

end Go.Proofs.Ytlapemeoffpmgaa
