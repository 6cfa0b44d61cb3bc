/- Layer 16: what a range over asm.lines may ask. -/
import Derived.Test.YtdhpbofpomefoaaDoorAsmI
import Derived.Test.YtdhpbofpomefoaaDoorRwF
import Derived.RangeFuncNested
import Derived.RangeFuncBound
import Derived.RangeFuncCalls
import Derived.RangeFuncLeaves
import Derived.Shelf.Abstract
import Derived.Shelf.RegionOpen
import Derived.WalkKit
import Derived.OwnWalkIn
import Derived.TacticsInMore
import Derived.LoopNIn
import Derived.LoopIn
namespace Go.Proofs.YtdhpbofpomefoaaDoor
set_option linter.unusedSimpArgs false
set_option linter.unusedVariables false
open Go.RowKit

set_option maxRecDepth 100000 in
set_option maxHeartbeats 4000000 in
theorem lines_ (s : List UInt8) (w : World) : Calls Tryd.prog 32 #[.string ⟨s.toArray⟩] w fun e w' => e = .returned (.func (.func 46) #[] #[.pointer (some ⟨w.heap.size, 0, none⟩)]) ∧ w' = w.alloc (.cells #[.string ⟨s.toArray⟩] 9) := by
  go_enter Tryd.func32, Tryd.ntmps32
  go_wp2
  go_ret
  exact ⟨rfl, rfl⟩
/-- A line of no more than so many bytes. -/
def Ch : Type := { c : List UInt8 // c.length ≤ 1000000 }
/-- What is walked over. -/
theorem linesS_ (n : Nat) (hn : 2 ≤ n) (qb : Nat) (s : List UInt8) (hs : s.length ≤ 1000000) (w : World) (hqb : w.cell? ⟨qb, 0, none⟩ = some (.string ⟨s.toArray⟩)) (hq : qb < w.heap.size) :
    SeqStopsK Fence.wide n Tryd.prog 46 #[.pointer (some ⟨qb, 0, none⟩)] (fun x : Ch => #[Value.string ⟨x.1.toArray⟩]) (fun _ _ => True) (fun ys : List Ch => ys.map (·.1) = chL s) (fun pre : List Ch => ∃ more, chL s = pre.map (·.1) ++ more) (chL s).length w := fun l0 J Jx W hW _ _ hY h0 => by
  refine (lns_ n hn l0 qb s (by omega) (fun _ _ => True) (fun pre W => ∃ p : List Ch, p.map (·.1) = pre ∧ J p W) (fun pre W => ∃ p : List Ch, p.map (·.1) = pre ∧ Jx p W) ?_ W ((hW.cell (p := ⟨qb, 0, none⟩) hq).trans hqb) ⟨[], rfl, h0⟩).mono ?_
  · rintro pre x W1 ⟨p, rfl, hp⟩ hl hx
    obtain ⟨fn, tmps, assign, body, hy, hR⟩ := hY p ⟨x, by omega⟩ W1 hp (by simpa using hl)
    refine ⟨fn, tmps, assign, body, hy, hR.mono ?_⟩
    rintro e W2 (⟨he, hj, hk⟩ | ⟨he, hj⟩)
    · exact .inl ⟨he, ⟨_, by rw [List.map_append]; rfl, hj⟩, hk⟩
    · exact .inr ⟨he, ⟨_, by rw [List.map_append]; rfl, hj⟩⟩
  · rintro e W2 ⟨hv, h⟩
    refine ⟨hv, ?_⟩
    rcases h with ⟨ys, rfl, p, hp, hj⟩ | ⟨pre, ⟨more, hm⟩, p, rfl, hj⟩
    · exact .inl ⟨p, hp, hj⟩
    · exact .inr ⟨p, ⟨more, hm⟩, hj⟩
/-- An instruction's cells. -/
def insC (x : In) : List Value := [.int .i64 x.op, .int .i64 x.a, .int .i64 x.b, .int .i64 x.c]
theorem insC_len (x : In) : (insC x).length = 4 := rfl
theorem insC_one : ∀ z : In, ∀ u ∈ insC z, u.oneCell' = true := by
  rintro z u hu
  simp only [insC, List.mem_cons, List.not_mem_nil, or_false] at hu
  rcases hu with rfl | rfl | rfl | rfl <;> rfl
theorem rdC_yes {pre : List (List UInt8)} {acc : List In} {c : List UInt8} {x : In} (h : ∀ rest, rdC valT [] (pre ++ rest) = rdC valT acc rest) (hc : lineN valT c = (x, true)) : ∀ rest, rdC valT [] ((pre ++ [c]) ++ rest) = rdC valT (acc ++ [x]) rest := fun rest => by
  rw [List.append_assoc, h]
  show (match lineN valT c with | (x, true) => rdC valT (acc ++ [x]) rest | (_, false) => ([], acc.length, false)) = _
  rw [hc]
theorem rdC_no {pre : List (List UInt8)} {acc : List In} {c : List UInt8} {x : In} (h : ∀ rest, rdC valT [] (pre ++ rest) = rdC valT acc rest) (hc : lineN valT c = (x, false)) : ∀ rest, rdC valT [] ((pre ++ [c]) ++ rest) = ([], acc.length, false) := fun rest => by
  rw [List.append_assoc, h]
  show (match lineN valT c with | (x, true) => rdC valT (acc ++ [x]) rest | (_, false) => ([], acc.length, false)) = _
  rw [hc]
theorem ownsAt_isCells {w : World} {base : Nat} {e : TypeId} {size : Nat} {v : Value} {n : Nat} {xs : List Value} {g : Nat} (h : ownsAt w base e size v n xs) (hg : v.ownBlock = some g) : ∀ o : Obj, w.heap[g]? = some o → o.isCells = true := by
  rcases h.2 with ⟨rfl, _⟩ | ⟨g', o, cap, cur, rfl, _, h1, _⟩
  · cases hg
  · obtain rfl : g' = g := by simpa [Value.ownBlock] using hg
    intro o ho
    rw [h1] at ho
    cases ho
    rfl
theorem grownOnly {S : Nat → Prop} {w w' : World} {row : Option Nat} (h : w.grownBy w' row) (hs : ∀ g, row = some g → S g) : Only S w w' :=
  ⟨h.os, h.tape, h.output, h.size, fun k hk hn => h.block k hk fun e => hn (hs k e.symm)⟩
/-- What a round of Read finds: some have been read. -/
def ReadI (W0 : World) (lb base : Nat) (t e : TypeId) (pre : List (List UInt8)) (W : World) : Prop :=
  (∃ v acc, Boxed W lb t v ∧ ownsAt W base e 4 v acc.length (rowF insC acc) ∧ acc.length ≤ pre.length ∧ ∀ rest, rdC valT [] (pre ++ rest) = rdC valT acc rest) ∧ Only (fun i => i = lb ∨ W0.heap.size ≤ i) W0 W
theorem ReadI.own {W0 : World} {lb base : Nat} {t e : TypeId} {B : Nat} (hB : W0.heap.size ≤ B) : OwnFrom B (fun pre W => ReadI W0 lb base t e pre W) := by
  rintro pre W W' row ⟨⟨v, acc, h1, h2, h3, h5⟩, h4⟩ hg hr
  have hO : Only (fun i => row = some i) W W' := grownOnly hg fun g e => e
  refine ⟨⟨v, acc, (hO.block lb h1.lt fun e => ?_).trans h1, h2.only hO fun g hg2 e => ?_, h3, h5⟩, h4.trans' (grownOnly hg fun g e => .inr (Nat.le_trans hB (hr g e).1))⟩
  · obtain ⟨_, o, ho, hc⟩ := hr lb e
    rw [show W.heap[lb]? = _ from h1] at ho
    cases ho
    cases hc
  · obtain ⟨_, o, ho, hc⟩ := hr g e
    rw [ownsAt_isCells h2 hg2 o ho] at hc
    cases hc
/-- How Read is left early: the three answers have been laid. -/
def ReadX (W0 : World) (r2 r3 r4 : Nat) (t : TypeId) (c : Code) (pre : List (List UInt8)) (W : World) : Prop :=
  (match c with | .ret => True | _ => False) ∧ ∃ n : Nat, Boxed W r2 t (.slice none 0 0) ∧ Boxed W r3 3 (.int .i64 n) ∧ Boxed W r4 4 (.bool false) ∧ n ≤ pre.length ∧ (∀ rest, rdC valT [] (pre ++ rest) = ([], n, false)) ∧ Only (fun i => r2 ≤ i) W0 W
theorem Boxed_keep {W W' : World} {B b : Nat} {t : TypeId} {v : Value} {row : Option Nat} (h : Boxed W b t v) (hg : W.grownBy W' row) (hr : ∀ g, row = some g → B ≤ g ∧ ∃ o : Obj, W.heap[g]? = some o ∧ o.isCells = false) : Boxed W' b t v := by
  have hO : Only (fun i => row = some i) W W' := grownOnly hg fun g e => e
  refine (hO.block b h.lt fun e => ?_).trans h
  obtain ⟨_, o, ho, hc⟩ := hr b e
  rw [show W.heap[b]? = _ from h] at ho
  cases ho
  cases hc
theorem ReadX.own {W0 : World} {r2 r3 r4 : Nat} {t : TypeId} {c : Code} {B : Nat} (hB : r2 ≤ B) : OwnFrom B (fun pre W => ReadX W0 r2 r3 r4 t c pre W) := by
  rintro pre W W' row ⟨hc, n, h1, h2, h3, h5, h6, h4⟩ hg hr
  exact ⟨hc, n, Boxed_keep h1 hg hr, Boxed_keep h2 hg hr, Boxed_keep h3 hg hr, h5, h6, h4.trans' (grownOnly hg fun g e => Nat.le_trans hB (hr g e).1)⟩

end Go.Proofs.YtdhpbofpomefoaaDoor
