/- Layer 6: what comes in; closed facts of the live question. -/
import Derived.Test.YtlapemeoffpmgaaCloN
import Derived.Test.YtlapemeoffpmgaaCloO
import Derived.Test.YtlapemeoffpmgaaCloTy
namespace Go.Proofs.Ytlapemeoffpmgaa
set_option linter.unusedSimpArgs false
set_option linter.unusedVariables false
open Go.RowKit

open Go.ChangeShapes Go.WideShapes Go.ChangeAt Go.RowKit Go.Deep
section
variable {H : Type} {enc : TypeId × Value → H} {w : World} {base : Nat} {spare : Nat → Bool} {held : Bool} {fuel : Nat} {cs : List Value} {x : DataW H × List MemPlace}
theorem trodSlice {P : Program} {α : Type} [Inhabited α] {t e : TypeId} {n : Nat} (f : α → List Value) (good : α → Prop) (ht : P.underlying t = some (.slice e)) (hc : P.cellsOf e = n) (hn : 0 < n)
    (hx : ∀ (m : Nat) (cs : List Value) (x : DataW H × List MemPlace), DataW.trod enc P w base spare held m e cs = some x → ∃ z, cs = f z ∧ good z)
    (h : DataW.trod enc P w base spare held fuel t cs = some x) :
    ∃ (A : Option Addr) (cap : Nat) (zs : List α), cs = [.slice A zs.length cap] ∧ zs.length ≤ cap ∧ cap ≤ maxLen ∧ SlAtN w A n (zs.map f) ∧ ∀ z ∈ zs, good z := by
  rcases open_slice ht h with ⟨rfl, _⟩ | ⟨a, len, cap, m, n', D, Pl, rfl, _, hl, hm, hmm, _, hg⟩
  · exact ⟨none, 0, [], rfl, by simp, by simp, fun h => absurd h (by simp), by simp⟩
  · have hlm : len ≤ m := by rw [hmm]; split <;> omega
    rw [hc] at hg
    obtain ⟨V, hV⟩ := choose_lt (n := len) (α := α) (p := fun i z => good z ∧ (f z).length = n ∧ ∀ j, j < n → w.cell? ((a.add (i * n)).add j) = (f z)[j]?) (fun i hi => by
      obtain ⟨cs', h1, h2⟩ := hg i (by omega)
      obtain ⟨_, hlen, hcell⟩ := World.cells?_some h1
      obtain ⟨z, rfl, hz⟩ := hx _ _ _ h2
      exact ⟨z, hz, hlen, hcell⟩)
    refine ⟨some a, cap, (List.range len).map V, by simp, by simpa using hl, hm, ?_, ?_⟩
    · intro h0
      have hlen0 : 0 < len := by simpa using h0
      obtain ⟨_, hl0, hc0⟩ := hV 0 hlen0
      have hc00 := hc0 0 hn
      obtain ⟨b, o, sp⟩ := a
      have hsome : ((f (V 0))[0]?).isSome = true := by simp [hl0, hn]
      rw [← hc00] at hsome
      have hsp : sp = none := by
        cases sp with
        | none => rfl
        | some x =>
          simp [Addr.add, World.cell?] at hsome
          split at hsome <;> simp at hsome
      subst hsp
      have hb : b < w.heap.size := by
        simp [Addr.add, World.cell?] at hsome
        split at hsome
        · rename_i h
          exact (Array.getElem?_eq_some_iff.1 h).1
        · simp at hsome
      refine ⟨b, o, rfl, hb, fun i hi j hj => ?_⟩
      have hi' : i < len := by simpa using hi
      have := (hV i hi').2.2 j hj
      rw [Addr.add_lit, Addr.add_lit] at this
      rw [this]
      simp
    · intro z hz
      obtain ⟨i, hi, rfl⟩ := List.mem_map.1 hz
      exact (hV i (by simpa using hi)).1
theorem trodArgSlice {P : Program} {α : Type} [Inhabited α] {r : Reach} {b0 : Nat} {t e : TypeId} {n : Nat} (f : α → List Value) (good : α → Prop) (ht : P.underlying t = some (.slice e)) (hc : P.cellsOf e = n) (hn : 0 < n)
    (hx : ∀ (m : Nat) (cs : List Value) (x : DataW H × List MemPlace), DataW.trod enc P w base spare held m e cs = some x → ∃ z, cs = f z ∧ good z) {v : Value} {d : DataW H} {p : List MemPlace}
    (hv : Value.okWide P w r b0 t v) (h : DataW.Trod enc P w base spare held t v d p) :
    ∃ (A : Option Addr) (cap : Nat) (zs : List α), v = .slice A zs.length cap ∧ zs.length ≤ cap ∧ cap ≤ maxLen ∧ SlAtN w A n (zs.map f) ∧ ∀ z ∈ zs, good z := by
  obtain ⟨a0, len, cap, rfl⟩ := okWide_slice ht hv
  obtain ⟨fuel, hf⟩ := h
  obtain ⟨A, cap', zs, hcs, h1, h2, h3, h4⟩ := trodSlice f good ht hc hn hx hf
  simp [Value.cells] at hcs
  obtain ⟨rfl, rfl, rfl⟩ := hcs
  exact ⟨_, _, zs, rfl, h1, h2, h3, h4⟩
def wfC (c : Cap) : Prop := (Lit.int .i64 c.base).wf = true ∧ (Lit.int .i64 c.top).wf = true ∧ (Lit.int .i64 c.at_).wf = true ∧ (Lit.int .i64 c.perms).wf = true ∧ (Lit.int .i64 c.type).wf = true
/-- A way in which one more is made. -/
structure Wy where
  a : Int
  b : Int
  n : Int
  what : Int
def Wy.cells (z : Wy) : List Value := [.int .i64 z.a, .int .i64 z.b, .int .i64 z.n, .int .u8 z.what]
instance : Inhabited Wy := ⟨⟨0, 0, 0, 0⟩⟩
def Wy.good (z : Wy) : Prop := (Lit.int .i64 z.a).wf = true ∧ (Lit.int .i64 z.b).wf = true ∧ (Lit.int .i64 z.n).wf = true ∧ (Lit.int .u8 z.what).wf = true
set_option maxRecDepth 100000 in
theorem trodCap (h : DataW.trod enc Try.prog w base spare held fuel 24 cs = some x) : ∃ z : Cap, cs = Cap.cells z ∧ wfC z := by
  obtain ⟨xs, n, _, _, hcl, hlen, hg⟩ := DataW.trod_struct Try.underlying24 h
  have hl : cs.length = 6 := hcl.trans (by kernel_rfl)
  have z0 : Try.prog.cellsOf 4 = 1 := by kernel_rfl
  have z1 : Try.prog.cellsOf 3 = 1 := by kernel_rfl
  match cs, hl with
  | [c0, c1, c2, c3, c4, c5], _ =>
    have g0 : DataW.trod enc Try.prog w base spare held n 4 (([c0, c1, c2, c3, c4, c5].drop 0).take (Try.prog.cellsOf 4)) = xs[0]? := hg 0 _ rfl
    rw [z0, List.getElem?_eq_getElem (by rw [hlen]; decide)] at g0
    have g1 : DataW.trod enc Try.prog w base spare held n 3 (([c0, c1, c2, c3, c4, c5].drop 1).take (Try.prog.cellsOf 3)) = xs[1]? := hg 1 _ rfl
    rw [z1, List.getElem?_eq_getElem (by rw [hlen]; decide)] at g1
    have g2 : DataW.trod enc Try.prog w base spare held n 3 (([c0, c1, c2, c3, c4, c5].drop 2).take (Try.prog.cellsOf 3)) = xs[2]? := hg 2 _ rfl
    rw [z1, List.getElem?_eq_getElem (by rw [hlen]; decide)] at g2
    have g3 : DataW.trod enc Try.prog w base spare held n 3 (([c0, c1, c2, c3, c4, c5].drop 3).take (Try.prog.cellsOf 3)) = xs[3]? := hg 3 _ rfl
    rw [z1, List.getElem?_eq_getElem (by rw [hlen]; decide)] at g3
    have g4 : DataW.trod enc Try.prog w base spare held n 3 (([c0, c1, c2, c3, c4, c5].drop 4).take (Try.prog.cellsOf 3)) = xs[4]? := hg 4 _ rfl
    rw [z1, List.getElem?_eq_getElem (by rw [hlen]; decide)] at g4
    have g5 : DataW.trod enc Try.prog w base spare held n 3 (([c0, c1, c2, c3, c4, c5].drop 5).take (Try.prog.cellsOf 3)) = xs[5]? := hg 5 _ rfl
    rw [z1, List.getElem?_eq_getElem (by rw [hlen]; decide)] at g5
    obtain ⟨t, e0, _⟩ := DataW.trod_bool Try.underlying4 g0
    obtain ⟨b, e1, _, k1⟩ := DataW.trod_int Try.underlying3 g1
    obtain ⟨tp, e2, _, k2⟩ := DataW.trod_int Try.underlying3 g2
    obtain ⟨a, e3, _, k3⟩ := DataW.trod_int Try.underlying3 g3
    obtain ⟨p, e4, _, k4⟩ := DataW.trod_int Try.underlying3 g4
    obtain ⟨ty, e5, _, k5⟩ := DataW.trod_int Try.underlying3 g5
    simp at e0 e1 e2 e3 e4 e5
    subst e0
    subst e1
    subst e2
    subst e3
    subst e4
    subst e5
    exact ⟨⟨t, b, tp, a, p, ty⟩, rfl, k1, k2, k3, k4, k5⟩
set_option maxRecDepth 100000 in
theorem trodWay (h : DataW.trod enc Try.prog w base spare held fuel 41 cs = some x) : ∃ z : Wy, cs = Wy.cells z ∧ Wy.good z := by
  obtain ⟨xs, n, _, _, hcl, hlen, hg⟩ := DataW.trod_struct Try.underlying41 h
  have hl : cs.length = 4 := hcl.trans (by kernel_rfl)
  have z0 : Try.prog.cellsOf 3 = 1 := by kernel_rfl
  have z1 : Try.prog.cellsOf 5 = 1 := by kernel_rfl
  match cs, hl with
  | [c0, c1, c2, c3], _ =>
    have g0 : DataW.trod enc Try.prog w base spare held n 3 (([c0, c1, c2, c3].drop 0).take (Try.prog.cellsOf 3)) = xs[0]? := hg 0 _ rfl
    rw [z0, List.getElem?_eq_getElem (by rw [hlen]; decide)] at g0
    have g1 : DataW.trod enc Try.prog w base spare held n 3 (([c0, c1, c2, c3].drop 1).take (Try.prog.cellsOf 3)) = xs[1]? := hg 1 _ rfl
    rw [z0, List.getElem?_eq_getElem (by rw [hlen]; decide)] at g1
    have g2 : DataW.trod enc Try.prog w base spare held n 3 (([c0, c1, c2, c3].drop 2).take (Try.prog.cellsOf 3)) = xs[2]? := hg 2 _ rfl
    rw [z0, List.getElem?_eq_getElem (by rw [hlen]; decide)] at g2
    have g3 : DataW.trod enc Try.prog w base spare held n 5 (([c0, c1, c2, c3].drop 3).take (Try.prog.cellsOf 5)) = xs[3]? := hg 3 _ rfl
    rw [z1, List.getElem?_eq_getElem (by rw [hlen]; decide)] at g3
    obtain ⟨a, e0, _, k0⟩ := DataW.trod_int Try.underlying3 g0
    obtain ⟨b, e1, _, k1⟩ := DataW.trod_int Try.underlying3 g1
    obtain ⟨n, e2, _, k2⟩ := DataW.trod_int Try.underlying3 g2
    obtain ⟨what, e3, _, k3⟩ := DataW.trod_int Try.underlying5 g3
    simp at e0 e1 e2 e3
    subst e0
    subst e1
    subst e2
    subst e3
    exact ⟨⟨a, b, n, what⟩, rfl, k0, k1, k2, k3⟩
end
theorem grt_fin {X out : List Cap} (h : out.Pairwise (fun a b => lexC a b = true) ∧ (∀ x ∈ out, x ∈ X ∧ ∀ y ∈ X, underC x y = true → y = x) ∧ ∀ x ∈ X, (∀ y ∈ X, underC x y = true → y = x) → x ∈ out) : GrtL (fun x => x ∈ X) out :=
  ⟨h.1, fun x => ⟨fun hx => h.2.1 x hx, fun ⟨h1, h2⟩ => h.2.2 x h1 h2⟩⟩
theorem grt_closed {G F O out : List Cap} (hG : ∀ g ∈ G, 0 ≤ g.type ∧ g.type ≤ 255) (hF : foundC G = F) (hO : GrtL (fun x => x ∈ F) O) (h : GrtL (Opn G) out) : out = O := by
  subst hF
  exact h.unique (hO.congr fun x => found_iff hG x)
def hdA : Cap := ⟨true, 64, 128, 64, 3, 0⟩
def hdB : Cap := ⟨true, 256, 512, 300, 1, 9⟩
def hdK : Cap := ⟨true, 9, 10, 9, 64, 0⟩
def hdBn : Cap := ⟨true, 256, 512, 256, 1, 0⟩
theorem hd_g1 : grantsC [hdA, hdB] = [hdA, hdB] := by decide +kernel
theorem hd_g2 : grantsC [hdA, hdB, hdK] = [hdA, hdB, hdK] := by decide +kernel
theorem hd_o1 {out : List Cap} (h : GrtL (Opn [hdA, hdB]) out) : out = [hdA] :=
  grt_closed (F := [hdA]) (by decide) (by decide +kernel) (grt_fin (by decide +kernel)) h
theorem hd_o2 {out : List Cap} (h : GrtL (Opn [hdA, hdB, hdK]) out) : out = [hdK, hdA, hdBn] :=
  grt_closed (F := [hdA, hdK, hdBn]) (by decide) (by decide +kernel) (grt_fin (by decide +kernel)) h
theorem hd_h1 : hasS [hdA, hdB] [hdA] ⟨true, 256, 512, 300, 1, 9⟩ = true := by decide +kernel
theorem hd_h2 : hasS [hdA, hdB] [hdA] ⟨true, 256, 257, 0, 1, 0⟩ = false := by decide +kernel
theorem hd_h3 : hasS [hdA, hdB, hdK] [hdK, hdA, hdBn] ⟨true, 256, 257, 0, 1, 0⟩ = true := by decide +kernel
theorem hd_h4 : hasS [hdA, hdB, hdK] [hdK, hdA, hdBn] ⟨true, 60, 70, 0, 1, 0⟩ = false := by decide +kernel
theorem hd_h5 : hasS [hdA, hdB, hdK] [hdK, hdA, hdBn] ⟨false, 60, 70, 0, 1, 0⟩ = true := by decide +kernel
theorem hd_h6 : hasS [hdA, hdB, hdK] [hdK, hdA, hdBn] ⟨false, 0, 0, -1, 0, 0⟩ = false := by decide +kernel
theorem hd_t1 : tyN [hdK, hdA, hdBn] 64 = [9] := by decide +kernel
theorem hd_t2 : tyN [hdK, hdA, hdBn] 32 = [] := by decide +kernel

end Go.Proofs.Ytlapemeoffpmgaa
