/- Layer 17: an image that comes in. -/
import Derived.Test.YtgldlkoohfclpaaImM
import Derived.SizedLaws
namespace Go.Proofs.Ytgldlkoohfclpaa
set_option linter.unusedSimpArgs false
set_option linter.unusedVariables false
open Go.RowKit

open Go.ChangeShapes Go.WideShapes Go.ChangeAt Go.Deep
section
variable {H : Type} {enc : TypeId × Value → H} {w : World} {base : Nat} {spare : Nat → Bool} {held : Bool} {fuel : Nat} {cs : List Value} {x : DataW H × List MemPlace}
theorem trodSlice {P : Program} {α : Type} [Inhabited α] {t e : TypeId} {n : Nat} (f : α → List Value) (good : α → Prop) (ht : P.underlying t = some (.slice e)) (hc : P.cellsOf e = n) (hn : 0 < n)
    (hx : ∀ (m : Nat) (cs : List Value) (x : DataW H × List MemPlace), DataW.trod enc P w base spare held m e cs = some x → ∃ z, cs = f z ∧ good z)
    (h : DataW.trod enc P w base spare held fuel t cs = some x) :
    ∃ (A : Option Addr) (cap : Nat) (zs : List α), cs = [.slice A zs.length cap] ∧ zs.length ≤ cap ∧ cap ≤ maxLen ∧ SlAtN w A n (zs.map f) ∧ ∀ z ∈ zs, good z := by
  rcases open_slice ht h with ⟨rfl, _⟩ | ⟨a, len, cap, m, n', D, Pl, rfl, _, hl, hm, hmm, _, hg⟩
  · exact ⟨none, 0, [], rfl, by simp, by simp, fun h => absurd h (by simp), by simp⟩
  · have hlm : len ≤ m := by rw [hmm]; split <;> omega
    rw [hc] at hg
    obtain ⟨V, hV⟩ := choose_lt (n := len) (α := α) (p := fun i z => good z ∧ (f z).length = n ∧ ∀ j, j < n → w.cell? ((a.add (i * n)).add j) = (f z)[j]?) (fun i hi => by
      obtain ⟨cs', h1, h2⟩ := hg i (by omega)
      obtain ⟨_, hlen, hcell⟩ := World.cells?_some h1
      obtain ⟨z, rfl, hz⟩ := hx _ _ _ h2
      exact ⟨z, hz, hlen, hcell⟩)
    refine ⟨some a, cap, (List.range len).map V, by simp, by simpa using hl, hm, ?_, ?_⟩
    · intro h0
      have hlen0 : 0 < len := by simpa using h0
      obtain ⟨_, hl0, hc0⟩ := hV 0 hlen0
      have hc00 := hc0 0 hn
      obtain ⟨b, o, sp⟩ := a
      have hsome : ((f (V 0))[0]?).isSome = true := by simp [hl0, hn]
      rw [← hc00] at hsome
      have hsp : sp = none := by
        cases sp with
        | none => rfl
        | some x =>
          simp [Addr.add, World.cell?] at hsome
          split at hsome <;> simp at hsome
      subst hsp
      have hb : b < w.heap.size := by
        simp [Addr.add, World.cell?] at hsome
        split at hsome
        · rename_i h
          exact (Array.getElem?_eq_some_iff.1 h).1
        · simp at hsome
      refine ⟨b, o, rfl, hb, fun i hi j hj => ?_⟩
      have hi' : i < len := by simpa using hi
      have := (hV i hi').2.2 j hj
      rw [Addr.add_lit, Addr.add_lit] at this
      rw [this]
      simp
    · intro z hz
      obtain ⟨i, hi, rfl⟩ := List.mem_map.1 hz
      exact (hV i (by simpa using hi)).1
theorem trodBytes (h : DataW.trod enc Try.prog w base spare held fuel 27 cs = some x) : ∃ (A : Option Addr) (ca : Nat) (bl : List Int), cs = [.slice A bl.length ca] ∧ bl.length ≤ ca ∧ ca ≤ maxLen ∧ RdB w A bl ∧ byteL bl := by
  obtain ⟨A, cap, zs, rfl, h1, h2, h3, h4⟩ := trodSlice (α := Int) (n := 1) (fun z => [Value.int .u8 z]) (fun z => 0 ≤ z ∧ z ≤ 255) Try.underlying27 (by kernel_rfl) (by omega) (fun m cs x hx => by
    obtain ⟨a, e, _, k⟩ := DataW.trod_int Try.underlying5 hx
    refine ⟨a, e, ?_⟩
    simpa [Lit.wf, IntKind.min, IntKind.max, IntKind.signed, IntKind.bits] using k) h
  refine ⟨A, cap, zs, rfl, h1, h2, fun h0 => ?_, h4⟩
  obtain ⟨b, o, hA, hb, hc⟩ := h3 (by simpa using h0)
  refine ⟨b, o, hA, hb, fun j hj => ?_⟩
  have := hc j (by simpa using hj) 0 (by omega)
  simpa using this
def wf64 (z : Int) : Prop := -9223372036854775808 ≤ z ∧ z ≤ 9223372036854775807
theorem wf64_of {z : Int} (h : (Lit.int .i64 z).wf = true) : wf64 z := by
  unfold wf64
  simpa [Lit.wf, IntKind.min, IntKind.max, IntKind.signed, IntKind.bits] using h
def wfCmp (w : World) (d : Cmp) : Prop := RdB w d.A d.bl ∧ byteL d.bl ∧ d.bl.length ≤ d.ca ∧ d.ca ≤ maxLen ∧ wf64 d.data
def wfLnk (d : Lnk) : Prop := wf64 d.fr ∧ wf64 d.to_ ∧ wf64 d.at_
def wfShr (d : Shr) : Prop := wf64 d.rd ∧ wf64 d.wr_
set_option maxRecDepth 100000 in
theorem trodCmp (h : DataW.trod enc Try.prog w base spare held fuel 53 cs = some x) : ∃ d : Cmp, cs = d.cells ∧ wfCmp w d := by
  obtain ⟨xs, n, _, hxx, hcl, hlen, hg⟩ := DataW.trod_struct Try.underlying53 h
  have hl : cs.length = 2 := hcl.trans (by kernel_rfl)
  match cs, hl with
  | [c0, c1], _ =>
    have g0 : DataW.trod enc Try.prog w base spare held n 27 (([c0, c1].drop 0).take (Try.prog.cellsOf 27)) = xs[0]? := hg 0 _ rfl
    rw [show Try.prog.cellsOf 27 = 1 by kernel_rfl, List.getElem?_eq_getElem (by rw [hlen]; decide)] at g0
    have g1 : DataW.trod enc Try.prog w base spare held n 3 (([c0, c1].drop 1).take (Try.prog.cellsOf 3)) = xs[1]? := hg 1 _ rfl
    rw [show Try.prog.cellsOf 3 = 1 by kernel_rfl, List.getElem?_eq_getElem (by rw [hlen]; decide)] at g1
    obtain ⟨A0, ca0, bl0, e0, k0⟩ := trodBytes g0
    obtain ⟨a1, e1, _, k1⟩ := DataW.trod_int Try.underlying3 g1
    simp at e0 e1
    subst e0
    subst e1
    exact ⟨⟨A0, ca0, bl0, a1⟩, rfl, k0.2.2.1, k0.2.2.2, k0.1, k0.2.1, wf64_of k1⟩
set_option maxRecDepth 100000 in
theorem trodLnk (h : DataW.trod enc Try.prog w base spare held fuel 68 cs = some x) : ∃ d : Lnk, cs = d.cells ∧ wfLnk d := by
  obtain ⟨xs, n, _, hxx, hcl, hlen, hg⟩ := DataW.trod_struct Try.underlying68 h
  have hl : cs.length = 3 := hcl.trans (by kernel_rfl)
  match cs, hl with
  | [c0, c1, c2], _ =>
    have g0 : DataW.trod enc Try.prog w base spare held n 3 (([c0, c1, c2].drop 0).take (Try.prog.cellsOf 3)) = xs[0]? := hg 0 _ rfl
    rw [show Try.prog.cellsOf 3 = 1 by kernel_rfl, List.getElem?_eq_getElem (by rw [hlen]; decide)] at g0
    have g1 : DataW.trod enc Try.prog w base spare held n 3 (([c0, c1, c2].drop 1).take (Try.prog.cellsOf 3)) = xs[1]? := hg 1 _ rfl
    rw [show Try.prog.cellsOf 3 = 1 by kernel_rfl, List.getElem?_eq_getElem (by rw [hlen]; decide)] at g1
    have g2 : DataW.trod enc Try.prog w base spare held n 3 (([c0, c1, c2].drop 2).take (Try.prog.cellsOf 3)) = xs[2]? := hg 2 _ rfl
    rw [show Try.prog.cellsOf 3 = 1 by kernel_rfl, List.getElem?_eq_getElem (by rw [hlen]; decide)] at g2
    obtain ⟨a0, e0, _, k0⟩ := DataW.trod_int Try.underlying3 g0
    obtain ⟨a1, e1, _, k1⟩ := DataW.trod_int Try.underlying3 g1
    obtain ⟨a2, e2, _, k2⟩ := DataW.trod_int Try.underlying3 g2
    simp at e0 e1 e2
    subst e0
    subst e1
    subst e2
    exact ⟨⟨a0, a1, a2⟩, rfl, wf64_of k0, wf64_of k1, wf64_of k2⟩
set_option maxRecDepth 100000 in
theorem trodShr (h : DataW.trod enc Try.prog w base spare held fuel 70 cs = some x) : ∃ d : Shr, cs = d.cells ∧ wfShr d := by
  obtain ⟨xs, n, _, hxx, hcl, hlen, hg⟩ := DataW.trod_struct Try.underlying70 h
  have hl : cs.length = 2 := hcl.trans (by kernel_rfl)
  match cs, hl with
  | [c0, c1], _ =>
    have g0 : DataW.trod enc Try.prog w base spare held n 3 (([c0, c1].drop 0).take (Try.prog.cellsOf 3)) = xs[0]? := hg 0 _ rfl
    rw [show Try.prog.cellsOf 3 = 1 by kernel_rfl, List.getElem?_eq_getElem (by rw [hlen]; decide)] at g0
    have g1 : DataW.trod enc Try.prog w base spare held n 3 (([c0, c1].drop 1).take (Try.prog.cellsOf 3)) = xs[1]? := hg 1 _ rfl
    rw [show Try.prog.cellsOf 3 = 1 by kernel_rfl, List.getElem?_eq_getElem (by rw [hlen]; decide)] at g1
    obtain ⟨a0, e0, _, k0⟩ := DataW.trod_int Try.underlying3 g0
    obtain ⟨a1, e1, _, k1⟩ := DataW.trod_int Try.underlying3 g1
    simp at e0 e1
    subst e0
    subst e1
    exact ⟨⟨a0, a1⟩, rfl, wf64_of k0, wf64_of k1⟩
instance : Inhabited Cmp := ⟨⟨none, 0, [], 0⟩⟩
theorem trodCmps (h : DataW.trod enc Try.prog w base spare held fuel 22 cs = some x) : ∃ (A : Option Addr) (ca : Nat) (zs : List Cmp), cs = [.slice A zs.length ca] ∧ RdF Cmp.cells w A zs ∧ ∀ z ∈ zs, wfCmp w z := by
  obtain ⟨A, cap, zs, e, _, _, h3, h4⟩ := trodSlice (α := Cmp) (n := 2) Cmp.cells (wfCmp w) Try.underlying22 (by kernel_rfl) (by omega) (fun m cs x hx => trodCmp hx) h
  exact ⟨A, cap, zs, e, rdF_of cmp_len (by decide) h3, h4⟩
instance : Inhabited Lnk := ⟨⟨0, 0, 0⟩⟩
theorem trodLnks (h : DataW.trod enc Try.prog w base spare held fuel 23 cs = some x) : ∃ (A : Option Addr) (ca : Nat) (zs : List Lnk), cs = [.slice A zs.length ca] ∧ RdF Lnk.cells w A zs ∧ ∀ z ∈ zs, wfLnk z := by
  obtain ⟨A, cap, zs, e, _, _, h3, h4⟩ := trodSlice (α := Lnk) (n := 3) Lnk.cells (wfLnk) Try.underlying23 (by kernel_rfl) (by omega) (fun m cs x hx => trodLnk hx) h
  exact ⟨A, cap, zs, e, rdF_of lnk_len (by decide) h3, h4⟩
instance : Inhabited Shr := ⟨⟨0, 0⟩⟩
theorem trodShrs (h : DataW.trod enc Try.prog w base spare held fuel 24 cs = some x) : ∃ (A : Option Addr) (ca : Nat) (zs : List Shr), cs = [.slice A zs.length ca] ∧ RdF Shr.cells w A zs ∧ ∀ z ∈ zs, wfShr z := by
  obtain ⟨A, cap, zs, e, _, _, h3, h4⟩ := trodSlice (α := Shr) (n := 2) Shr.cells (wfShr) Try.underlying24 (by kernel_rfl) (by omega) (fun m cs x hx => trodShr hx) h
  exact ⟨A, cap, zs, e, rdF_of shr_len (by decide) h3, h4⟩
theorem trodLen {P : Program} {t e : TypeId} {A : Option Addr} {n cap B : Nat} {d : DataW H} {p : List MemPlace} (h : DataW.trod enc P w base spare held fuel t [.slice A n cap] = some (d, p)) (hu : P.underlying t = some (.slice e)) (hb : P.bytesOf e = B) (hw : ∀ k ∈ d.weights P t, k ≤ reachBytes) : n * B ≤ 140737488351232 := by
  rcases open_slice hu h with ⟨h1, _⟩ | ⟨a, len, cap', m, n', D, Pl, h1, _, hl, hm, hmm, h2, _⟩
  · simp at h1
    obtain ⟨_, rfl, _⟩ := h1
    omega
  · simp at h1
    obtain ⟨_, rfl, _⟩ := h1
    simp only [Prod.mk.injEq] at h2
    obtain ⟨rfl, _⟩ := h2
    have h3 := hw _ (by unfold DataW.weights; rw [hu]; exact List.mem_cons_self)
    rw [hb] at h3
    simp only [List.length_map, List.length_range, reachBytes] at h3
    have h4 : n * B ≤ (n + (List.range (m - n)).length) * B := Nat.mul_le_mul_right _ (Nat.le_add_right _ _)
    simp only [List.length_range] at h4
    omega
/-- What holds of an image that comes in. -/
structure ImgIn (w : World) (x : Img) : Prop where
  at_ : ImgAt w x
  nc : x.comps.length ≤ 140737488351232
  nl : x.links.length ≤ 140737488351232
  ns : x.shares.length ≤ 140737488351232
  wh : wf64 x.heap
  wf : wf64 x.full
  wc : ∀ d ∈ x.comps, wf64 d.data
  wl : ∀ d ∈ x.links, wfLnk d
  ws : ∀ d ∈ x.shares, wfShr d
set_option maxRecDepth 100000 in
theorem openImg {r : Reach} {b0 : Nat} {v : Value} {d : DataW H} {p : List MemPlace} (hv : Value.okWide Try.prog w r b0 26 v) (h : DataW.Trod enc Try.prog w base spare held 26 v d p) (hw : ∀ k ∈ d.weights Try.prog 26, k ≤ reachBytes) :
    ∃ x : Img, v = .agg #[.bool x.strict, .int .i64 x.heap, .int .i64 x.full, .slice x.C x.comps.length x.cc, .slice x.L x.links.length x.lc, .slice x.S x.shares.length x.sc] ∧ ImgIn w x := by
  obtain ⟨cells, rfl, hsz⟩ := okWide_struct Try.underlying26 hv
  obtain ⟨fuel, hf⟩ := h
  obtain ⟨xs, n, hxx, hxy, hcl, hlen, hg⟩ := DataW.trod_struct Try.underlying26 hf
  obtain ⟨l⟩ := cells
  match l, hsz.trans (show Try.prog.cellsOf 26 = 6 by kernel_rfl) with
  | [c0, c1, c2, c3, c4, c5], _ =>
    have g0 : DataW.trod enc Try.prog w base spare held n 4 (([c0, c1, c2, c3, c4, c5].drop 0).take (Try.prog.cellsOf 4)) = xs[0]? := hg 0 _ rfl
    rw [show Try.prog.cellsOf 4 = 1 by kernel_rfl, List.getElem?_eq_getElem (by rw [hlen]; decide)] at g0
    have g1 : DataW.trod enc Try.prog w base spare held n 3 (([c0, c1, c2, c3, c4, c5].drop 1).take (Try.prog.cellsOf 3)) = xs[1]? := hg 1 _ rfl
    rw [show Try.prog.cellsOf 3 = 1 by kernel_rfl, List.getElem?_eq_getElem (by rw [hlen]; decide)] at g1
    have g2 : DataW.trod enc Try.prog w base spare held n 3 (([c0, c1, c2, c3, c4, c5].drop 2).take (Try.prog.cellsOf 3)) = xs[2]? := hg 2 _ rfl
    rw [show Try.prog.cellsOf 3 = 1 by kernel_rfl, List.getElem?_eq_getElem (by rw [hlen]; decide)] at g2
    have g3 : DataW.trod enc Try.prog w base spare held n 22 (([c0, c1, c2, c3, c4, c5].drop 3).take (Try.prog.cellsOf 22)) = xs[3]? := hg 3 _ rfl
    rw [show Try.prog.cellsOf 22 = 1 by kernel_rfl, List.getElem?_eq_getElem (by rw [hlen]; decide)] at g3
    have g4 : DataW.trod enc Try.prog w base spare held n 23 (([c0, c1, c2, c3, c4, c5].drop 4).take (Try.prog.cellsOf 23)) = xs[4]? := hg 4 _ rfl
    rw [show Try.prog.cellsOf 23 = 1 by kernel_rfl, List.getElem?_eq_getElem (by rw [hlen]; decide)] at g4
    have g5 : DataW.trod enc Try.prog w base spare held n 24 (([c0, c1, c2, c3, c4, c5].drop 5).take (Try.prog.cellsOf 24)) = xs[5]? := hg 5 _ rfl
    rw [show Try.prog.cellsOf 24 = 1 by kernel_rfl, List.getElem?_eq_getElem (by rw [hlen]; decide)] at g5
    obtain ⟨a0, e0, _⟩ := DataW.trod_bool Try.underlying4 g0
    obtain ⟨a1, e1, _, k1⟩ := DataW.trod_int Try.underlying3 g1
    obtain ⟨a2, e2, _, k2⟩ := DataW.trod_int Try.underlying3 g2
    obtain ⟨A3, ca3, zs3, e3, k3⟩ := trodCmps g3
    obtain ⟨A4, ca4, zs4, e4, k4⟩ := trodLnks g4
    obtain ⟨A5, ca5, zs5, e5, k5⟩ := trodShrs g5
    simp at e0 e1 e2 e3 e4 e5
    subst e0
    subst e1
    subst e2
    subst e3
    subst e4
    subst e5
    simp only [Prod.mk.injEq] at hxy
    obtain ⟨rfl, _⟩ := hxy
    have hwj : ∀ (j : Nat) (t : TypeId) (hj : j < xs.length), ([4, 3, 3, 22, 23, 24] : List TypeId)[j]? = some t → ∀ k ∈ (xs[j]).1.weights Try.prog t, k ≤ reachBytes := fun j t hj ht k hk => by
      refine hw k ?_
      unfold DataW.weights
      rw [Try.underlying26]
      exact DataW.weights_mem_each ht (by rw [List.getElem?_map, List.getElem?_eq_getElem hj]; rfl) k hk
    have n3 := trodLen (d := (xs[3]'(by rw [hlen]; decide)).1) (p := (xs[3]'(by rw [hlen]; decide)).2) g3 Try.underlying22 (B := 32) (by kernel_rfl) (hwj 3 _ _ rfl)
    have n4 := trodLen (d := (xs[4]'(by rw [hlen]; decide)).1) (p := (xs[4]'(by rw [hlen]; decide)).2) g4 Try.underlying23 (B := 24) (by kernel_rfl) (hwj 4 _ _ rfl)
    have n5 := trodLen (d := (xs[5]'(by rw [hlen]; decide)).1) (p := (xs[5]'(by rw [hlen]; decide)).2) g5 Try.underlying24 (B := 16) (by kernel_rfl) (hwj 5 _ _ rfl)
    exact ⟨⟨a0, a1, a2, A3, ca3, zs3, A4, ca4, zs4, A5, ca5, zs5⟩, rfl, ⟨k3.1, fun d hd => by obtain ⟨h1, h2, h3, h4, _⟩ := k3.2 d hd; exact ⟨h1, h2, h3, h4⟩, k4.1, k5.1⟩, by show zs3.length ≤ _; omega, by show zs4.length ≤ _; omega, by show zs5.length ≤ _; omega, wf64_of k1, wf64_of k2, fun d hd => (k3.2 d hd).2.2.2.2, k4.2, k5.2⟩
set_option maxRecDepth 100000 in
theorem openBytes {r : Reach} {b0 : Nat} {v : Value} {d : DataW H} {p : List MemPlace} (hv : Value.okWide Try.prog w r b0 27 v) (h : DataW.Trod enc Try.prog w base spare held 27 v d p) :
    ∃ (A : Option Addr) (cap : Nat) (bl : List Int), v = .slice A bl.length cap ∧ bl.length ≤ cap ∧ cap ≤ maxLen ∧ RdB w A bl ∧ byteL bl ∧ (A = none → cap = 0) := by
  obtain ⟨a0, len, cap, rfl⟩ := okWide_slice Try.underlying27 hv
  obtain ⟨fuel, hf⟩ := h
  obtain ⟨A, ca, bl, hcs, h1, h2, h3, h4⟩ := trodBytes hf
  simp [Value.cells] at hcs
  obtain ⟨rfl, rfl, rfl⟩ := hcs
  refine ⟨_, _, bl, rfl, h1, h2, h3, h4, fun hA => ?_⟩
  rcases open_slice Try.underlying27 hf with ⟨e, _⟩ | ⟨a, len, cap', m, n', D, Pl, e, _⟩
  · simp [Value.cells] at e
    exact e.2.2
  · simp [Value.cells, hA] at e
end

end Go.Proofs.Ytgldlkoohfclpaa
