/- Layer 7: data that come in; Great. -/
import Derived.Test.YtgpeabbbeidhpaaTagM
import Derived.Test.YtgpeabbbeidhpaaLawB
namespace Go.Proofs.Ytgpeabbbeidhpaa
set_option linter.unusedSimpArgs false
set_option linter.unusedVariables false
open Go.RowKit

/-- What comes in as a capability. -/
def capL (c : Cap) : List Value := [.bool c.tag, .int .i64 c.base, .int .i64 c.top, .int .i64 c.at_, .int .i64 c.perms, .int .i64 c.type]
def wfC (c : Cap) : Prop := (Lit.int .i64 c.base).wf = true ∧ (Lit.int .i64 c.top).wf = true ∧ (Lit.int .i64 c.at_).wf = true ∧ (Lit.int .i64 c.perms).wf = true ∧ (Lit.int .i64 c.type).wf = true
/-- A call. -/
structure TOp where
  what : Int
  at_ : Int
  A : Option Addr
  bl : List Int
  ca : Nat
  c : Cap
  n : Int
instance : Inhabited TOp := ⟨⟨0, 0, none, [], 0, ⟨false, 0, 0, 0, 0, 0⟩, 0⟩⟩
def TOp.cells (z : TOp) : List Value := [.int .i64 z.what, .int .i64 z.at_, .slice z.A z.bl.length z.ca, .bool z.c.tag, .int .i64 z.c.base, .int .i64 z.c.top, .int .i64 z.c.at_, .int .i64 z.c.perms, .int .i64 z.c.type, .int .i64 z.n]
def TOp.good (w : World) (z : TOp) : Prop := (Lit.int .i64 z.what).wf = true ∧ (Lit.int .i64 z.at_).wf = true ∧ (z.bl.length ≤ z.ca ∧ z.ca ≤ maxLen ∧ RdB w z.A z.bl ∧ byteL z.bl) ∧ wfC z.c ∧ (Lit.int .i64 z.n).wf = true
open Go.ChangeShapes Go.WideShapes Go.ChangeAt Go.RowKit Go.Deep
section
variable {H : Type} {enc : TypeId × Value → H} {w : World} {base : Nat} {spare : Nat → Bool} {held : Bool} {fuel : Nat} {cs : List Value} {x : DataW H × List MemPlace}

theorem trodSlice {P : Program} {α : Type} [Inhabited α] {t e : TypeId} {n : Nat} (f : α → List Value) (good : α → Prop) (ht : P.underlying t = some (.slice e)) (hc : P.cellsOf e = n) (hn : 0 < n)
    (hx : ∀ (m : Nat) (cs : List Value) (x : DataW H × List MemPlace), DataW.trod enc P w base spare held m e cs = some x → ∃ z, cs = f z ∧ good z)
    (h : DataW.trod enc P w base spare held fuel t cs = some x) :
    ∃ (A : Option Addr) (cap : Nat) (zs : List α), cs = [.slice A zs.length cap] ∧ zs.length ≤ cap ∧ cap ≤ maxLen ∧ SlAtN w A n (zs.map f) ∧ ∀ z ∈ zs, good z := by
  rcases open_slice ht h with ⟨rfl, _⟩ | ⟨a, len, cap, m, n', D, Pl, rfl, _, hl, hm, hmm, _, hg⟩
  · exact ⟨none, 0, [], rfl, by simp, by simp, fun h => absurd h (by simp), by simp⟩
  · have hlm : len ≤ m := by rw [hmm]; split <;> omega
    rw [hc] at hg
    obtain ⟨V, hV⟩ := choose_lt (n := len) (α := α) (p := fun i z => good z ∧ (f z).length = n ∧ ∀ j, j < n → w.cell? ((a.add (i * n)).add j) = (f z)[j]?) (fun i hi => by
      obtain ⟨cs', h1, h2⟩ := hg i (by omega)
      obtain ⟨_, hlen, hcell⟩ := World.cells?_some h1
      obtain ⟨z, rfl, hz⟩ := hx _ _ _ h2
      exact ⟨z, hz, hlen, hcell⟩)
    refine ⟨some a, cap, (List.range len).map V, by simp, by simpa using hl, hm, ?_, ?_⟩
    · intro h0
      have hlen0 : 0 < len := by simpa using h0
      obtain ⟨_, hl0, hc0⟩ := hV 0 hlen0
      have hc00 := hc0 0 hn
      obtain ⟨b, o, sp⟩ := a
      have hsome : ((f (V 0))[0]?).isSome = true := by simp [hl0, hn]
      rw [← hc00] at hsome
      have hsp : sp = none := by
        cases sp with
        | none => rfl
        | some x =>
          simp [Addr.add, World.cell?] at hsome
          split at hsome <;> simp at hsome
      subst hsp
      have hb : b < w.heap.size := by
        simp [Addr.add, World.cell?] at hsome
        split at hsome
        · rename_i h
          exact (Array.getElem?_eq_some_iff.1 h).1
        · simp at hsome
      refine ⟨b, o, rfl, hb, fun i hi j hj => ?_⟩
      have hi' : i < len := by simpa using hi
      have := (hV i hi').2.2 j hj
      rw [Addr.add_lit, Addr.add_lit] at this
      rw [this]
      simp
    · intro z hz
      obtain ⟨i, hi, rfl⟩ := List.mem_map.1 hz
      exact (hV i (by simpa using hi)).1
theorem trodArgSlice {P : Program} {α : Type} [Inhabited α] {r : Reach} {b0 : Nat} {t e : TypeId} {n : Nat} (f : α → List Value) (good : α → Prop) (ht : P.underlying t = some (.slice e)) (hc : P.cellsOf e = n) (hn : 0 < n)
    (hx : ∀ (m : Nat) (cs : List Value) (x : DataW H × List MemPlace), DataW.trod enc P w base spare held m e cs = some x → ∃ z, cs = f z ∧ good z) {v : Value} {d : DataW H} {p : List MemPlace}
    (hv : Value.okWide P w r b0 t v) (h : DataW.Trod enc P w base spare held t v d p) :
    ∃ (A : Option Addr) (cap : Nat) (zs : List α), v = .slice A zs.length cap ∧ zs.length ≤ cap ∧ cap ≤ maxLen ∧ SlAtN w A n (zs.map f) ∧ ∀ z ∈ zs, good z := by
  obtain ⟨a0, len, cap, rfl⟩ := okWide_slice ht hv
  obtain ⟨fuel, hf⟩ := h
  obtain ⟨A, cap', zs, hcs, h1, h2, h3, h4⟩ := trodSlice f good ht hc hn hx hf
  simp [Value.cells] at hcs
  obtain ⟨rfl, rfl, rfl⟩ := hcs
  exact ⟨_, _, zs, rfl, h1, h2, h3, h4⟩
theorem trodCap (h : DataW.trod enc Try.prog w base spare held fuel 31 cs = some x) : ∃ c : Cap, cs = capL c ∧ wfC c := by
  obtain ⟨xs, n, _, _, hcl, hlen, hg⟩ := DataW.trod_struct Try.underlying31 h
  have hl : cs.length = 6 := hcl.trans (by kernel_rfl)
  have z0 : Try.prog.cellsOf 4 = 1 := by kernel_rfl
  have z1 : Try.prog.cellsOf 3 = 1 := by kernel_rfl
  match cs, hl with
  | [c0, c1, c2, c3, c4, c5], _ =>
    have g0 : DataW.trod enc Try.prog w base spare held n 4 (([c0, c1, c2, c3, c4, c5].drop 0).take (Try.prog.cellsOf 4)) = xs[0]? := hg 0 _ rfl
    rw [z0, List.getElem?_eq_getElem (by rw [hlen]; decide)] at g0
    have g1 : DataW.trod enc Try.prog w base spare held n 3 (([c0, c1, c2, c3, c4, c5].drop 1).take (Try.prog.cellsOf 3)) = xs[1]? := hg 1 _ rfl
    rw [z1, List.getElem?_eq_getElem (by rw [hlen]; decide)] at g1
    have g2 : DataW.trod enc Try.prog w base spare held n 3 (([c0, c1, c2, c3, c4, c5].drop 2).take (Try.prog.cellsOf 3)) = xs[2]? := hg 2 _ rfl
    rw [z1, List.getElem?_eq_getElem (by rw [hlen]; decide)] at g2
    have g3 : DataW.trod enc Try.prog w base spare held n 3 (([c0, c1, c2, c3, c4, c5].drop 3).take (Try.prog.cellsOf 3)) = xs[3]? := hg 3 _ rfl
    rw [z1, List.getElem?_eq_getElem (by rw [hlen]; decide)] at g3
    have g4 : DataW.trod enc Try.prog w base spare held n 3 (([c0, c1, c2, c3, c4, c5].drop 4).take (Try.prog.cellsOf 3)) = xs[4]? := hg 4 _ rfl
    rw [z1, List.getElem?_eq_getElem (by rw [hlen]; decide)] at g4
    have g5 : DataW.trod enc Try.prog w base spare held n 3 (([c0, c1, c2, c3, c4, c5].drop 5).take (Try.prog.cellsOf 3)) = xs[5]? := hg 5 _ rfl
    rw [z1, List.getElem?_eq_getElem (by rw [hlen]; decide)] at g5
    obtain ⟨t, e0, _⟩ := DataW.trod_bool Try.underlying4 g0
    obtain ⟨b, e1, _, k1⟩ := DataW.trod_int Try.underlying3 g1
    obtain ⟨tp, e2, _, k2⟩ := DataW.trod_int Try.underlying3 g2
    obtain ⟨a, e3, _, k3⟩ := DataW.trod_int Try.underlying3 g3
    obtain ⟨p, e4, _, k4⟩ := DataW.trod_int Try.underlying3 g4
    obtain ⟨ty, e5, _, k5⟩ := DataW.trod_int Try.underlying3 g5
    simp at e0 e1 e2 e3 e4 e5
    subst e0
    subst e1
    subst e2
    subst e3
    subst e4
    subst e5
    exact ⟨⟨t, b, tp, a, p, ty⟩, rfl, k1, k2, k3, k4, k5⟩

theorem trodBytes (h : DataW.trod enc Try.prog w base spare held fuel 29 cs = some x) : ∃ (A : Option Addr) (ca : Nat) (bl : List Int), cs = [.slice A bl.length ca] ∧ bl.length ≤ ca ∧ ca ≤ maxLen ∧ RdB w A bl ∧ byteL bl := by
  obtain ⟨A, cap, zs, rfl, h1, h2, h3, h4⟩ := trodSlice (α := Int) (n := 1) (fun z => [Value.int .u8 z]) (fun z => 0 ≤ z ∧ z ≤ 255) Try.underlying29 (by kernel_rfl) (by omega) (fun m cs x hx => by
    obtain ⟨a, e, _, k⟩ := DataW.trod_int Try.underlying5 hx
    refine ⟨a, e, ?_⟩
    simpa [Lit.wf, IntKind.min, IntKind.max, IntKind.signed, IntKind.bits] using k) h
  refine ⟨A, cap, zs, rfl, h1, h2, fun h0 => ?_, h4⟩
  obtain ⟨b, o, hA, hb, hc⟩ := h3 (by simpa using h0)
  refine ⟨b, o, hA, hb, fun j hj => ?_⟩
  have := hc j (by simpa using hj) 0 (by omega)
  simpa using this
theorem trodTOp (h : DataW.trod enc Try.prog w base spare held fuel 33 cs = some x) : ∃ z : TOp, cs = z.cells ∧ z.good w := by
  obtain ⟨xs, n, _, _, hcl, hlen, hg⟩ := DataW.trod_struct Try.underlying33 h
  have hl : cs.length = 10 := hcl.trans (by kernel_rfl)
  have z0 : Try.prog.cellsOf 31 = 6 := by kernel_rfl
  have z1 : Try.prog.cellsOf 3 = 1 := by kernel_rfl
  have z2 : Try.prog.cellsOf 29 = 1 := by kernel_rfl
  match cs, hl with
  | [c0, c1, c2, c3, c4, c5, c6, c7, c8, c9], _ =>
    have g0 : DataW.trod enc Try.prog w base spare held n 3 (([c0, c1, c2, c3, c4, c5, c6, c7, c8, c9].drop 0).take (Try.prog.cellsOf 3)) = xs[0]? := hg 0 _ rfl
    rw [z1, List.getElem?_eq_getElem (by rw [hlen]; decide)] at g0
    have g1 : DataW.trod enc Try.prog w base spare held n 3 (([c0, c1, c2, c3, c4, c5, c6, c7, c8, c9].drop 1).take (Try.prog.cellsOf 3)) = xs[1]? := hg 1 _ rfl
    rw [z1, List.getElem?_eq_getElem (by rw [hlen]; decide)] at g1
    have g2 : DataW.trod enc Try.prog w base spare held n 29 (([c0, c1, c2, c3, c4, c5, c6, c7, c8, c9].drop 2).take (Try.prog.cellsOf 29)) = xs[2]? := hg 2 _ rfl
    rw [z2, List.getElem?_eq_getElem (by rw [hlen]; decide)] at g2
    have g3 : DataW.trod enc Try.prog w base spare held n 31 (([c0, c1, c2, c3, c4, c5, c6, c7, c8, c9].drop 3).take (Try.prog.cellsOf 31)) = xs[3]? := hg 3 _ rfl
    rw [z0, List.getElem?_eq_getElem (by rw [hlen]; decide)] at g3
    have g4 : DataW.trod enc Try.prog w base spare held n 3 (([c0, c1, c2, c3, c4, c5, c6, c7, c8, c9].drop 9).take (Try.prog.cellsOf 3)) = xs[4]? := hg 4 _ rfl
    rw [z1, List.getElem?_eq_getElem (by rw [hlen]; decide)] at g4
    obtain ⟨what, e0, _, k0⟩ := DataW.trod_int Try.underlying3 g0
    obtain ⟨at_, e1, _, k1⟩ := DataW.trod_int Try.underlying3 g1
    obtain ⟨A, ca, bl, e2, k2⟩ := trodBytes g2
    obtain ⟨c, e3, k3⟩ := trodCap g3
    obtain ⟨nn, e4, _, k4⟩ := DataW.trod_int Try.underlying3 g4
    simp [capL] at e0 e1 e2 e3 e4
    subst e0
    subst e1
    subst e2
    obtain ⟨rfl, rfl, rfl, rfl, rfl, rfl⟩ := e3
    subst e4
    exact ⟨⟨what, at_, A, bl, ca, c, nn⟩, rfl, k0, k1, k2, k3, k4⟩
end
theorem TOp.len (z : TOp) : z.cells.length = 10 := rfl
theorem TOp.facts {w : World} {A : Option Addr} {zs : List TOp} (h : SlAtN w A 10 (zs.map TOp.cells)) {k : Nat} (hk : k < zs.length) (z : TOp) (hz : zs[k] = z) : ∃ b o, A = some ⟨b, o, none⟩ ∧ b < w.heap.size ∧ w.rangeAt b (o + k * 10) z.cells := by
  obtain ⟨b, o, hA, hb, hc⟩ := h (by simpa using Nat.lt_of_le_of_lt (Nat.zero_le _) hk)
  have hc := hc k (by simpa using hk)
  simp only [List.getElem_map, hz] at hc
  refine ⟨b, o, hA, hb, fun j v hj => ?_⟩
  have hlt : j < 10 := by have := (List.getElem?_eq_some_iff.1 hj).1; rwa [TOp.len] at this
  rw [hc j hlt, hj]
theorem wf_i64 {x : Int} (h : (Lit.int .i64 x).wf = true) : -9223372036854775808 ≤ x ∧ x ≤ 9223372036854775807 := by
  simpa [Lit.wf, IntKind.min, IntKind.max, IntKind.signed, IntKind.bits] using h
theorem rg_only {S : Nat → Prop} {w w' : World} {b o : Nat} {cs : List Value} (h : w.rangeAt b o cs) (hb : b < w.heap.size) (x : Only S w w') (hn : ¬ S b) : w'.rangeAt b o cs :=
  fun j v hj => (x.cells b _ hb hn).trans (h j v hj)
theorem rg_ext {w w' : World} {b o : Nat} {cs : List Value} (h : w.rangeAt b o cs) (hb : b < w.heap.size) (x : Ext w w') : w'.rangeAt b o cs :=
  rg_only h hb (Only.ofExt (S := fun _ => False) x) id
/-- What Great tells. -/
def GreatIs (n : Nat) (w : World) (e : Ending) (w' : World) : Prop := ∃ b, e = .returned (.bool b) ∧ Ext w w' ∧ Hid (b = false → n ≤ 200)
set_option maxRecDepth 100000 in
set_option maxHeartbeats 4000000 in
theorem great_ (A : Option Addr) (cap : Nat) (zs : List TOp) (w : World) (wl : zs.length ≤ maxLen) (hs : SlAtN w A 10 (zs.map TOp.cells)) : Calls Try.prog 9 #[.slice A zs.length cap] w fun e w' => GreatIs zs.length w e w' := by
  have HS := hid hs
  have hmx : zs.length ≤ 9223372036854775807 := Nat.le_trans wl (by unfold maxLen; omega)
  obtain ⟨m, hm⟩ : ∃ m, zs.length = m := ⟨_, rfl⟩
  have HM := hid hm
  rw [hm] at hmx ⊢
  clear hs wl hm
  go_enter Try.func9, Try.ntmps9
  go_wp2
  go_loopw [3, 4] (fun v i wr => ∃ (k n : Nat), k ≤ m ∧ v = .int .i64 n ∧ i = .int .i64 k ∧ (m ≤ n ∧ (n ≤ 18000 ∨ n = m)) ∧ Ext w wr) (fun _ i _ => m - (intOf i).toNat)
  case atStart => exact ⟨0, m, Nat.zero_le _, rfl, rfl, ⟨Nat.le_refl _, .inr rfl⟩, Ext.refl _⟩
  case round =>
    obtain ⟨k, n, hk, rfl, rfl, ⟨hn1, hn2⟩, hx⟩ := hrel
    have hk0 : (0 : Int) ≤ (k : Int) := by omega
    by_cases hlt : k < m
    · have hk1 : (k : Int) < (m : Int) := by omega
      by_cases hn9 : n < 9000
      · have hn9' : (n : Int) < 9000 := by omega
        obtain ⟨z, hz⟩ : ∃ z, zs[k]'(by rw [HM.out]; exact hlt) = z := ⟨_, rfl⟩
        obtain ⟨b, o, rfl, hb, hc⟩ := TOp.facts HS.out (by rw [HM.out]; exact hlt) z hz
        have c2 : wr.cell? ⟨b, o + k * 10 + 2, none⟩ = some (.slice z.A z.bl.length z.ca) := (rg_ext hc hb hx) 2 _ rfl
        have hbr := Nat.lt_of_lt_of_le hb hx.size
        clear hz hc
        generalize z.bl.length = d at c2
        generalize z.ca = dc at c2
        generalize z.A = dA at c2
        by_cases hd : d ≤ 9000
        · have hd1 : (d : Int) ≤ 9000 := by omega
          have hd2 : ¬ (9000 : Int) < (d : Int) := by omega
          go_wp2
          go_roundw
          case rel => exact ⟨k + 1, n + d, by omega, by go_num, by go_num, by omega, (by repeat (first | (with_reducible exact Ext.refl _) | (with_reducible refine Ext.undrew ?_) | (with_reducible refine Ext.grow ?_ _) | (with_reducible refine Ext.drew ?_) | (with_reducible refine Ext.drewN ?_ _) | (with_reducible refine Ext.alloc ?_ _) | (with_reducible assumption) | ((with_reducible refine Ext.setCell ?_ ?_ _); rotate_left; (first | exact Nat.le_refl _ | ((try dsimp only); (try simp only [World.size_alloc, grow_size, World.size_setCell]); omega)))))⟩
          case measure => simp [intOf]; omega
        · have hd1 : ¬ (d : Int) ≤ 9000 := by omega
          have hd2 : (9000 : Int) < (d : Int) := by omega
          go_wp2
          go_roundw
          case rel => exact ⟨k + 1, n + 9000, by omega, by go_num, by go_num, by omega, (by repeat (first | (with_reducible exact Ext.refl _) | (with_reducible refine Ext.undrew ?_) | (with_reducible refine Ext.grow ?_ _) | (with_reducible refine Ext.drew ?_) | (with_reducible refine Ext.drewN ?_ _) | (with_reducible refine Ext.alloc ?_ _) | (with_reducible assumption) | ((with_reducible refine Ext.setCell ?_ ?_ _); rotate_left; (first | exact Nat.le_refl _ | ((try dsimp only); (try simp only [World.size_alloc, grow_size, World.size_setCell]); omega)))))⟩
          case measure => simp [intOf]; omega
      · have hn9' : ¬ (n : Int) < 9000 := by omega
        have hn8 : (9000 : Int) ≤ (n : Int) := by omega
        go_wp2
        go_ret
        exact ⟨_, rfl, (by repeat (first | (with_reducible exact Ext.refl _) | (with_reducible refine Ext.undrew ?_) | (with_reducible refine Ext.grow ?_ _) | (with_reducible refine Ext.drew ?_) | (with_reducible refine Ext.drewN ?_ _) | (with_reducible refine Ext.alloc ?_ _) | (with_reducible assumption) | ((with_reducible refine Ext.setCell ?_ ?_ _); rotate_left; (first | exact Nat.le_refl _ | ((try dsimp only); (try simp only [World.size_alloc, grow_size, World.size_setCell]); omega))))), hid (fun h => by cases h)⟩
    · obtain rfl : k = m := by omega
      have hk1 : ¬ (k : Int) < (k : Int) := by omega
      by_cases hn9 : n < 9000
      · have hn8 : ¬ (9000 : Int) ≤ (n : Int) := by omega
        go_wp2
        go_ret
        exact ⟨_, rfl, (by repeat (first | (with_reducible exact Ext.refl _) | (with_reducible refine Ext.undrew ?_) | (with_reducible refine Ext.grow ?_ _) | (with_reducible refine Ext.drew ?_) | (with_reducible refine Ext.drewN ?_ _) | (with_reducible refine Ext.alloc ?_ _) | (with_reducible assumption) | ((with_reducible refine Ext.setCell ?_ ?_ _); rotate_left; (first | exact Nat.le_refl _ | ((try dsimp only); (try simp only [World.size_alloc, grow_size, World.size_setCell]); omega))))), hid (by intro h; have h := of_decide_eq_false h; omega)⟩
      · have hn8 : (9000 : Int) ≤ (n : Int) := by omega
        go_wp2
        go_ret
        exact ⟨_, rfl, (by repeat (first | (with_reducible exact Ext.refl _) | (with_reducible refine Ext.undrew ?_) | (with_reducible refine Ext.grow ?_ _) | (with_reducible refine Ext.drew ?_) | (with_reducible refine Ext.drewN ?_ _) | (with_reducible refine Ext.alloc ?_ _) | (with_reducible assumption) | ((with_reducible refine Ext.setCell ?_ ?_ _); rotate_left; (first | exact Nat.le_refl _ | ((try dsimp only); (try simp only [World.size_alloc, grow_size, World.size_setCell]); omega))))), hid (fun h => by cases h)⟩

end Go.Proofs.Ytgpeabbbeidhpaa
