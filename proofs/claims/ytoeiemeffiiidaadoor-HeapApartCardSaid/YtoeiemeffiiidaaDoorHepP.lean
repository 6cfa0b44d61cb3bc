/- Layer 14: calls that come in; pick. -/
import Derived.Test.YtoeiemeffiiidaaDoorHepO
import Derived.Test.YtoeiemeffiiidaaDoorHepM
namespace Go.Proofs.YtoeiemeffiiidaaDoor
set_option linter.unusedSimpArgs false
set_option linter.unusedVariables false
open Go.RowKit

/-- What comes in as a capability. -/
def capL (c : Cap) : List Value := [.bool c.tag, .int .i64 c.base, .int .i64 c.top, .int .i64 c.at_, .int .i64 c.perms, .int .i64 c.type]
def wfC (c : Cap) : Prop := (Lit.int .i64 c.base).wf = true ∧ (Lit.int .i64 c.top).wf = true ∧ (Lit.int .i64 c.at_).wf = true ∧ (Lit.int .i64 c.perms).wf = true ∧ (Lit.int .i64 c.type).wf = true
open Go.ChangeShapes Go.WideShapes Go.ChangeAt Go.RowKit Go.Deep
section
variable {H : Type} {enc : TypeId × Value → H} {w : World} {base : Nat} {spare : Nat → Bool} {held : Bool} {fuel : Nat} {cs : List Value} {x : DataW H × List MemPlace}

theorem trodSlice {P : Program} {α : Type} [Inhabited α] {t e : TypeId} {n : Nat} (f : α → List Value) (good : α → Prop) (ht : P.underlying t = some (.slice e)) (hc : P.cellsOf e = n) (hn : 0 < n)
    (hx : ∀ (m : Nat) (cs : List Value) (x : DataW H × List MemPlace), DataW.trod enc P w base spare held m e cs = some x → ∃ z, cs = f z ∧ good z)
    (h : DataW.trod enc P w base spare held fuel t cs = some x) :
    ∃ (A : Option Addr) (cap : Nat) (zs : List α), cs = [.slice A zs.length cap] ∧ zs.length ≤ cap ∧ cap ≤ maxLen ∧ SlAtN w A n (zs.map f) ∧ ∀ z ∈ zs, good z := by
  rcases open_slice ht h with ⟨rfl, _⟩ | ⟨a, len, cap, m, n', D, Pl, rfl, _, hl, hm, hmm, _, hg⟩
  · exact ⟨none, 0, [], rfl, by simp, by simp, fun h => absurd h (by simp), by simp⟩
  · have hlm : len ≤ m := by rw [hmm]; split <;> omega
    rw [hc] at hg
    obtain ⟨V, hV⟩ := choose_lt (n := len) (α := α) (p := fun i z => good z ∧ (f z).length = n ∧ ∀ j, j < n → w.cell? ((a.add (i * n)).add j) = (f z)[j]?) (fun i hi => by
      obtain ⟨cs', h1, h2⟩ := hg i (by omega)
      obtain ⟨_, hlen, hcell⟩ := World.cells?_some h1
      obtain ⟨z, rfl, hz⟩ := hx _ _ _ h2
      exact ⟨z, hz, hlen, hcell⟩)
    refine ⟨some a, cap, (List.range len).map V, by simp, by simpa using hl, hm, ?_, ?_⟩
    · intro h0
      have hlen0 : 0 < len := by simpa using h0
      obtain ⟨_, hl0, hc0⟩ := hV 0 hlen0
      have hc00 := hc0 0 hn
      obtain ⟨b, o, sp⟩ := a
      have hsome : ((f (V 0))[0]?).isSome = true := by simp [hl0, hn]
      rw [← hc00] at hsome
      have hsp : sp = none := by
        cases sp with
        | none => rfl
        | some x =>
          simp [Addr.add, World.cell?] at hsome
          split at hsome <;> simp at hsome
      subst hsp
      have hb : b < w.heap.size := by
        simp [Addr.add, World.cell?] at hsome
        split at hsome
        · rename_i h
          exact (Array.getElem?_eq_some_iff.1 h).1
        · simp at hsome
      refine ⟨b, o, rfl, hb, fun i hi j hj => ?_⟩
      have hi' : i < len := by simpa using hi
      have := (hV i hi').2.2 j hj
      rw [Addr.add_lit, Addr.add_lit] at this
      rw [this]
      simp
    · intro z hz
      obtain ⟨i, hi, rfl⟩ := List.mem_map.1 hz
      exact (hV i (by simpa using hi)).1
theorem trodArgSlice {P : Program} {α : Type} [Inhabited α] {r : Reach} {b0 : Nat} {t e : TypeId} {n : Nat} (f : α → List Value) (good : α → Prop) (ht : P.underlying t = some (.slice e)) (hc : P.cellsOf e = n) (hn : 0 < n)
    (hx : ∀ (m : Nat) (cs : List Value) (x : DataW H × List MemPlace), DataW.trod enc P w base spare held m e cs = some x → ∃ z, cs = f z ∧ good z) {v : Value} {d : DataW H} {p : List MemPlace}
    (hv : Value.okWide P w r b0 t v) (h : DataW.Trod enc P w base spare held t v d p) :
    ∃ (A : Option Addr) (cap : Nat) (zs : List α), v = .slice A zs.length cap ∧ zs.length ≤ cap ∧ cap ≤ maxLen ∧ SlAtN w A n (zs.map f) ∧ ∀ z ∈ zs, good z := by
  obtain ⟨a0, len, cap, rfl⟩ := okWide_slice ht hv
  obtain ⟨fuel, hf⟩ := h
  obtain ⟨A, cap', zs, hcs, h1, h2, h3, h4⟩ := trodSlice f good ht hc hn hx hf
  simp [Value.cells] at hcs
  obtain ⟨rfl, rfl, rfl⟩ := hcs
  exact ⟨_, _, zs, rfl, h1, h2, h3, h4⟩
set_option maxRecDepth 100000 in
set_option maxHeartbeats 4000000 in
theorem trodCap (h : DataW.trod enc Tryd.prog w base spare held fuel 27 cs = some x) : ∃ c : Cap, cs = capL c ∧ wfC c := by
  obtain ⟨xs, n, _, _, hcl, hlen, hg⟩ := DataW.trod_struct Tryd.underlying27 h
  have hl : cs.length = 6 := hcl.trans (by kernel_rfl)
  have z0 : Tryd.prog.cellsOf 4 = 1 := by kernel_rfl
  have z1 : Tryd.prog.cellsOf 3 = 1 := by kernel_rfl
  match cs, hl with
  | [c0, c1, c2, c3, c4, c5], _ =>
    have g0 : DataW.trod enc Tryd.prog w base spare held n 4 (([c0, c1, c2, c3, c4, c5].drop 0).take (Tryd.prog.cellsOf 4)) = xs[0]? := hg 0 _ rfl
    rw [z0, List.getElem?_eq_getElem (by rw [hlen]; decide)] at g0
    have g1 : DataW.trod enc Tryd.prog w base spare held n 3 (([c0, c1, c2, c3, c4, c5].drop 1).take (Tryd.prog.cellsOf 3)) = xs[1]? := hg 1 _ rfl
    rw [z1, List.getElem?_eq_getElem (by rw [hlen]; decide)] at g1
    have g2 : DataW.trod enc Tryd.prog w base spare held n 3 (([c0, c1, c2, c3, c4, c5].drop 2).take (Tryd.prog.cellsOf 3)) = xs[2]? := hg 2 _ rfl
    rw [z1, List.getElem?_eq_getElem (by rw [hlen]; decide)] at g2
    have g3 : DataW.trod enc Tryd.prog w base spare held n 3 (([c0, c1, c2, c3, c4, c5].drop 3).take (Tryd.prog.cellsOf 3)) = xs[3]? := hg 3 _ rfl
    rw [z1, List.getElem?_eq_getElem (by rw [hlen]; decide)] at g3
    have g4 : DataW.trod enc Tryd.prog w base spare held n 3 (([c0, c1, c2, c3, c4, c5].drop 4).take (Tryd.prog.cellsOf 3)) = xs[4]? := hg 4 _ rfl
    rw [z1, List.getElem?_eq_getElem (by rw [hlen]; decide)] at g4
    have g5 : DataW.trod enc Tryd.prog w base spare held n 3 (([c0, c1, c2, c3, c4, c5].drop 5).take (Tryd.prog.cellsOf 3)) = xs[5]? := hg 5 _ rfl
    rw [z1, List.getElem?_eq_getElem (by rw [hlen]; decide)] at g5
    obtain ⟨t, e0, _⟩ := DataW.trod_bool Tryd.underlying4 g0
    obtain ⟨b, e1, _, k1⟩ := DataW.trod_int Tryd.underlying3 g1
    obtain ⟨tp, e2, _, k2⟩ := DataW.trod_int Tryd.underlying3 g2
    obtain ⟨a, e3, _, k3⟩ := DataW.trod_int Tryd.underlying3 g3
    obtain ⟨p, e4, _, k4⟩ := DataW.trod_int Tryd.underlying3 g4
    obtain ⟨ty, e5, _, k5⟩ := DataW.trod_int Tryd.underlying3 g5
    simp at e0 e1 e2 e3 e4 e5
    subst e0
    subst e1
    subst e2
    subst e3
    subst e4
    subst e5
    exact ⟨⟨t, b, tp, a, p, ty⟩, rfl, k1, k2, k3, k4, k5⟩

/-- A call of a heap. -/
structure POp where
  what : Int
  n : Int
  c : Cap
instance : Inhabited POp := ⟨⟨0, 0, ⟨false, 0, 0, 0, 0, 0⟩⟩⟩
def POp.cells (z : POp) : List Value := [.int .i64 z.what, .int .i64 z.n, .bool z.c.tag, .int .i64 z.c.base, .int .i64 z.c.top, .int .i64 z.c.at_, .int .i64 z.c.perms, .int .i64 z.c.type]
def POp.good (z : POp) : Prop := (Lit.int .i64 z.what).wf = true ∧ (Lit.int .i64 z.n).wf = true ∧ wfC z.c
set_option maxRecDepth 100000 in
set_option maxHeartbeats 4000000 in
theorem trodPOp (h : DataW.trod enc Tryd.prog w base spare held fuel 33 cs = some x) : ∃ z : POp, cs = z.cells ∧ z.good := by
  obtain ⟨xs, n, _, _, hcl, hlen, hg⟩ := DataW.trod_struct Tryd.underlying33 h
  have hl : cs.length = 8 := hcl.trans (by kernel_rfl)
  have z0 : Tryd.prog.cellsOf 27 = 6 := by kernel_rfl
  have z1 : Tryd.prog.cellsOf 3 = 1 := by kernel_rfl
  match cs, hl with
  | [c0, c1, c2, c3, c4, c5, c6, c7], _ =>
    have g0 : DataW.trod enc Tryd.prog w base spare held n 3 (([c0, c1, c2, c3, c4, c5, c6, c7].drop 0).take (Tryd.prog.cellsOf 3)) = xs[0]? := hg 0 _ rfl
    rw [z1, List.getElem?_eq_getElem (by rw [hlen]; decide)] at g0
    have g1 : DataW.trod enc Tryd.prog w base spare held n 3 (([c0, c1, c2, c3, c4, c5, c6, c7].drop 1).take (Tryd.prog.cellsOf 3)) = xs[1]? := hg 1 _ rfl
    rw [z1, List.getElem?_eq_getElem (by rw [hlen]; decide)] at g1
    have g2 : DataW.trod enc Tryd.prog w base spare held n 27 (([c0, c1, c2, c3, c4, c5, c6, c7].drop 2).take (Tryd.prog.cellsOf 27)) = xs[2]? := hg 2 _ rfl
    rw [z0, List.getElem?_eq_getElem (by rw [hlen]; decide)] at g2
    obtain ⟨what, e0, _, k0⟩ := DataW.trod_int Tryd.underlying3 g0
    obtain ⟨nn, e1, _, k1⟩ := DataW.trod_int Tryd.underlying3 g1
    obtain ⟨c, e2, k2⟩ := trodCap g2
    simp [capL] at e0 e1 e2
    subst e0
    subst e1
    obtain ⟨rfl, rfl, rfl, rfl, rfl, rfl⟩ := e2
    exact ⟨⟨what, nn, c⟩, rfl, k0, k1, k2⟩
end
theorem POp.len (z : POp) : z.cells.length = 8 := rfl
theorem rg_extP {w w' : World} {b o : Nat} {cs : List Value} (h : w.rangeAt b o cs) (hb : b < w.heap.size) (x : Ext w w') : w'.rangeAt b o cs :=
  rg_only h hb (Only.ofExt (S := fun _ => False) x) id
theorem POp.facts {w : World} {A : Option Addr} {zs : List POp} (h : SlAtN w A 8 (zs.map POp.cells)) {k : Nat} (hk : k < zs.length) (z : POp) (hz : zs[k] = z) : ∃ b o, A = some ⟨b, o, none⟩ ∧ b < w.heap.size ∧ w.rangeAt b (o + k * 8) z.cells := by
  obtain ⟨b, o, hA, hb, hc⟩ := h (by simpa using Nat.lt_of_le_of_lt (Nat.zero_le _) hk)
  have hc := hc k (by simpa using hk)
  simp only [List.getElem_map, hz] at hc
  refine ⟨b, o, hA, hb, fun j v hj => ?_⟩
  have hlt : j < 8 := by have := (List.getElem?_eq_some_iff.1 hj).1; rwa [POp.len] at this
  rw [hc j hlt, hj]
theorem wf_i64P {x : Int} (h : (Lit.int .i64 x).wf = true) : -9223372036854775808 ≤ x ∧ x ≤ 9223372036854775807 := by
  simpa [Lit.wf, IntKind.min, IntKind.max, IntKind.signed, IntKind.bits] using h
def capsF (zs : List Cap) : List Value := zs.flatMap capL
theorem capL_length (c : Cap) : (capL c).length = 6 := rfl
theorem capsF_length : ∀ zs : List Cap, (capsF zs).length = 6 * zs.length
  | [] => rfl
  | z :: zs => by
    have := capsF_length zs
    unfold capsF at this ⊢
    rw [List.flatMap_cons, List.length_append, this, List.length_cons, capL_length]
    omega
theorem capsF_snoc (zs : List Cap) (z : Cap) : capsF (zs ++ [z]) = capsF zs ++ capL z := by simp [capsF]
theorem capsF_at : ∀ (zs : List Cap) (k j : Nat) (hk : k < zs.length), j < 6 → (capsF zs)[k * 6 + j]? = (capL zs[k])[j]?
  | [], k, j, hk, _ => absurd hk (Nat.not_lt_zero _)
  | z :: zs, 0, j, _, hj => by
    unfold capsF
    rw [List.flatMap_cons, Nat.zero_mul, Nat.zero_add, List.getElem?_append_left (by rw [capL_length]; exact hj)]
    rfl
  | z :: zs, k + 1, j, hk, hj => by
    have := capsF_at zs k j (by simpa using hk) hj
    unfold capsF at this ⊢
    rw [List.flatMap_cons, List.getElem?_append_right (by rw [capL_length]; omega), capL_length, show (k + 1) * 6 + j - 6 = k * 6 + j by omega, this]
    rfl
theorem ownsAt.caps {w : World} {base n c : Nat} {A : Option Addr} {zs : List Cap} (h : ownsAt w base 27 6 (.slice A n c) n (capsF zs)) (hn : zs.length = n) : SlAtN w A 6 (zs.map capL) := fun h0 => by
  rw [List.length_map] at h0
  obtain ⟨g, o, e, _, hl, hc, _⟩ := h.at_ rfl (by omega)
  refine ⟨g, o * 6, e, hl, fun i hi j hj => ?_⟩
  rw [List.length_map] at hi
  rw [List.getElem_map]
  have h1 := capsF_at zs i j hi hj
  obtain ⟨u, hu⟩ : ∃ u, (capL zs[i])[j]? = some u := ⟨(capL zs[i])[j]'(by rw [capL_length]; exact hj), List.getElem?_eq_getElem _⟩
  rw [hu] at h1 ⊢
  have := hc _ u h1
  rwa [← Nat.add_assoc] at this
theorem Cap.facts {w : World} {A : Option Addr} {zs : List Cap} (h : SlAtN w A 6 (zs.map capL)) {k : Nat} (hk : k < zs.length) (z : Cap) (hz : zs[k] = z) : ∃ b o, A = some ⟨b, o, none⟩ ∧ b < w.heap.size ∧ w.rangeAt b (o + k * 6) (capL z) := by
  obtain ⟨b, o, hA, hb, hc⟩ := h (by simpa using Nat.lt_of_le_of_lt (Nat.zero_le _) hk)
  have hc := hc k (by simpa using hk)
  simp only [List.getElem_map, hz] at hc
  refine ⟨b, o, hA, hb, fun j v hj => ?_⟩
  have hlt : j < 6 := by have := (List.getElem?_eq_some_iff.1 hj).1; rwa [capL_length] at this
  rw [hc j hlt, hj]
theorem info_capA : (Tryd.prog.info? 27).map (fun i => (i.zero, i.size, i.bytes)) = some (some (.agg #[.bool false, .int .i64 0, .int .i64 0, .int .i64 0, .int .i64 0, .int .i64 0]), 6, 48) := by kernel_rfl
theorem capL_one (y : Cap) : ∀ u ∈ capL y, u.oneCell' = true := by
  intro u hu
  simp [capL] at hu
  rcases hu with rfl | rfl | rfl | rfl | rfl | rfl <;> rfl
theorem hNewA (w W : World) (p pq n : Nat) (fr tu rp full : Int) (P : Nat → Bool) (hb : Ext w W) (hs : Sh W p pq n P) (hpq : w.heap.size ≤ pq) (hR : rightC ⟨true, fr, tu, fr, rp, 0⟩ = true) (hG : [fr, tu].all g16 = true ∧ 0 ≤ fr ∧ fr ≤ tu ∧ tu ≤ 16777216) (hfu : 1 ≤ full ∧ full ≤ 16777216) (T : Nat → Prop) (hT : ∀ i, T i → i < W.heap.size ∧ ¬ i = p ∧ ¬ i = pq) :
    Calls Tryd.prog 11 #[.agg #[.bool true, .int .i64 fr, .int .i64 tu, .int .i64 fr, .int .i64 rp, .int .i64 0], .pointer (some ⟨p, 0, none⟩), .int .i64 full] W fun e W' => ∃ h ck q fq g bq bf, e = .returned (.pointer (some ⟨h, 0, none⟩)) ∧ Hid (Hp w W' h ck q fq p pq g bq bf n fr tu fr rp full T ⟨0, [], frL fr tu, P, []⟩) ∧ Hid (Ext W W') := by
  rcases Int.lt_or_le fr tu with c | c
  · refine (hNew w W p pq n fr tu rp full P hb hs hpq hR ⟨hG.1, hG.2.1, c, hG.2.2.2⟩ hfu T hT).mono ?_
    rintro e w' ⟨h, ck, q, fq, g, bq, bf, rfl, hk, hx⟩
    exact ⟨h, ck, q, fq, g, bq, bf, rfl, by rw [show frL fr tu = [⟨fr, tu⟩] from if_neg (by omega)]; exact hk, hx⟩
  · have e : fr = tu := by have := hG.2.2.1; omega
    refine (hNew0 w W p pq n fr tu rp full P hb hs hpq hR ⟨hG.1, hG.2.1, e, hG.2.2.2⟩ hfu T hT).mono ?_
    rintro e' w' ⟨h, ck, q, fq, g, bq, bf, rfl, hk, hx⟩
    exact ⟨h, ck, q, fq, g, bq, bf, rfl, by rw [show frL fr tu = [] from if_pos e]; exact hk, hx⟩
/-- What an append onto a row that is none of the heap's leaves of it. -/
theorem Hp.app {w W W1 : World} {h ck q fq p pq g bq bf n : Nat} {fr tu ra rp full : Int} {x : HSt} {va va' : Value} {T : Nat → Prop} (k : Hp w W h ck q fq p pq g bq bf n fr tu ra rp full (fun i => T i ∨ va.ownBlock = some i) x) (hl : ∀ i, va.ownBlock = some i → w.heap.size ≤ i) (hg : W.grownBy W1 va.ownBlock) (hat : va'.ownBlock = va.ownBlock ∨ ∃ g, va'.ownBlock = some g ∧ W.heap.size ≤ g) (hlt : ∀ i, va'.ownBlock = some i → i < W1.heap.size) : Hp w W1 h ck q fq p pq g bq bf n fr tu ra rp full (fun i => T i ∨ va'.ownBlock = some i) x := by
  obtain ⟨vq, vf, k, t⟩ := k
  have y : Only (fun i => va.ownBlock = some i) W W1 := grownOnly hg (fun _ e => e)
  have hE : Ext w W1 := Ext.only k.base y (fun i hi => hl i hi)
  have hEG : EG w W1 fq bf fr tu vf x.lf := EG.only k.ex y hE (fun e => (t fq (.inr e)).2.1 (by simp)) (fun g e e2 => (t g (.inr e2)).2.2.2 e)
  obtain ⟨l1, l2, l3⟩ := k.lts
  refine ⟨vq, vf, k.only y hE (fun i hi => (t i (.inr hi)).2) hEG, ?_⟩
  rintro i (c | c)
  · have := t i (.inl c)
    exact ⟨Nat.lt_of_lt_of_le this.1 y.size, this.2⟩
  · rcases hat with e | ⟨g, e, hgs⟩
    · have := t i (.inr (by rw [← e]; exact c))
      exact ⟨Nat.lt_of_lt_of_le this.1 y.size, this.2⟩
    · obtain rfl : g = i := Option.some.inj (e.symm.trans c)
      exact ⟨hlt g e, fun hm => by have := l1 g hm; omega, fun e2 => by have := l2 g e2; omega, fun e2 => by have := l3 g e2; omega⟩
/-- A row that is new is none of the heap's. -/
theorem Hp.row {w W W1 : World} {h ck q fq p pq g bq bf n : Nat} {fr tu ra rp full : Int} {x : HSt} {va' : Value} {T : Nat → Prop} (k : Hp w W h ck q fq p pq g bq bf n fr tu ra rp full T x) (y : Ext W W1) (h1 : ∀ i, va'.ownBlock = some i → W.heap.size ≤ i ∧ i < W1.heap.size) : Hp w W1 h ck q fq p pq g bq bf n fr tu ra rp full (fun i => T i ∨ va'.ownBlock = some i) x :=
  (k.more y).mono (fun i hi => by rcases hi with c | c; exact .inl c; exact .inr (h1 i c))
/-- The n-th of some, or none. -/
def pickF (zs : List Cap) (n : Int) : Cap := zs.getD ((bits .and .i64 n 4095).toNat % zs.length) ⟨false, 0, 0, 0, 0, 0⟩
set_option maxRecDepth 100000 in
set_option maxHeartbeats 4000000 in
theorem pick_ (W : World) (A : Option Addr) (m ca : Nat) (zs : List Cap) (hm : zs.length = m) (hs : SlAtN W A 6 (zs.map capL)) (hzs : m ≤ 100000) (n : Int) : Calls Tryd.prog 18 #[.slice A m ca, .int .i64 n] W fun e W' => e = .returned (.agg #[.bool (pickF zs n).tag, .int .i64 (pickF zs n).base, .int .i64 (pickF zs n).top, .int .i64 (pickF zs n).at_, .int .i64 (pickF zs n).perms, .int .i64 (pickF zs n).type]) ∧ Ext W W' := by
  obtain ⟨c, hc⟩ : ∃ c, pickF zs n = c := ⟨_, rfl⟩
  rw [hc]
  obtain ⟨a40, a41⟩ := and4095 n
  unfold pickF at hc
  obtain ⟨y, hy⟩ : ∃ y, bits .and .i64 n 4095 = y := ⟨_, rfl⟩
  rw [hy] at hc a40 a41
  by_cases h0 : m = 0
  · subst h0
    obtain rfl : zs = [] := List.eq_nil_of_length_eq_zero hm
    have hz : c = ⟨false, 0, 0, 0, 0, 0⟩ := by rw [← hc]; rfl
    subst hz
    clear hc hs hm a40 a41 hy
    go_enter Tryd.func18, Tryd.ntmps18
    go_wp2
    exact bodyPost_ret (v := .agg #[.bool false, .int .i64 0, .int .i64 0, .int .i64 0, .int .i64 0, .int .i64 0]) (by simp [results, Tryd.results18, go_sem]) rfl ⟨rfl, (by repeat (first | (with_reducible exact Ext.refl _) | (with_reducible refine Ext.undrew ?_) | (with_reducible refine Ext.grow ?_ _) | (with_reducible refine Ext.drew ?_) | (with_reducible refine Ext.drewN ?_ _) | (with_reducible refine Ext.alloc ?_ _) | (with_reducible assumption) | ((with_reducible refine Ext.setCell ?_ ?_ _); rotate_left; (first | exact Nat.le_refl _ | ((try dsimp only); (try simp only [World.size_alloc, grow_size, World.size_setCell]); omega)))))⟩
  · obtain ⟨i, hi⟩ : ∃ i : Nat, y % (m : Int) = (i : Int) := ⟨(y % (m : Int)).toNat, by have := Int.emod_nonneg y (show (m : Int) ≠ 0 by omega); omega⟩
    have hil : i < m := by have := Int.emod_lt_of_pos y (show (0 : Int) < (m : Int) by omega); omega
    have hik : y.toNat % zs.length = i := by
      rw [hm]
      have : ((y.toNat % m : Nat) : Int) = y % (m : Int) := by rw [Int.natCast_emod, Int.toNat_of_nonneg a40]
      omega
    have hz : zs[i]'(by omega) = c := by
      rw [hik] at hc
      rw [← hc]
      simp [List.getD, List.getElem?_eq_getElem (show i < zs.length by omega)]
    obtain ⟨b, o, rfl, hb, hop⟩ := Cap.facts hs (show i < zs.length by omega) c hz
    have hti : y.tmod (m : Int) = (i : Int) := by rw [Int.tmod_eq_emod_of_nonneg a40]; exact hi
    have hm0 : ¬ (m : Int) = 0 := by omega
    have hm1 : ((m : Int) == 0) = false := by simpa using hm0
    have hm2 : ¬ m = 0 := h0
    have hi0 : (0 : Int) ≤ (i : Int) := by omega
    have hi1 : (i : Int) < (m : Int) := by omega
    clear hc hs hik hz
    have c0 : W.cell? ⟨b, o + i * 6, none⟩ = some (.bool c.tag) := hop 0 _ rfl
    have c1 : W.cell? ⟨b, o + i * 6 + 1, none⟩ = some (.int .i64 c.base) := hop 1 _ rfl
    have c2 : W.cell? ⟨b, o + i * 6 + 2, none⟩ = some (.int .i64 c.top) := hop 2 _ rfl
    have c3 : W.cell? ⟨b, o + i * 6 + 3, none⟩ = some (.int .i64 c.at_) := hop 3 _ rfl
    have c4 : W.cell? ⟨b, o + i * 6 + 4, none⟩ = some (.int .i64 c.perms) := hop 4 _ rfl
    have c5 : W.cell? ⟨b, o + i * 6 + 5, none⟩ = some (.int .i64 c.type) := hop 5 _ rfl
    clear hop
    go_enter Tryd.func18, Tryd.ntmps18
    go_wp2
    all_goals exact bodyPost_ret (v := .agg #[.bool c.tag, .int .i64 c.base, .int .i64 c.top, .int .i64 c.at_, .int .i64 c.perms, .int .i64 c.type]) (by simp [results, Tryd.results18, go_sem]) rfl ⟨rfl, (by repeat (first | (with_reducible exact Ext.refl _) | (with_reducible refine Ext.undrew ?_) | (with_reducible refine Ext.grow ?_ _) | (with_reducible refine Ext.drew ?_) | (with_reducible refine Ext.drewN ?_ _) | (with_reducible refine Ext.alloc ?_ _) | (with_reducible assumption) | ((with_reducible refine Ext.setCell ?_ ?_ _); rotate_left; (first | exact Nat.le_refl _ | ((try dsimp only); (try simp only [World.size_alloc, grow_size, World.size_setCell]); omega)))))⟩

end Go.Proofs.YtoeiemeffiiidaaDoor
