/- Layer 17: bytes of the head. -/
import Derived.Test.YtgldlkoohfclpaaImH
namespace Go.Proofs.Ytgldlkoohfclpaa
set_option linter.unusedSimpArgs false
set_option linter.unusedVariables false
open Go.RowKit

def byF (z : Int) : List Value := [.int .u8 z]
theorem by_len (z : Int) : (byF z).length = 1 := rfl
theorem by_one : ∀ z : Int, ∀ u ∈ byF z, u.oneCell' = true := by
  intro d u hu
  simp only [byF, List.mem_cons, List.not_mem_nil, or_false] at hu
  rcases hu with rfl; rfl
theorem info_by : InfoN Try.prog 5 1 1 := infoN_of (by kernel_rfl)
theorem rowF_by (l : List Int) : rowF byF l = l.map (.int .u8) := by
  induction l with
  | nil => rfl
  | cons z l ih => rw [rowF_cons, ih]; rfl
theorem rdB_by {w : World} {A : Option Addr} {l : List Int} (h : RdB w A l) : RdF byF w A l := fun h0 => by
  obtain ⟨b, o, hA, hb, hc⟩ := h h0
  refine ⟨b, o, hA, hb, fun j u hj => ?_⟩
  rw [rowF_by, List.getElem?_map] at hj
  obtain ⟨hlt, hj2⟩ : ∃ h : j < l.length, Value.int .u8 l[j] = u := by
    cases hg : l[j]? with
    | none => rw [hg] at hj; cases hj
    | some z => obtain ⟨h1, h2⟩ := List.getElem?_eq_some_iff.1 hg; rw [hg] at hj; exact ⟨h1, by rw [h2]; simpa using hj⟩
  rw [← hj2]
  exact hc j hlt
theorem by_rdB {w : World} {A : Option Addr} {l : List Int} (h : RdF byF w A l) : RdB w A l := fun h0 => by
  obtain ⟨b, o, hA, hb, hc⟩ := h h0
  refine ⟨b, o, hA, hb, fun j hj => hc j _ ?_⟩
  rw [rowF_by, List.getElem?_map, List.getElem?_eq_getElem hj]
  rfl
def OwnY (w : World) (base : Nat) (v : Value) (l : List Int) : Prop := ownsAt w base 5 1 v l.length (rowF byF l)
theorem OwnY.ext {w w' : World} {base : Nat} {v : Value} {l : List Int} (h : OwnY w base v l) (x : Ext w w') : OwnY w' base v l := ownsAt.ext h x
theorem own_new {w : World} {base : Nat} (cs : Array Value) (e : TypeId) (size n : Nat) (hb : base ≤ w.heap.size) (hc : cs.size = n * size) (hn : n ≤ maxLen) : ownsAt (w.alloc (.cells cs e)) base e size (.slice (some ⟨w.heap.size, 0, none⟩) n n) n cs.toList := by
  refine ⟨by simpa using hc, .inr ⟨w.heap.size, 0, n, cs, by rw [Nat.zero_mul], hb, heap_alloc_new w _, Nat.le_refl _, by omega, .inr (by rw [Nat.zero_add]; exact hc), ?_⟩⟩
  rw [Nat.zero_mul, List.drop_zero]
  exact List.take_of_length_le (by simp [hc])
def twB (n : Int) : List Int := [n / 256 % 256, n % 256]
theorem twB_len (n : Int) : (twB n).length = 2 := rfl
def bitV (b : Bool) : Int := if b then 1 else 0
def hdI (x : Img) : List Int := [83, 90, bitV x.strict, x.heap % 256] ++ twB x.full ++ [(x.comps.length : Int) % 256, (x.links.length : Int) % 256, (x.shares.length : Int) % 256]
def cmB (c : Cmp) : List Int := twB c.bl.length ++ [c.data % 256]
def lkBy (l : Lnk) : List Int := [l.fr % 256, l.to_ % 256] ++ twB l.at_
def shB (s : Shr) : List Int := [s.rd % 256, s.wr_ % 256]
def hdB (x : Img) : List Int := hdI x ++ x.comps.flatMap cmB ++ x.links.flatMap lkBy ++ x.shares.flatMap shB
theorem flat_snoc {α : Type} (f : α → List Int) (l : List α) (z : α) : (l ++ [z]).flatMap f = l.flatMap f ++ f z := by simp
theorem flat_len {α : Type} (f : α → List Int) (n : Nat) (h : ∀ z, (f z).length = n) (l : List α) : (l.flatMap f).length = l.length * n := by
  induction l with
  | nil => simp
  | cons z l ih => rw [List.flatMap_cons, List.length_append, ih, h, List.length_cons, Nat.add_mul]; omega
set_option maxRecDepth 100000 in
set_option maxHeartbeats 4000000 in
theorem two_ (n : Int) (w : World) : Calls Try.prog 63 #[.int .i64 n] w fun e w' => ∃ b, e = .returned (.slice (some ⟨b, 0, none⟩) 2 2) ∧ Hid (RdF byF w' (some ⟨b, 0, none⟩) (twB n)) ∧ Ext w w' := by
  go_enter Try.func63, Try.ntmps63
  go_wp2
  go_ret
  exact ⟨w.heap.size, rfl, hid (RdF.row0 (Row.new w #[.int .u8 (n / 256 % 256), .int .u8 (n % 256)] _)), (Ext.refl _).alloc _⟩
set_option maxRecDepth 100000 in
set_option maxHeartbeats 4000000 in
theorem bit_ (b : Bool) (w : World) : Calls Try.prog 62 #[.bool b] w fun e w' => e = .returned (.int .u8 (bitV b)) ∧ Ext w w' := by
  cases b
  · go_enter Try.func62, Try.ntmps62
    go_wp2
    go_ret
    exact ⟨rfl, (by repeat (first | (with_reducible exact Ext.refl _) | (with_reducible refine Ext.undrew ?_) | (with_reducible refine Ext.grow ?_ _) | (with_reducible refine Ext.drew ?_) | (with_reducible refine Ext.drewN ?_ _) | (with_reducible refine Ext.alloc ?_ _) | (with_reducible assumption) | ((with_reducible refine Ext.setCell ?_ ?_ _); rotate_left; (first | exact Nat.le_refl _ | ((try dsimp only); (try simp only [World.size_alloc, grow_size, World.size_setCell]); omega)))))⟩
  · go_enter Try.func62, Try.ntmps62
    go_wp2
    go_ret
    exact ⟨rfl, (by repeat (first | (with_reducible exact Ext.refl _) | (with_reducible refine Ext.undrew ?_) | (with_reducible refine Ext.grow ?_ _) | (with_reducible refine Ext.drew ?_) | (with_reducible refine Ext.drewN ?_ _) | (with_reducible refine Ext.alloc ?_ _) | (with_reducible assumption) | ((with_reducible refine Ext.setCell ?_ ?_ _); rotate_left; (first | exact Nat.le_refl _ | ((try dsimp only); (try simp only [World.size_alloc, grow_size, World.size_setCell]); omega)))))⟩
structure BX6 (V : World) (p : Nat) (v0 v1 v2 v3 v4 v5 : Value) : Prop where
  lt : p < V.heap.size
  c0 : V.cell? ⟨p, 0, none⟩ = some v0
  c1 : V.cell? ⟨p, 1, none⟩ = some v1
  c2 : V.cell? ⟨p, 2, none⟩ = some v2
  c3 : V.cell? ⟨p, 3, none⟩ = some v3
  c4 : V.cell? ⟨p, 4, none⟩ = some v4
  c5 : V.cell? ⟨p, 5, none⟩ = some v5
theorem BX6.ext {V W : World} {p : Nat} {v0 v1 v2 v3 v4 v5 : Value} (h : BX6 V p v0 v1 v2 v3 v4 v5) (e : Ext V W) : BX6 W p v0 v1 v2 v3 v4 v5 := ⟨Nat.lt_of_lt_of_le h.lt e.size, (e.cells _ _ h.lt).trans h.c0, (e.cells _ _ h.lt).trans h.c1, (e.cells _ _ h.lt).trans h.c2, (e.cells _ _ h.lt).trans h.c3, (e.cells _ _ h.lt).trans h.c4, (e.cells _ _ h.lt).trans h.c5⟩
theorem BX6.only {S : Nat → Prop} {V W : World} {p : Nat} {v0 v1 v2 v3 v4 v5 : Value} (h : BX6 V p v0 v1 v2 v3 v4 v5) (e : Only S V W) (hs : ¬ S p) : BX6 W p v0 v1 v2 v3 v4 v5 := ⟨Nat.lt_of_lt_of_le h.lt e.size, (e.cells _ _ h.lt hs).trans h.c0, (e.cells _ _ h.lt hs).trans h.c1, (e.cells _ _ h.lt hs).trans h.c2, (e.cells _ _ h.lt hs).trans h.c3, (e.cells _ _ h.lt hs).trans h.c4, (e.cells _ _ h.lt hs).trans h.c5⟩
/-- What holds of a world while a row of bytes is made behind a box. -/
structure HdB (w W : World) (p : Nat) (v0 v1 v2 v3 v4 v5 v : Value) (l : List Int) : Prop where
  wp : w.heap.size ≤ p
  ew : Ext w W
  bx : BX6 W p v0 v1 v2 v3 v4 v5
  sz : p + 1 ≤ W.heap.size
  ow : OwnY W (p + 1) v l
theorem HdB.ext {w W W' : World} {p : Nat} {v0 v1 v2 v3 v4 v5 v : Value} {l : List Int} (h : HdB w W p v0 v1 v2 v3 v4 v5 v l) (x : Ext W W') : HdB w W' p v0 v1 v2 v3 v4 v5 v l := ⟨h.wp, h.ew.trans x, h.bx.ext x, Nat.le_trans h.sz x.size, h.ow.ext x⟩
theorem HdB.ne {w W : World} {p : Nat} {v0 v1 v2 v3 v4 v5 v : Value} {l : List Int} (h : HdB w W p v0 v1 v2 v3 v4 v5 v l) : v.ownBlock ≠ some W.heap.size := fun e => by
  have := (h.ow.lt _ e).2
  omega
/-- What a block keeps while a row moves on. -/
def KpE (v : Value) (W : World) (v' : Value) (W' : World) : Prop := ∀ e, v.ownBlock ≠ some e → e < W.heap.size → (∀ o, W'.cell? ⟨e, o, none⟩ = W.cell? ⟨e, o, none⟩) ∧ v'.ownBlock ≠ some e ∧ e < W'.heap.size
theorem KpE.row {v v' : Value} {W W' : World} (h : KpE v W v' W') {e : Nat} {cs : List Value} (hn : v.ownBlock ≠ some e) (hl : e < W.heap.size) (hr : W.rangeAt e 0 cs) : v'.ownBlock ≠ some e ∧ e < W'.heap.size ∧ W'.rangeAt e 0 cs := ⟨(h e hn hl).2.1, (h e hn hl).2.2, fun j u hj => ((h e hn hl).1 _).trans (hr j u hj)⟩
theorem wp_app_hd {w W : World} {p N : Nat} {v0 v1 v2 v3 v4 v5 : Value} {A0 : Option Addr} {c0 : Nat} {l : List Int} {o : Oper} {a : Act} {K : Act → World → Prop} {Q : Exit → Act → World → Prop} (H : HdB w W p v0 v1 v2 v3 v4 v5 (.slice A0 N c0) l) (hN : l.length = N) (s y : Operand)
    (ho : o.op = .call { callee := .builtin .append, args := #[s, y], argTypes := #[27, 27] }) (hs : a.eval s = .slice A0 N c0)
    (A : Option Addr) (k c : Nat) (lm : List Int) (hx : a.eval y = .slice A k c) (hk : lm.length = k) (hr : RdF byF W A lm) (hle : N + k ≤ 10000000)
    (h : ∀ A' c' w', HdB w w' p v0 v1 v2 v3 v4 v5 (.slice A' (N + k) c') (l ++ lm) → KpE (.slice A0 N c0) W (.slice A' (N + k) c') w' → K (a.put o.dst (.slice A' (N + k) c')) w') : o.wp Try.prog a W K Q := by
  subst hN
  refine wp_app_row by_len (by decide) by_one Try.underlying27 info_by s y ho (p + 1) (.slice A0 l.length c0) l.length (rowF byF l) hs H.ow A k c lm hx hk hr (by unfold maxLen; omega) (by omega) H.sz ?_
  intro v' w' h1 h2 h3
  have hon := grownOnly (S := fun i => (Value.slice A0 l.length c0).ownBlock = some i) h2 (fun g e => e)
  have hp : ¬ (Value.slice A0 l.length c0).ownBlock = some p := fun e => by have := (H.ow.lt _ e).1; omega
  obtain ⟨A', c', rfl, _, _⟩ := h1.shape
  refine h A' c' w' ⟨H.wp, Ext.only H.ew hon (fun i hi => by have := (H.ow.lt _ hi).1; have := H.wp; omega), H.bx.only hon hp, Nat.le_trans H.sz hon.size, ?_⟩ (fun e hn hl => ⟨fun o => hon.cells e o hl hn, fun e2 => ?_, Nat.lt_of_lt_of_le hl hon.size⟩)
  · unfold OwnY
    rw [rowF_append, List.length_append, hk]
    exact h1
  · rcases h3 with h3 | ⟨g, h3, h4⟩
    · exact hn (h3 ▸ e2)
    · rw [h3] at e2
      cases e2
      omega
theorem ownsAt.lower {w : World} {b b' : Nat} {e : TypeId} {size n : Nat} {v : Value} {xs : List Value} (h : ownsAt w b e size v n xs) (hb : b' ≤ b) : ownsAt w b' e size v n xs := by
  refine ⟨h.1, ?_⟩
  rcases h.2 with h0 | ⟨g, o, cap, cur, h1, h2, r⟩
  · exact .inl h0
  · exact .inr ⟨g, o, cap, cur, h1, Nat.le_trans hb h2, r⟩
set_option maxRecDepth 100000 in
set_option maxHeartbeats 4000000 in
theorem head_ (x : Img) (w : World) (h : ImgAt w x) (hc : x.comps.length ≤ 1000) (hl : x.links.length ≤ 1000) (hs : x.shares.length ≤ 1000) : Calls Try.prog 32 #[.agg #[.bool x.strict, .int .i64 x.heap, .int .i64 x.full, .slice x.C x.comps.length x.cc, .slice x.L x.links.length x.lc, .slice x.S x.shares.length x.sc]] w fun e w' => ∃ A ca, e = .returned (.slice A (hdB x).length ca) ∧ Hid (OwnY w' w.heap.size (.slice A (hdB x).length ca) (hdB x)) ∧ Hid (Ext w w') := by
  obtain ⟨m, hm⟩ : ∃ y, x.comps.length = y := ⟨_, rfl⟩
  obtain ⟨ml, hml⟩ : ∃ y, x.links.length = y := ⟨_, rfl⟩
  obtain ⟨ms, hms⟩ : ∃ y, x.shares.length = y := ⟨_, rfl⟩
  obtain ⟨Ca, hCa⟩ : ∃ y, x.C = y := ⟨_, rfl⟩
  obtain ⟨La, hLa⟩ : ∃ y, x.L = y := ⟨_, rfl⟩
  obtain ⟨Sa, hSa⟩ : ∃ y, x.S = y := ⟨_, rfl⟩
  have HC := hid (show RdF Cmp.cells w Ca x.comps by rw [← hCa]; exact h.c)
  have HL := hid (show RdF Lnk.cells w La x.links by rw [← hLa]; exact h.l)
  have HS := hid (show RdF Shr.cells w Sa x.shares by rw [← hSa]; exact h.s)
  have HM := hid hm
  have HML := hid hml
  have HMS := hid hms
  have HI := hid (show [83, 90, bitV x.strict, x.heap % 256] ++ twB x.full ++ [(m : Int) % 256, (ml : Int) % 256, (ms : Int) % 256] = hdI x by unfold hdI; rw [hm, hml, hms])
  have HV9 := hid (show hdI x ++ x.comps.flatMap cmB ++ x.links.flatMap lkBy ++ x.shares.flatMap shB = hdB x from rfl)
  rw [hm] at hc
  rw [hml] at hl
  rw [hms] at hs
  rw [hm, hml, hms, hCa, hLa, hSa]
  clear hm hml hms hCa hLa hSa h
  go_enter Try.func32, Try.ntmps32
  go_upto_region 1 with (fail)
  refine wp_gen (fun V => Hid (Ext w V) ∧ Row V w.heap.size 0 [.bool x.strict, .int .i64 x.heap, .int .i64 x.full, .slice Ca m x.cc, .slice La ml x.lc, .slice Sa ms x.sc]) ⟨hid (by repeat (first | (with_reducible exact Ext.refl _) | (with_reducible refine Ext.undrew ?_) | (with_reducible refine Ext.grow ?_ _) | (with_reducible refine Ext.drew ?_) | (with_reducible refine Ext.drewN ?_ _) | (with_reducible refine Ext.alloc ?_ _) | (with_reducible assumption) | ((with_reducible refine Ext.setCell ?_ ?_ _); rotate_left; (first | exact Nat.le_refl _ | ((try dsimp only); (try simp only [World.size_alloc, grow_size, World.size_setCell]); omega))))), Row.new w _ _⟩ ?_
  rintro V ⟨HV, hrow⟩
  obtain ⟨p, hp⟩ : ∃ y, w.heap.size = y := ⟨_, rfl⟩
  rw [hp] at hrow
  have hl0 := hrow.lt
  have b0 := hrow.range 0 _ rfl
  have b1 := hrow.range 1 _ rfl
  have b2 := hrow.range 2 _ rfl
  have b3 := hrow.range 3 _ rfl
  have b4 := hrow.range 4 _ rfl
  have b5 := hrow.range 5 _ rfl
  simp only [Nat.zero_add] at b1 b2 b3 b4 b5
  have HBX := hid (show BX6 V p (.bool x.strict) (.int .i64 x.heap) (.int .i64 x.full) (.slice Ca m x.cc) (.slice La ml x.lc) (.slice Sa ms x.sc) from ⟨hl0, b0, b1, b2, b3, b4, b5⟩)
  have HP := hid hp
  rw [hp]
  clear hrow b2 b3 b4 b5 hp
  refine wp_region_step (.rd 0 (.rd 1 (.rd 3 (.rd 4 (.rd 5 (.ac 2 (.ac 6 (.rd 7 .done)))))))) (by kernel_rfl) (by kernel_rfl) (fun _ _ d _ _ h => by cases d <;> exact h) (by simp only [Ord.map, nthOp, List.append]; rfl) ?_
  intro d0
  have HU0 := hid (Ext.grow (Ext.refl V) d0)
  generalize Go.Proofs.Ytgldlkoohfclpaa.grow V d0 = U0 at HU0 ⊢
  have hbl := Nat.lt_of_lt_of_le hl0 HU0.out.size
  have d0c := (HU0.out.cells _ _ hl0).trans b0
  have d1c := (HU0.out.cells _ _ hl0).trans b1
  refine step_read (by rfl) (fun K hK => ?_)
  go_big_quiet_op
  refine hK _ ?_
  clear hK K
  refine step_read (by rfl) (fun K hK => ?_)
  go_big_quiet_op
  refine hK _ ?_
  clear hK K
  refine step_read (by rfl) (fun K hK => ?_)
  go_big_quiet_op
  refine hK _ ?_
  clear hK K
  refine step_read (by rfl) (fun K hK => ?_)
  go_big_quiet_op
  refine hK _ ?_
  clear hK K
  refine step_read (by rfl) (fun K hK => ?_)
  go_big_quiet_op
  refine hK _ ?_
  clear hK K
  refine step_act (by rfl) (fun K hK => ?_)
  go_wp2_with (go_at_call 62; refine (bit_ x.strict U0).mono ?_; rintro e U1 ⟨rfl, hx⟩)
  refine ⟨_, hx, Ext.refl _, ?_⟩
  have HU1 := hid (HU0.out.trans hx)
  have hxa2 := hx
  clear hx
  refine step_act (by rfl) (fun K hK => ?_)
  go_wp2_with fail
  refine ⟨_, (Ext.refl _).alloc _, Ext.refl _, ?_⟩
  refine step_read (by rfl) (fun K hK => ?_)
  go_big_quiet_op
  refine hK _ ?_
  clear hK K
  refine step_nil ?_
  go_upto_region 2 with (fail)
  refine wp_gen (fun W => Hid (HdB w W p (.bool x.strict) (.int .i64 x.heap) (.int .i64 x.full) (.slice Ca m x.cc) (.slice La ml x.lc) (.slice Sa ms x.sc) (.slice (some ⟨U1.heap.size, 0, none⟩) 4 4) [83, 90, bitV x.strict, x.heap % 256])) (hid ?_) ?_
  · have hus := HU1.out.size
    have hxx := HU1.out.trans ((Ext.refl _).alloc (.cells #[.int .u8 83, .int .u8 90, .int .u8 (bitV x.strict), .int .u8 (x.heap % 256)] 5))
    exact ⟨by have := HP.out; omega, HV.out.trans hxx, HBX.out.ext hxx, by rw [World.size_alloc]; omega, own_new #[.int .u8 83, .int .u8 90, .int .u8 (bitV x.strict), .int .u8 (x.heap % 256)] _ 1 4 (by omega) rfl (by decide)⟩
  rintro W1 HDB
  clear HV HBX hl0 b0 b1
  have b2 := HDB.out.bx.c2
  have hl0 := HDB.out.bx.lt
  go_wp2_with fail
  refine (two_ x.full W1).mono ?_
  rintro e W2 ⟨tb, rfl, HTB, hx⟩
  replace HDB := hid (HDB.out.ext hx)
  clear hx b2 hl0
  go_upto_region 3 with (at_builtin; refine wpList_plain rfl fun K hK => ?_; go_loud (refine wp_app_hd HDB.out rfl (.tmp 17) (.tmp 20) rfl rfl _ 2 _ (twB x.full) rfl (by rfl) HTB.out (by omega) ?_); intro A6 c6 w6 hd6 hk6; refine hK _ _ ?_; clear hK K)
  replace HDB := hid hd6
  clear HTB hd6 hk6
  have b3 := HDB.out.bx.c3
  have b4 := HDB.out.bx.c4
  have b5 := HDB.out.bx.c5
  have hl0 := HDB.out.bx.lt
  go_upto_region 4 with (at_builtin; refine wpList_plain rfl fun K hK => ?_; go_loud (refine wp_app_hd (HDB.out.ext ((Ext.refl _).alloc _)) (by simp [twB_len]) (.tmp 22) (.tmp 35) rfl rfl _ 3 _ [(m : Int) % 256, (ml : Int) % 256, (ms : Int) % 256] rfl (by rfl) (RdF.row0 (Row.new w6 #[.int .u8 ((m : Int) % 256), .int .u8 ((ml : Int) % 256), .int .u8 ((ms : Int) % 256)] _)) (by omega) ?_); intro A6 c6 w6 hd6 hk6; refine hK _ _ ?_; clear hK K)
  replace HDB := hid hd6
  clear hd6 hk6 b3 b4 b5 hl0
  rw [HI.out] at HDB
  obtain ⟨PRE1, hPRE⟩ : ∃ y, hdI x = y := ⟨_, rfl⟩
  have HPL1 := hid (show PRE1.length = 9 by rw [← hPRE]; rfl)
  have HNB1 := hid (Nat.le_refl 9)
  rw [hPRE] at HDB HV9
  clear hPRE HI
  have b3 := HDB.out.bx.c3
  have hl0 := HDB.out.bx.lt
  go_wp2
  clear b3 hl0
  go_loopw [3, 40] (fun v i wr => ∃ (k N : Nat) (A : Option Addr) (c : Nat), k ≤ m ∧ i = .int .i64 k ∧ v = .slice A N c ∧ Hid (N = 9 + 3 * k) ∧ Hid (HdB w wr p (.bool x.strict) (.int .i64 x.heap) (.int .i64 x.full) (.slice Ca m x.cc) (.slice La ml x.lc) (.slice Sa ms x.sc) (.slice A N c) (PRE1 ++ (x.comps.take k).flatMap cmB))) (fun _ i _ => m - (intOf i).toNat)
  case atStart => exact ⟨0, _, _, _, Nat.zero_le _, rfl, rfl, hid (Nat.add_zero _).symm, hid (by rw [List.take_zero, List.flatMap_nil, List.append_nil]; exact HDB.out)⟩
  case round =>
    clear HDB
    obtain ⟨k, N, A, c, hk, rfl, rfl, HN, HDB⟩ := hrel
    by_cases hlt : k < m
    · have hk1 : (k : Int) < (m : Int) := by omega
      have hk0 : (0 : Int) ≤ (k : Int) := by omega
      have hkl : k < x.comps.length := by rw [HM.out]; exact hlt
      obtain ⟨d, hd⟩ : ∃ d, x.comps[k] = d := ⟨_, rfl⟩
      have HT := hid (show (x.comps.take (k + 1)).flatMap cmB = (x.comps.take k).flatMap cmB ++ cmB d by rw [List.take_succ_eq_append_getElem hkl, hd, flat_snoc])
      have HLN := hid (show (PRE1 ++ (x.comps.take k).flatMap cmB).length = N by rw [List.length_append, flat_len _ 3 (fun _ => rfl), List.length_take, HN.out, HPL1.out]; omega)
      obtain ⟨b', o', eA, hb1, hrg⟩ := (HC.out.ext HDB.out.ew).elem cmp_len hkl d hd
      have e0 := hrg 0 _ rfl
      have e1 := hrg 1 _ rfl
      simp only [Nat.add_zero] at e0
      subst eA
      clear hrg hd
      obtain ⟨L0, hL0⟩ : ∃ y, PRE1 ++ (x.comps.take k).flatMap cmB = y := ⟨_, rfl⟩
      rw [hL0] at HDB HLN
      have HL0 := hid hL0
      clear hL0
      obtain ⟨dl, hdl⟩ : ∃ y, d.bl.length = y := ⟨_, rfl⟩
      rw [hdl] at e0
      have HDL := hid hdl
      clear hdl
      have HNE := hid HDB.out.ne
      go_upto_region 7 with (fail)
      refine wp_gen (fun W => Hid (HdB w W p (.bool x.strict) (.int .i64 x.heap) (.int .i64 x.full) (.slice (some ⟨b', o', none⟩) m x.cc) (.slice La ml x.lc) (.slice Sa ms x.sc) (.slice A N c) L0) ∧ wr.heap.size < W.heap.size ∧ W.cell? ⟨wr.heap.size, 0, none⟩ = some (.slice d.A dl d.ca) ∧ W.cell? ⟨wr.heap.size, 1, none⟩ = some (.int .i64 d.data)) ⟨hid (HDB.out.ext ((Ext.refl _).alloc _)), by simp, by simp [go_sem], by simp [go_sem]⟩ ?_
      clear HDB
      rintro W1 ⟨HDB, hgl, hg0, hg1⟩
      obtain ⟨g, hg⟩ : ∃ y, wr.heap.size = y := ⟨_, rfl⟩
      rw [hg] at hgl hg0 hg1 HNE ⊢
      clear hg e0 e1 hb1
      go_wp2_with fail
      refine (two_ (dl : Int) W1).mono ?_
      rintro e W2 ⟨tb, rfl, HTB, hx⟩
      replace HDB := hid (HDB.out.ext hx)
      have hg1 := (hx.cells g 1 hgl).trans hg1
      clear hg0
      have hgl := Nat.lt_of_lt_of_le hgl hx.size
      clear hx
      go_upto_region 8 with (at_builtin; refine wpList_plain rfl fun K hK => ?_; go_loud (refine wp_app_hd HDB.out HLN.out (.tmp 44) (.tmp 48) rfl rfl _ 2 _ (twB (dl : Int)) rfl (by rfl) HTB.out (by have := HN.out; have := HNB1.out; omega) ?_); intro A6 c6 w6 hd6 hk6; refine hK _ _ ?_; clear hK K)
      replace HDB := hid hd6
      replace hg1 := ((hk6 g HNE.out hgl).1 1).trans hg1
      replace hgl := (hk6 g HNE.out hgl).2.2
      clear HTB hd6 hk6
      go_upto_region 9 with (at_builtin; refine wpList_plain rfl fun K hK => ?_; go_loud (refine wp_app_hd (HDB.out.ext ((Ext.refl _).alloc _)) (by rw [List.length_append, HLN.out]; rfl) (.tmp 50) (.tmp 54) rfl rfl _ 1 _ [d.data % 256] rfl (by rfl) (RdF.row0 (Row.new w6 #[.int .u8 (d.data % 256)] _)) (by have := HN.out; have := HNB1.out; omega) ?_); intro A6 c6 w6 hd6 hk6; refine hK _ _ ?_; clear hK K)
      replace HDB := hid hd6
      clear hd6 hk6
      go_wp2
      go_roundw
      case rel => exact ⟨k + 1, _, _, _, by omega, by go_num, rfl, hid (by have := HN.out; omega), hid (by rw [HT.out, ← List.append_assoc, HL0.out, cmB, HDL.out]; simpa only [cmB, List.append_assoc, List.cons_append, List.nil_append] using HDB.out)⟩
      case measure => simp [intOf]; omega
    · obtain rfl : m = k := by omega
      have hk1 : ¬ (m : Int) < (m : Int) := by omega
      have HLN := hid (show (PRE1 ++ (x.comps.take m).flatMap cmB).length = N by rw [List.length_append, flat_len _ 3 (fun _ => rfl), List.length_take, HN.out, HPL1.out, HM.out]; omega)
      rw [show x.comps.take m = x.comps from List.take_of_length_le (by rw [HM.out]; exact Nat.le_refl _)] at HDB HLN
      have HNN := hid (show N ≤ 4000 by have := HN.out; have := HNB1.out; omega)
      obtain ⟨PRE2, hPRE⟩ : ∃ y, PRE1 ++ x.comps.flatMap cmB = y := ⟨_, rfl⟩
      obtain ⟨NP2, hNP⟩ : ∃ y, N = y := ⟨_, rfl⟩
      rw [hPRE] at HDB HLN
      rw [hNP] at HDB HLN HNN ⊢
      have HPR2 := hid hPRE
      have HPL2 := HLN
      have HNB2 := HNN
      clear hPRE hNP HLN HNN HN
      have b4 := HDB.out.bx.c4
      have hl0 := HDB.out.bx.lt
      go_wp2
      clear b4 hl0
      go_loopw [3, 60] (fun v i wr => ∃ (k N : Nat) (A : Option Addr) (c : Nat), k ≤ ml ∧ i = .int .i64 k ∧ v = .slice A N c ∧ Hid (N = NP2 + 4 * k) ∧ Hid (HdB w wr p (.bool x.strict) (.int .i64 x.heap) (.int .i64 x.full) (.slice Ca m x.cc) (.slice La ml x.lc) (.slice Sa ms x.sc) (.slice A N c) (PRE2 ++ (x.links.take k).flatMap lkBy))) (fun _ i _ => ml - (intOf i).toNat)
      case atStart => exact ⟨0, _, _, _, Nat.zero_le _, rfl, rfl, hid (Nat.add_zero _).symm, hid (by rw [List.take_zero, List.flatMap_nil, List.append_nil]; exact HDB.out)⟩
      case round =>
        clear HDB
        obtain ⟨k, N, A, c, hk, rfl, rfl, HN, HDB⟩ := hrel
        by_cases hlt : k < ml
        · have hk1 : (k : Int) < (ml : Int) := by omega
          have hk0 : (0 : Int) ≤ (k : Int) := by omega
          have hkl : k < x.links.length := by rw [HML.out]; exact hlt
          obtain ⟨d, hd⟩ : ∃ d, x.links[k] = d := ⟨_, rfl⟩
          have HT := hid (show (x.links.take (k + 1)).flatMap lkBy = (x.links.take k).flatMap lkBy ++ lkBy d by rw [List.take_succ_eq_append_getElem hkl, hd, flat_snoc])
          have HLN := hid (show (PRE2 ++ (x.links.take k).flatMap lkBy).length = N by rw [List.length_append, flat_len _ 4 (fun _ => rfl), List.length_take, HN.out, HPL2.out]; omega)
          obtain ⟨b', o', eA, hb1, hrg⟩ := (HL.out.ext HDB.out.ew).elem lnk_len hkl d hd
          have e0 := hrg 0 _ rfl
          have e1 := hrg 1 _ rfl
          have e2 := hrg 2 _ rfl
          simp only [Nat.add_zero] at e0
          subst eA
          clear hrg hd
          obtain ⟨L0, hL0⟩ : ∃ y, PRE2 ++ (x.links.take k).flatMap lkBy = y := ⟨_, rfl⟩
          rw [hL0] at HDB HLN
          have HL0 := hid hL0
          clear hL0
          
          
          
          
          have HNE := hid HDB.out.ne
          go_upto_region 13 with (fail)
          refine wp_gen (fun W => Hid (HdB w W p (.bool x.strict) (.int .i64 x.heap) (.int .i64 x.full) (.slice Ca m x.cc) (.slice (some ⟨b', o', none⟩) ml x.lc) (.slice Sa ms x.sc) (.slice A N c) L0) ∧ wr.heap.size < W.heap.size ∧ W.cell? ⟨wr.heap.size, 0, none⟩ = some (.int .i64 d.fr) ∧ W.cell? ⟨wr.heap.size, 1, none⟩ = some (.int .i64 d.to_) ∧ W.cell? ⟨wr.heap.size, 2, none⟩ = some (.int .i64 d.at_)) ⟨hid (HDB.out.ext ((Ext.refl _).alloc _)), by simp, by simp [go_sem], by simp [go_sem], by simp [go_sem]⟩ ?_
          clear HDB
          rintro W1 ⟨HDB, hgl, hg0, hg1, hg2⟩
          obtain ⟨g, hg⟩ : ∃ y, wr.heap.size = y := ⟨_, rfl⟩
          rw [hg] at hgl hg0 hg1 hg2 HNE ⊢
          clear hg e0 e1 e2 hb1
          go_upto_region 14 with (at_builtin; refine wpList_plain rfl fun K hK => ?_; go_loud (refine wp_app_hd (HDB.out.ext ((Ext.refl _).alloc _)) HLN.out (.tmp 64) (.tmp 71) rfl rfl _ 2 _ [d.fr % 256, d.to_ % 256] rfl (by rfl) (RdF.row0 (Row.new W1 #[.int .u8 (d.fr % 256), .int .u8 (d.to_ % 256)] _)) (by have := HN.out; have := HNB2.out; omega) ?_); intro A6 c6 w6 hd6 hk6; refine hK _ _ ?_; clear hK K)
          replace HDB := hid hd6
          replace hg2 := ((hk6 g HNE.out (by rw [World.size_alloc]; omega)).1 2).trans ((((Ext.refl W1).alloc _).cells g 2 hgl).trans hg2)
          replace hgl := (hk6 g HNE.out (by rw [World.size_alloc]; omega)).2.2
          clear hg0 hg1
          clear hd6 hk6
          go_wp2_with fail
          refine (two_ d.at_ w6).mono ?_
          rintro e W2 ⟨tb, rfl, HTB, hx⟩
          replace HDB := hid (HDB.out.ext hx)
          have hgl := Nat.lt_of_lt_of_le hgl hx.size
          clear hx
          go_upto_region 15 with (at_builtin; refine wpList_plain rfl fun K hK => ?_; go_loud (refine wp_app_hd HDB.out (by rw [List.length_append, HLN.out]; rfl) (.tmp 73) (.tmp 76) rfl rfl _ 2 _ (twB d.at_) rfl (by rfl) HTB.out (by have := HN.out; have := HNB2.out; omega) ?_); intro A6 c6 w6 hd6 hk6; refine hK _ _ ?_; clear hK K)
          replace HDB := hid hd6
          clear HTB hd6 hk6
          go_wp2
          go_roundw
          case rel => exact ⟨k + 1, _, _, _, by omega, by go_num, rfl, hid (by have := HN.out; omega), hid (by rw [HT.out, ← List.append_assoc, HL0.out]; simpa only [lkBy, List.append_assoc, List.cons_append, List.nil_append] using HDB.out)⟩
          case measure => simp [intOf]; omega
        · obtain rfl : ml = k := by omega
          have hk1 : ¬ (ml : Int) < (ml : Int) := by omega
          have HLN := hid (show (PRE2 ++ (x.links.take ml).flatMap lkBy).length = N by rw [List.length_append, flat_len _ 4 (fun _ => rfl), List.length_take, HN.out, HPL2.out, HML.out]; omega)
          rw [show x.links.take ml = x.links from List.take_of_length_le (by rw [HML.out]; exact Nat.le_refl _)] at HDB HLN
          have HNN := hid (show N ≤ 9000 by have := HN.out; have := HNB2.out; omega)
          obtain ⟨PRE3, hPRE⟩ : ∃ y, PRE2 ++ x.links.flatMap lkBy = y := ⟨_, rfl⟩
          obtain ⟨NP3, hNP⟩ : ∃ y, N = y := ⟨_, rfl⟩
          rw [hPRE] at HDB HLN
          rw [hNP] at HDB HLN HNN ⊢
          have HPR3 := hid hPRE
          have HPL3 := HLN
          have HNB3 := HNN
          clear hPRE hNP HLN HNN HN
          have b5 := HDB.out.bx.c5
          have hl0 := HDB.out.bx.lt
          go_wp2
          clear b5 hl0
          go_loopw [3, 82] (fun v i wr => ∃ (k N : Nat) (A : Option Addr) (c : Nat), k ≤ ms ∧ i = .int .i64 k ∧ v = .slice A N c ∧ Hid (N = NP3 + 2 * k) ∧ Hid (HdB w wr p (.bool x.strict) (.int .i64 x.heap) (.int .i64 x.full) (.slice Ca m x.cc) (.slice La ml x.lc) (.slice Sa ms x.sc) (.slice A N c) (PRE3 ++ (x.shares.take k).flatMap shB))) (fun _ i _ => ms - (intOf i).toNat)
          case atStart => exact ⟨0, _, _, _, Nat.zero_le _, rfl, rfl, hid (Nat.add_zero _).symm, hid (by rw [List.take_zero, List.flatMap_nil, List.append_nil]; exact HDB.out)⟩
          case round =>
            clear HDB
            obtain ⟨k, N, A, c, hk, rfl, rfl, HN, HDB⟩ := hrel
            by_cases hlt : k < ms
            · have hk1 : (k : Int) < (ms : Int) := by omega
              have hk0 : (0 : Int) ≤ (k : Int) := by omega
              have hkl : k < x.shares.length := by rw [HMS.out]; exact hlt
              obtain ⟨d, hd⟩ : ∃ d, x.shares[k] = d := ⟨_, rfl⟩
              have HT := hid (show (x.shares.take (k + 1)).flatMap shB = (x.shares.take k).flatMap shB ++ shB d by rw [List.take_succ_eq_append_getElem hkl, hd, flat_snoc])
              have HLN := hid (show (PRE3 ++ (x.shares.take k).flatMap shB).length = N by rw [List.length_append, flat_len _ 2 (fun _ => rfl), List.length_take, HN.out, HPL3.out]; omega)
              obtain ⟨b', o', eA, hb1, hrg⟩ := (HS.out.ext HDB.out.ew).elem shr_len hkl d hd
              have e0 := hrg 0 _ rfl
              have e1 := hrg 1 _ rfl
              simp only [Nat.add_zero] at e0
              subst eA
              clear hrg hd
              obtain ⟨L0, hL0⟩ : ∃ y, PRE3 ++ (x.shares.take k).flatMap shB = y := ⟨_, rfl⟩
              rw [hL0] at HDB HLN
              have HL0 := hid hL0
              clear hL0
              
              
              
              
              have HNE := hid HDB.out.ne
              go_upto_region 19 with (fail)
              refine wp_gen (fun W => Hid (HdB w W p (.bool x.strict) (.int .i64 x.heap) (.int .i64 x.full) (.slice Ca m x.cc) (.slice La ml x.lc) (.slice (some ⟨b', o', none⟩) ms x.sc) (.slice A N c) L0) ∧ wr.heap.size < W.heap.size ∧ W.cell? ⟨wr.heap.size, 0, none⟩ = some (.int .i64 d.rd) ∧ W.cell? ⟨wr.heap.size, 1, none⟩ = some (.int .i64 d.wr_)) ⟨hid (HDB.out.ext ((Ext.refl _).alloc _)), by simp, by simp [go_sem], by simp [go_sem]⟩ ?_
              clear HDB
              rintro W1 ⟨HDB, hgl, hg0, hg1⟩
              obtain ⟨g, hg⟩ : ∃ y, wr.heap.size = y := ⟨_, rfl⟩
              rw [hg] at hgl hg0 hg1 HNE ⊢
              clear hg e0 e1 hb1
              go_upto_region 20 with (at_builtin; refine wpList_plain rfl fun K hK => ?_; go_loud (refine wp_app_hd (HDB.out.ext ((Ext.refl _).alloc _)) HLN.out (.tmp 86) (.tmp 93) rfl rfl _ 2 _ [d.rd % 256, d.wr_ % 256] rfl (by rfl) (RdF.row0 (Row.new W1 #[.int .u8 (d.rd % 256), .int .u8 (d.wr_ % 256)] _)) (by have := HN.out; have := HNB3.out; omega) ?_); intro A6 c6 w6 hd6 hk6; refine hK _ _ ?_; clear hK K)
              replace HDB := hid hd6
              clear hd6 hk6
              go_wp2
              go_roundw
              case rel => exact ⟨k + 1, _, _, _, by omega, by go_num, rfl, hid (by have := HN.out; omega), hid (by rw [HT.out, ← List.append_assoc, HL0.out]; simpa only [shB, List.append_assoc, List.cons_append, List.nil_append] using HDB.out)⟩
              case measure => simp [intOf]; omega
            · obtain rfl : ms = k := by omega
              have hk1 : ¬ (ms : Int) < (ms : Int) := by omega
              have HLN := hid (show (PRE3 ++ (x.shares.take ms).flatMap shB).length = N by rw [List.length_append, flat_len _ 2 (fun _ => rfl), List.length_take, HN.out, HPL3.out, HMS.out]; omega)
              rw [show x.shares.take ms = x.shares from List.take_of_length_le (by rw [HMS.out]; exact Nat.le_refl _)] at HDB HLN
              have HNN := hid (show N ≤ 12000 by have := HN.out; have := HNB3.out; omega)
              have HEQ := hid (show PRE3 ++ x.shares.flatMap shB = hdB x by rw [← HPR3.out, ← HPR2.out, HV9.out])
              rw [HEQ.out] at HDB HLN
              go_wp2
              go_ret
              exact ⟨A, c, by rw [HLN.out]; rfl, hid (by rw [HLN.out]; exact HDB.out.ow.lower (by have := HDB.out.wp; omega)), hid HDB.out.ew⟩

end Go.Proofs.Ytgldlkoohfclpaa
