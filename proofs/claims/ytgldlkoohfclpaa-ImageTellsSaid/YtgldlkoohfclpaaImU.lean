/- Layer 17: Get: values, the bundle. -/
import Derived.Test.YtgldlkoohfclpaaImT
import Derived.Test.YtgldlkoohfclpaaImP
import Derived.Laws.OwnMore
import Derived.Laws.IdiomCopy
namespace Go.Proofs.Ytgldlkoohfclpaa
set_option linter.unusedSimpArgs false
set_option linter.unusedVariables false
open Go.RowKit

open Go.Deep
theorem size_setCells (b : Nat) : ∀ (vs : List Value) (o : Nat) (w : World), (w.setCells b o vs).heap.size = w.heap.size
  | [], _, _ => rfl
  | v :: r, o, w => by rw [World.setCells, size_setCells b r, World.size_setCell]
theorem Row.put {w : World} {b o : Nat} {vs us : List Value} (h : Row w b o vs) (hl : us.length = vs.length) : Row (w.setCells b o us) b o us :=
  ⟨by rw [size_setCells]; exact h.lt, World.rangeAt_setCells_same w b o us (by rw [hl]; exact h.there), fun j hj => by rw [World.frozen?_setCells]; exact h.free j (by omega)⟩
theorem Row.setCell {w : World} {b o j : Nat} {vs : List Value} (h : Row w b o vs) (hj : j < vs.length) (u : Value) : Row (w.setCell ⟨b, o + j, none⟩ u) b o (vs.set j u) := by
  have hp := (Row.put (vs := vs) (us := vs.set j u) h (by simp))
  refine ⟨by simpa using h.lt, fun i v hi => ?_, fun i hi => ?_⟩
  · by_cases e : i = j
    · subst e
      rw [List.getElem?_set_self hj] at hi
      have h1 := h.at_ i vs[i] (by simp)
      obtain rfl : u = v := by simpa using hi
      simp [go_sem, h1]
    · rw [List.getElem?_set_ne (fun h => e h.symm)] at hi
      have h1 := h.at_ i v hi
      have : ¬ o + i = o + j := by omega
      simp [go_sem, h1, this]
  · have h1 := h.free i (by simpa using hi)
    simp [go_sem, h1]
structure Made (w : World) (g n : Nat) (z : Value) : Prop where
  lt : g < w.heap.size
  at_ : ∀ k, k < n → w.cell? ⟨g, k, none⟩ = some z ∧ w.frozen? ⟨g, k, none⟩ = false
theorem made_of {w : World} {base g m : Nat} {e : TypeId} {z : Value} (h : w.ownsRow base e 1 (.slice (some ⟨g, 0, none⟩) m m) m (madeCells #[z] m).toList) : Made w g m z := by
  rcases h.2 with ⟨h0, _⟩ | ⟨g', cap, cur, hv, _, hg, _, _, hs, ht⟩
  · injection h0 with e; cases e
  · injection hv with e1 e2 e3
    injection e1 with e1
    injection e1 with e1
    subst e1
    refine ⟨(Array.getElem?_eq_some_iff.1 hg).1, fun k hk => ⟨?_, by simp [World.frozen?, hg]⟩⟩
    rw [h.cellAt k (by omega)]
    rw [toList_madeCells_one]
    simp [hk]
theorem wp_make1 {P : Program} {o : Oper} {a : Act} {w : World} {K : Act → World → Prop} {Q : Exit → Act → World → Prop} (t : TypeId) (l c : Operand) (hop : o.op = Op.makeSlice t l c) (e : TypeId) (i : TypeInfo) (z : Value) (h1 : P.underlying t = some (.slice e)) (h2 : P.info? e = some i) (h3 : i.zero = some z) (hz : z.cells = #[z]) (h4 : i.size = 1)
    (L : Int) (n : Nat) (hl : a.eval l = .int .i64 L) (hc : a.eval c = .int .i64 L) (hL : L = (n : Int)) (b2 : i.bytes * n ≤ 281474976710656) (b3 : n ≤ maxLen)
    (hK : ∀ w', Ext w w' → Made w' w.heap.size n z → K (a.put o.dst (.slice (some ⟨w.heap.size, 0, none⟩) n n)) w') : o.wp P a w K Q := by
  obtain ⟨w', hrun, r1, r2⟩ := run_make_full (P := P) w w.heap.size t e i z 1 h1 h2 h3 h4 .i64 .i64 n b2 b3 (Nat.le_refl _)
  subst hL
  rw [hz, Nat.mul_one] at r1
  unfold Oper.wp
  simp [execOp, hop, hl, hc, hrun, Result.andThen]
  exact hK _ ⟨r2.os, r2.tape, r2.output, r2.size, fun k hk => r2.block k hk (by simp)⟩ (made_of r1)
theorem rowF_set {α : Type} {f : α → List Value} {n : Nat} (hf : ∀ z, (f z).length = n) : ∀ (zs : List α) (i j : Nat) (d' : α) (v : Value) (hi : i < zs.length), j < n → f d' = (f zs[i]).set j v → (rowF f zs).set (i * n + j) v = rowF f (zs.set i d')
  | [], i, j, d', v, hi, _, _ => absurd hi (Nat.not_lt_zero _)
  | z :: zs, 0, j, d', v, hi, hj, hd => by
    rw [List.set_cons_zero, rowF_cons, rowF_cons, hd, Nat.zero_mul, Nat.zero_add, List.set_append_left _ _ (by rw [hf]; exact hj)]
    rfl
  | z :: zs, i + 1, j, d', v, hi, hj, hd => by
    rw [List.set_cons_succ, rowF_cons, rowF_cons, List.set_append_right _ _ (by rw [hf, Nat.succ_mul]; omega), hf, show (i + 1) * n + j - n = i * n + j by rw [Nat.succ_mul]; omega, rowF_set hf zs i j d' v (by simpa using hi) hj hd]
theorem rowF_set_same {α : Type} {f : α → List Value} : ∀ (zs : List α) (i : Nat) (d' : α) (hi : i < zs.length), f d' = f zs[i] → rowF f (zs.set i d') = rowF f zs
  | [], i, d', hi, _ => absurd hi (Nat.not_lt_zero _)
  | z :: zs, 0, d', hi, hd => by rw [List.set_cons_zero, rowF_cons, rowF_cons, hd]; rfl
  | z :: zs, i + 1, d', hi, hd => by rw [List.set_cons_succ, rowF_cons, rowF_cons, rowF_set_same zs i d' (by simpa using hi) hd]
/-- A compartment's values, without addresses. -/
def Cmp.strip (d : Cmp) : Cmp := ⟨none, 0, d.bl, d.data⟩
def Img.strip (x : Img) : Img := ⟨x.strict, x.heap, x.full, none, 0, x.comps.map Cmp.strip, none, 0, x.links, none, 0, x.shares⟩
theorem cmOk_strip (st : Bool) (d : Cmp) : cmOk st d.strip = cmOk st d := rfl
theorem lenC_strip (cs : List Cmp) (i : Int) : lenC (cs.map Cmp.strip) i = lenC cs i := by
  unfold lenC
  rw [List.getElem?_map]
  cases cs[i.toNat]? <;> rfl
theorem rightV_strip (x : Img) : rightV x.strip = rightV x := by
  have h1 : n5 x.strip = n5 x := by
    unfold n5
    rw [show x.strip.comps.length = x.comps.length by simp [Img.strip]]
    rfl
  have h2 : x.strip.comps.all (cmOk x.strip.strict) = x.comps.all (cmOk x.strict) := by
    show (x.comps.map Cmp.strip).all (cmOk x.strict) = _
    rw [List.all_map]
    rfl
  have h3 : lnkOk x.strip = lnkOk x := by
    funext l
    unfold lnkOk lkB
    rw [show x.strip.comps.length = x.comps.length by simp [Img.strip], show lenC x.strip.comps l.to_ = lenC x.comps l.to_ from lenC_strip _ _]
    rfl
  unfold rightV
  rw [h1, h2, h3, show x.strip.comps.length = x.comps.length by simp [Img.strip]]
  rfl
theorem flatMap_strip (cs : List Cmp) (f : Cmp → List Int) (hf : ∀ d, f d.strip = f d) : (cs.map Cmp.strip).flatMap f = cs.flatMap f := by
  induction cs with
  | nil => rfl
  | cons d cs ih => rw [List.map_cons, List.flatMap_cons, List.flatMap_cons, ih, hf]
theorem hdB_strip (x : Img) : hdB x.strip = hdB x := by
  unfold hdB hdI
  rw [show x.strip.comps.length = x.comps.length by simp [Img.strip], show x.strip.comps.flatMap cmB = x.comps.flatMap cmB from flatMap_strip _ _ (fun _ => rfl)]
  rfl
theorem putV_strip (x : Img) : putV x.strip = putV x := by
  unfold putV
  rw [rightV_strip, hdB_strip, show x.strip.comps.flatMap (·.bl) = x.comps.flatMap (·.bl) from flatMap_strip _ _ (fun _ => rfl)]
/-- The lengths of the codes, as numbers. -/
def lnN (bl : List Int) (i : Nat) : Nat := (ln0 bl i).toNat
theorem lnN_eq {bl : List Int} (hb : byteL bl) (i : Nat) : ln0 bl i = (lnN bl i : Int) ∧ lnN bl i ≤ 65535 := by
  have h1 := atB_byte hb (9 + 3 * i)
  have h2 := atB_byte hb (9 + 3 * i + 1)
  have e : ln0 bl i = atB bl (9 + 3 * i) * 256 + atB bl (9 + 3 * i + 1) := numB_two bl _
  unfold lnN
  omega
def gSum (bl : List Int) : Nat → Nat
  | 0 => 0
  | n + 1 => gSum bl n + lnN bl n
theorem gSum_le {bl : List Int} (hb : byteL bl) : ∀ n, gSum bl n ≤ 65535 * n
  | 0 => Nat.le_refl _
  | n + 1 => by have := gSum_le hb n; have := (lnN_eq hb n).2; show gSum bl n + lnN bl n ≤ _; omega
theorem gSum_mono (bl : List Int) {m n : Nat} (h : m ≤ n) : gSum bl m ≤ gSum bl n := by
  induction h with
  | refl => exact Nat.le_refl _
  | step _ ih => exact Nat.le_trans ih (Nat.le_add_right _ _)
def gFrom (bl : List Int) : Nat := 9 + 3 * hN bl 6 + 4 * hN bl 7 + 2 * hN bl 8
def cmZ (bl : List Int) (i : Nat) : Cmp := ⟨none, 0, List.replicate (lnN bl i) 0, numB bl (9 + 3 * i + 2) 1⟩
def cmC (bl : List Int) (i : Nat) : Cmp := ⟨none, 0, (bl.drop (gFrom bl + gSum bl i)).take (lnN bl i), numB bl (9 + 3 * i + 2) 1⟩
def gImg (cm : Nat → Cmp) (bl : List Int) : Img := ⟨numB bl 2 1 == 1, numB bl 3 1, numB bl 4 2, none, 0, (List.range (hN bl 6)).map cm, none, 0, (List.range (hN bl 7)).map (lk0 bl (9 + 3 * hN bl 6)), none, 0, (List.range (hN bl 8)).map (sh0 bl (9 + 3 * hN bl 6 + 4 * hN bl 7))⟩
def zImg : Img := ⟨false, 0, 0, none, 0, [], none, 0, [], none, 0, []⟩
def gErr (bl : List Int) : Int :=
  if gFrom bl + gSum bl (hN bl 6) ≠ bl.length then 1
  else if rightV (gImg (cmZ bl) bl) = false ∨ hdB (gImg (cmZ bl) bl) ≠ bl.take (gFrom bl) then 1
  else if rightV (gImg (cmC bl) bl) = false then 151 else 0
theorem str_beq {l m : List Int} (hl : byteL l) (hm : byteL m) : ((strOf l).toList == (strOf m).toList) = decide (l = m) := by
  rw [Bool.eq_iff_iff, beq_iff_eq, decide_eq_true_iff]
  exact ⟨fun h => strOf_inj hl hm (ByteArray.ext (Array.toList_inj.1 (by rw [ByteArray.toList_eq, ByteArray.toList_eq] at h; exact h))), fun h => by rw [h]⟩
set_option maxRecDepth 100000 in
set_option maxHeartbeats 4000000 in
theorem equal_ (A B : Option Addr) (n m ca cb : Nat) (l k : List Int) (w : World) (hA : RdB w A l) (hB : RdB w B k) (hA0 : l = [] → A = none) (hB0 : k = [] → B = none) (hn : n = l.length) (hm : m = k.length) :
    Calls Try.prog 31 #[.slice A n ca, .slice B m cb] w fun e w' => e = .returned (.bool ((strOf l).toList == (strOf k).toList)) ∧ w = w' := by
  have HA := hid hA
  have HB := hid hB
  have HA0 := hid hA0
  have HB0 := hid hB0
  subst hn
  subst hm
  clear hA hB hA0 hB0
  go_enter Try.func31, Try.ntmps31
  go_wp2
  rw [run_str_any w 27 9 5 Try.underlying27 Try.underlying5 Try.underlying9 A ca l HA.out HA0.out]
  go_wp2
  rw [run_str_any w 27 9 5 Try.underlying27 Try.underlying5 Try.underlying9 B cb k HB.out HB0.out]
  go_wp2
  go_ret
  exact ⟨rfl, rfl⟩
/-- What holds of a world while an image is got. -/
structure GX (w W : World) (g x5 : Nat) (CA LA SA NA : Option Addr) (xs : List Value) (cs : List Cmp) (ls : List Lnk) (ss : List Shr) (ns : List Int) : Prop where
  ew : Ext w W
  hg : w.heap.size ≤ g
  hx : g < x5
  rg : Row W g 0 [.bool false, .int .i64 0, .int .i64 0, .slice none 0 0, .slice none 0 0, .slice none 0 0]
  rx : Row W x5 0 xs
  rc : 0 < cs.length → ∃ b o, CA = some ⟨b, o, none⟩ ∧ Row W b o (rowF Cmp.cells cs)
  cx : ∀ b o, CA = some ⟨b, o, none⟩ → g < b ∧ b < x5
  lx : ∀ b o, LA = some ⟨b, o, none⟩ → b < x5 ∧ ∀ b' o', CA = some ⟨b', o', none⟩ → ¬ b = b'
  sx : ∀ b o, SA = some ⟨b, o, none⟩ → b < x5 ∧ ∀ b' o', CA = some ⟨b', o', none⟩ → ¬ b = b'
  nx : ∀ b o, NA = some ⟨b, o, none⟩ → b < x5 ∧ ∀ b' o', CA = some ⟨b', o', none⟩ → ¬ b = b'
  lg : ∀ b o, LA = some ⟨b, o, none⟩ → g < b
  sg : ∀ b o, SA = some ⟨b, o, none⟩ → g < b
  rl : RdF Lnk.cells W LA ls
  rs : RdF Shr.cells W SA ss
  rn : RdF intF W NA ns
  cd : ∀ d ∈ cs, (d.A = none ∧ d.bl = [] ∧ d.ca = 0) ∨ ∃ b, d.A = some ⟨b, 0, none⟩ ∧ x5 < b ∧ Row W b 0 (rowF byF d.bl) ∧ d.ca = d.bl.length ∧ d.bl.length ≤ 65535 ∧ byteL d.bl
  inj : ∀ (i j : Nat) (d e : Cmp), cs[i]? = some d → cs[j]? = some e → d.A ≠ none → d.A = e.A → i = j
theorem GX.ext {w W W' : World} {g x5 : Nat} {CA LA SA NA : Option Addr} {xs : List Value} {cs : List Cmp} {ls : List Lnk} {ss : List Shr} {ns : List Int} (h : GX w W g x5 CA LA SA NA xs cs ls ss ns) (x : Ext W W') : GX w W' g x5 CA LA SA NA xs cs ls ss ns :=
  { ew := h.ew.trans x, hg := h.hg, hx := h.hx, rg := h.rg.ext x, rx := h.rx.ext x, rc := fun h0 => by obtain ⟨b, o, e, hr⟩ := h.rc h0; exact ⟨b, o, e, hr.ext x⟩, cx := h.cx, lx := h.lx, sx := h.sx, nx := h.nx, lg := h.lg, sg := h.sg, rl := h.rl.ext x, rs := h.rs.ext x, rn := h.rn.ext x, cd := fun d hd => (h.cd d hd).imp id (fun ⟨b, h1, h2, h3, h4⟩ => ⟨b, h1, h2, h3.ext x, h4⟩), inj := h.inj }
theorem GX.imgAt {w W : World} {g x5 : Nat} {CA LA SA NA : Option Addr} {xs : List Value} {cs : List Cmp} {ls : List Lnk} {ss : List Shr} {ns : List Int} (h : GX w W g x5 CA LA SA NA xs cs ls ss ns) (st : Bool) (hp fl : Int) (cc lc sc : Nat) : ImgAt W ⟨st, hp, fl, CA, cc, cs, LA, lc, ls, SA, sc, ss⟩ where
  c := fun h0 => by
    obtain ⟨b, o, e, hr⟩ := h.rc h0
    exact ⟨b, o, e, hr.lt, hr.at_⟩
  cb := fun d hd => by
    rcases h.cd d hd with ⟨e1, e2, e3⟩ | ⟨b, h1, h2, h3, h4, h5, h6⟩
    · rw [e1, e2, e3]
      exact ⟨fun h0 => absurd h0 (Nat.lt_irrefl _), fun z hz => by simp at hz, Nat.le_refl _, by unfold maxLen; omega⟩
    · refine ⟨?_, h6, by rw [h4]; exact Nat.le_refl _, by rw [h4]; unfold maxLen; omega⟩
      rw [h1]
      exact by_rdB (RdF.row0 h3)
  l := h.rl
  s := h.rs
theorem mem_set {α : Type} {l : List α} {i : Nat} {a b : α} (h : b ∈ l.set i a) : b = a ∨ b ∈ l := by
  rcases List.mem_or_eq_of_mem_set h with h | h
  · exact .inr h
  · exact .inl h
/-- A code is put into its compartment. -/
theorem GX.putc {w W : World} {g x5 : Nat} {CA LA SA NA : Option Addr} {xs : List Value} {cs : List Cmp} {ls : List Lnk} {ss : List Shr} {ns : List Int} (h : GX w W g x5 CA LA SA NA xs cs ls ss ns) {i b n : Nat} {d : Cmp} (hd : cs[i]? = some d) (hb : x5 < b) (hr : Row W b 0 (rowF byF (List.replicate n 0))) (hn : n ≤ 65535) (hf : ∀ e ∈ cs, e.A ≠ some ⟨b, 0, none⟩) {cb co : Nat} (hc : CA = some ⟨cb, co, none⟩) :
    GX w (W.setCell ⟨cb, co + i * 2, none⟩ (.slice (some ⟨b, 0, none⟩) n n)) g x5 CA LA SA NA xs (cs.set i ⟨some ⟨b, 0, none⟩, n, List.replicate n 0, d.data⟩) ls ss ns := by
  obtain ⟨hi, hdi⟩ := List.getElem?_eq_some_iff.1 hd
  obtain ⟨b2, o2, e2, hrow⟩ := h.rc (by omega)
  rw [hc] at e2
  cases e2
  have c1 := h.cx cb co hc
  have c2 := h.hg
  have x := Only.setCell (S := fun i => i = cb) (Only.refl (fun i => i = cb) W) (.inl rfl) (o := co + i * 2) (.slice (some ⟨b, 0, none⟩) n n)
  refine { ew := Ext.only h.ew x (fun j hj => by rw [hj]; omega), hg := h.hg, hx := h.hx, rg := h.rg.only x (by omega), rx := h.rx.only x (by omega), rc := fun _ => ⟨cb, co, hc, ?_⟩, cx := h.cx, lx := h.lx, sx := h.sx, nx := h.nx, lg := h.lg, sg := h.sg, rl := h.rl.only x (fun b o e => (h.lx b o e).2 cb co hc), rs := h.rs.only x (fun b o e => (h.sx b o e).2 cb co hc), rn := h.rn.only x (fun b o e => (h.nx b o e).2 cb co hc), cd := ?_, inj := ?_ }
  · have h1 := hrow.setCell (j := i * 2) (by rw [rowF_length cmp_len]; omega) (.slice (some ⟨b, 0, none⟩) n n)
    have h2 := rowF_set cmp_len cs i 0 ⟨some ⟨b, 0, none⟩, n, List.replicate n 0, d.data⟩ (.slice (some ⟨b, 0, none⟩) n n) hi (by decide) (by rw [hdi]; simp [Cmp.cells])
    rw [Nat.add_zero] at h2
    rwa [h2] at h1
  · intro e he
    rcases mem_set he with rfl | he
    · exact .inr ⟨b, rfl, hb, hr.only x (by omega), by simp, by simpa using hn, fun z hz => by obtain ⟨_, rfl⟩ := List.mem_replicate.1 hz; exact ⟨by decide, by decide⟩⟩
    · exact (h.cd e he).imp id (fun ⟨b', h1, h2, h3, h4⟩ => ⟨b', h1, h2, h3.only x (by omega), h4⟩)
  · intro j k e f he hf2 hne hef
    rw [List.getElem?_set] at he hf2
    split at he
    · rename_i hij
      subst hij
      split at hf2
      · omega
      · cases he
        exact absurd hef.symm (hf f (List.mem_of_getElem? hf2))
    · split at hf2
      · rename_i hik
        subst hik
        cases hf2
        exact absurd hef (hf e (List.mem_of_getElem? he))
      · exact h.inj j k e f he hf2 hne hef
/-- A code is filled. -/
theorem GX.fill {w W : World} {g x5 : Nat} {CA LA SA NA : Option Addr} {xs : List Value} {cs : List Cmp} {ls : List Lnk} {ss : List Shr} {ns : List Int} (h : GX w W g x5 CA LA SA NA xs cs ls ss ns) {i b : Nat} {d : Cmp} (hd : cs[i]? = some d) (hA : d.A = some ⟨b, 0, none⟩) {m : List Int} (hm : m.length = d.bl.length) (hbm : byteL m) :
    GX w (W.setCells b 0 (rowF byF m)) g x5 CA LA SA NA xs (cs.set i ⟨d.A, d.ca, m, d.data⟩) ls ss ns := by
  obtain ⟨hi, hdi⟩ := List.getElem?_eq_some_iff.1 hd
  rcases h.cd d (List.mem_of_getElem? hd) with ⟨e1, _⟩ | ⟨b2, h1, h2, h3, h4, h5, h6⟩
  · rw [e1] at hA; cases hA
  rw [hA] at h1
  cases h1
  have c2 := h.hg
  have c3 := h.hx
  have x := Only.setCells (S := fun i => i = b) (.inl rfl) (rowF byF m) 0 (Only.refl (fun i => i = b) W)
  refine { ew := Ext.only h.ew x (fun j hj => by rw [hj]; omega), hg := h.hg, hx := h.hx, rg := h.rg.only x (by omega), rx := h.rx.only x (by omega), rc := fun _ => ?_, cx := h.cx, lx := h.lx, sx := h.sx, nx := h.nx, lg := h.lg, sg := h.sg, rl := h.rl.only x (fun b o e => by have := (h.lx b o e).1; omega), rs := h.rs.only x (fun b o e => by have := (h.sx b o e).1; omega), rn := h.rn.only x (fun b o e => by have := (h.nx b o e).1; omega), cd := ?_, inj := ?_ }
  · obtain ⟨b', o', e', hr⟩ := h.rc (by omega)
    refine ⟨b', o', e', ?_⟩
    rw [rowF_set_same cs i _ hi (by rw [hdi]; simp [Cmp.cells, hm])]
    exact hr.only x (by have := (h.cx b' o' e').2; omega)
  · intro e he
    obtain ⟨j, hj⟩ := List.getElem?_of_mem he
    rw [List.getElem?_set] at hj
    split at hj
    · cases hj
      exact .inr ⟨b, hA, h2, h3.put (by rw [rowF_length by_len, rowF_length by_len, hm]), by rw [h4, hm], by rw [hm]; exact h5, hbm⟩
    · rename_i hij
      refine (h.cd e (List.mem_of_getElem? hj)).imp id (fun ⟨b', k1, k2, k3, k4⟩ => ⟨b', k1, k2, k3.only x (fun eb => ?_), k4⟩)
      rw [eb] at k1
      exact hij (h.inj i j d e hd hj (by rw [hA]; simp) (by rw [hA, k1]))
  · intro j k e f he hf2 hne hef
    rw [List.getElem?_set] at he hf2
    have hA2 : ∀ y : Cmp, some (⟨d.A, d.ca, m, d.data⟩ : Cmp) = some y → y.A = d.A := fun y hy => by cases hy; rfl
    split at he
    · rename_i hij
      subst hij
      split at hf2
      · omega
      · exact h.inj i k d f hd hf2 (by rw [hA]; simp) (by rw [← hA2 e he]; exact hef)
    · split at hf2
      · rename_i hik
        subst hik
        exact h.inj j i e d he hd hne (by rw [hef, hA2 f hf2])
      · exact h.inj j k e f he hf2 hne hef

end Go.Proofs.Ytgldlkoohfclpaa
