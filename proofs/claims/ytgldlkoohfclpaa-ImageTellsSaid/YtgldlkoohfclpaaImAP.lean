/- Layer 17: the document: an image that is being read. -/
import Derived.Test.YtgldlkoohfclpaaImAO
import Derived.Test.YtgldlkoohfclpaaImV
namespace Go.Proofs.Ytgldlkoohfclpaa
set_option linter.unusedSimpArgs false
set_option linter.unusedVariables false
open Go.RowKit

/-- An image that is being read: the result's box p, the image's g, its rows at base and above. -/
structure GB (w W : World) (p g base : Nat) (sv hv fv vc vl vs vn : Value) (cs : List Cmp) (ls : List Lnk) (ss : List Shr) (ns : List Int) : Prop where
  wp : w.heap.size ≤ p
  pg : p < g
  gb : g < base
  bs : base ≤ W.heap.size
  ew : Ext w W
  rp : Row W p 0 [.bool false, .int .i64 0, .int .i64 0, .slice none 0 0, .slice none 0 0, .slice none 0 0]
  rg : Row W g 0 [sv, hv, fv, vc, vl, vs]
  oc : ownsAt W base 53 2 vc cs.length (rowF Cmp.cells cs)
  ol : ownsAt W base 68 3 vl ls.length (rowF Lnk.cells ls)
  os : ownsAt W base 70 2 vs ss.length (rowF Shr.cells ss)
  on : ownsAt W base 3 1 vn ns.length (rowF intF ns)
  a01 : apartV vc vl
  a02 : apartV vc vs
  a03 : apartV vc vn
  a12 : apartV vl vs
  a13 : apartV vl vn
  a23 : apartV vs vn
section
variable {w W W' : World} {p g base : Nat} {sv hv fv vc vl vs vn : Value} {cs : List Cmp} {ls : List Lnk} {ss : List Shr} {ns : List Int}
theorem GB.ext (h : GB w W p g base sv hv fv vc vl vs vn cs ls ss ns) (x : Ext W W') : GB w W' p g base sv hv fv vc vl vs vn cs ls ss ns :=
  { wp := h.wp, pg := h.pg, gb := h.gb, bs := Nat.le_trans h.bs x.size, ew := h.ew.trans x, rp := h.rp.ext x, rg := h.rg.ext x, oc := h.oc.ext x, ol := h.ol.ext x, os := h.os.ext x, on := h.on.ext x, a01 := h.a01, a02 := h.a02, a03 := h.a03, a12 := h.a12, a13 := h.a13, a23 := h.a23 }
theorem GB.putc (h : GB w W p g base sv hv fv vc vl vs vn cs ls ss ns) (x : Only (fun i => vc.ownBlock = some i) W W') {v6 : Value} (z : Cmp) (ho : ownsAt W' base 53 2 v6 (cs ++ [z]).length (rowF Cmp.cells (cs ++ [z]))) (hat : ∀ b, v6.ownBlock = some b → vc.ownBlock = some b ∨ W.heap.size ≤ b) : GB w (W'.setCell ⟨g, 3, none⟩ v6) p g base sv hv fv v6 vl vs vn (cs ++ [z]) ls ss ns := by
  have hg : ¬ vc.ownBlock = some g := fun e => by have := (h.oc.lt g e).1; have := h.gb; omega
  have hp : ¬ vc.ownBlock = some p := fun e => by have := (h.oc.lt p e).1; have := h.gb; have := h.pg; omega
  have hw := h.wp
  have hpg := h.pg
  have hgb := h.gb
  have ew := Ext.only h.ew x (fun i hi => by have := (h.oc.lt i hi).1; omega)
  have rp := h.rp.only x hp
  have rg := h.rg.only x hg
  have y := Only.setCell (S := fun i => i = g) (Only.refl (fun i => i = g) W') (.inl rfl) (o := 3) v6
  exact { wp := hw, pg := hpg, gb := hgb, bs := by rw [World.size_setCell]; exact Nat.le_trans h.bs x.size, ew := Ext.only ew y (fun i hi => by rw [hi]; omega), rp := (rp).only y (by omega), rg := rg.set1 (j := 3) v6, oc := (ho).only y (fun b e e2 => by have := (ho.lt b e).1; omega), ol := (h.ol.only x (fun b e e2 => h.a01 b e2 e)).only y (fun b e e2 => by have := (h.ol.lt b e).1; omega), os := (h.os.only x (fun b e e2 => h.a02 b e2 e)).only y (fun b e e2 => by have := (h.os.lt b e).1; omega), on := (h.on.only x (fun b e e2 => h.a03 b e2 e)).only y (fun b e e2 => by have := (h.on.lt b e).1; omega), a01 := fun b e e2 => (hat b e).elim (fun e3 => h.a01 b e3 e2) (fun e3 => by have := (h.ol.lt b e2).2; omega), a02 := fun b e e2 => (hat b e).elim (fun e3 => h.a02 b e3 e2) (fun e3 => by have := (h.os.lt b e2).2; omega), a03 := fun b e e2 => (hat b e).elim (fun e3 => h.a03 b e3 e2) (fun e3 => by have := (h.on.lt b e2).2; omega), a12 := h.a12, a13 := h.a13, a23 := h.a23 }
theorem GB.putl (h : GB w W p g base sv hv fv vc vl vs vn cs ls ss ns) (x : Only (fun i => vl.ownBlock = some i) W W') {v6 : Value} (z : Lnk) (ho : ownsAt W' base 68 3 v6 (ls ++ [z]).length (rowF Lnk.cells (ls ++ [z]))) (hat : ∀ b, v6.ownBlock = some b → vl.ownBlock = some b ∨ W.heap.size ≤ b) : GB w (W'.setCell ⟨g, 4, none⟩ v6) p g base sv hv fv vc v6 vs vn cs (ls ++ [z]) ss ns := by
  have hg : ¬ vl.ownBlock = some g := fun e => by have := (h.ol.lt g e).1; have := h.gb; omega
  have hp : ¬ vl.ownBlock = some p := fun e => by have := (h.ol.lt p e).1; have := h.gb; have := h.pg; omega
  have hw := h.wp
  have hpg := h.pg
  have hgb := h.gb
  have ew := Ext.only h.ew x (fun i hi => by have := (h.ol.lt i hi).1; omega)
  have rp := h.rp.only x hp
  have rg := h.rg.only x hg
  have y := Only.setCell (S := fun i => i = g) (Only.refl (fun i => i = g) W') (.inl rfl) (o := 4) v6
  exact { wp := hw, pg := hpg, gb := hgb, bs := by rw [World.size_setCell]; exact Nat.le_trans h.bs x.size, ew := Ext.only ew y (fun i hi => by rw [hi]; omega), rp := (rp).only y (by omega), rg := rg.set1 (j := 4) v6, oc := (h.oc.only x (fun b e e2 => h.a01 b e e2)).only y (fun b e e2 => by have := (h.oc.lt b e).1; omega), ol := (ho).only y (fun b e e2 => by have := (ho.lt b e).1; omega), os := (h.os.only x (fun b e e2 => h.a12 b e2 e)).only y (fun b e e2 => by have := (h.os.lt b e).1; omega), on := (h.on.only x (fun b e e2 => h.a13 b e2 e)).only y (fun b e e2 => by have := (h.on.lt b e).1; omega), a01 := fun b e e2 => (hat b e2).elim (fun e3 => h.a01 b e e3) (fun e3 => by have := (h.oc.lt b e).2; omega), a02 := h.a02, a03 := h.a03, a12 := fun b e e2 => (hat b e).elim (fun e3 => h.a12 b e3 e2) (fun e3 => by have := (h.os.lt b e2).2; omega), a13 := fun b e e2 => (hat b e).elim (fun e3 => h.a13 b e3 e2) (fun e3 => by have := (h.on.lt b e2).2; omega), a23 := h.a23 }
theorem GB.puts (h : GB w W p g base sv hv fv vc vl vs vn cs ls ss ns) (x : Only (fun i => vs.ownBlock = some i) W W') {v6 : Value} (z : Shr) (ho : ownsAt W' base 70 2 v6 (ss ++ [z]).length (rowF Shr.cells (ss ++ [z]))) (hat : ∀ b, v6.ownBlock = some b → vs.ownBlock = some b ∨ W.heap.size ≤ b) : GB w (W'.setCell ⟨g, 5, none⟩ v6) p g base sv hv fv vc vl v6 vn cs ls (ss ++ [z]) ns := by
  have hg : ¬ vs.ownBlock = some g := fun e => by have := (h.os.lt g e).1; have := h.gb; omega
  have hp : ¬ vs.ownBlock = some p := fun e => by have := (h.os.lt p e).1; have := h.gb; have := h.pg; omega
  have hw := h.wp
  have hpg := h.pg
  have hgb := h.gb
  have ew := Ext.only h.ew x (fun i hi => by have := (h.os.lt i hi).1; omega)
  have rp := h.rp.only x hp
  have rg := h.rg.only x hg
  have y := Only.setCell (S := fun i => i = g) (Only.refl (fun i => i = g) W') (.inl rfl) (o := 5) v6
  exact { wp := hw, pg := hpg, gb := hgb, bs := by rw [World.size_setCell]; exact Nat.le_trans h.bs x.size, ew := Ext.only ew y (fun i hi => by rw [hi]; omega), rp := (rp).only y (by omega), rg := rg.set1 (j := 5) v6, oc := (h.oc.only x (fun b e e2 => h.a02 b e e2)).only y (fun b e e2 => by have := (h.oc.lt b e).1; omega), ol := (h.ol.only x (fun b e e2 => h.a12 b e e2)).only y (fun b e e2 => by have := (h.ol.lt b e).1; omega), os := (ho).only y (fun b e e2 => by have := (ho.lt b e).1; omega), on := (h.on.only x (fun b e e2 => h.a23 b e2 e)).only y (fun b e e2 => by have := (h.on.lt b e).1; omega), a01 := h.a01, a02 := fun b e e2 => (hat b e2).elim (fun e3 => h.a02 b e e3) (fun e3 => by have := (h.oc.lt b e).2; omega), a03 := h.a03, a12 := fun b e e2 => (hat b e2).elim (fun e3 => h.a12 b e e3) (fun e3 => by have := (h.ol.lt b e).2; omega), a13 := h.a13, a23 := fun b e e2 => (hat b e).elim (fun e3 => h.a23 b e3 e2) (fun e3 => by have := (h.on.lt b e2).2; omega) }
theorem GB.putn (h : GB w W p g base sv hv fv vc vl vs vn cs ls ss ns) (x : Only (fun i => vn.ownBlock = some i) W W') {v6 : Value} (z : Int) (ho : ownsAt W' base 3 1 v6 (ns ++ [z]).length (rowF intF (ns ++ [z]))) (hat : ∀ b, v6.ownBlock = some b → vn.ownBlock = some b ∨ W.heap.size ≤ b) : GB w W' p g base sv hv fv vc vl vs v6 cs ls ss (ns ++ [z]) := by
  have hg : ¬ vn.ownBlock = some g := fun e => by have := (h.on.lt g e).1; have := h.gb; omega
  have hp : ¬ vn.ownBlock = some p := fun e => by have := (h.on.lt p e).1; have := h.gb; have := h.pg; omega
  have hw := h.wp
  have hpg := h.pg
  have hgb := h.gb
  have ew := Ext.only h.ew x (fun i hi => by have := (h.on.lt i hi).1; omega)
  have rp := h.rp.only x hp
  have rg := h.rg.only x hg
  exact { wp := hw, pg := hpg, gb := hgb, bs := Nat.le_trans h.bs x.size, ew := ew, rp := rp, rg := rg, oc := h.oc.only x (fun b e e2 => h.a03 b e e2), ol := h.ol.only x (fun b e e2 => h.a13 b e e2), os := h.os.only x (fun b e e2 => h.a23 b e e2), on := ho, a01 := h.a01, a02 := h.a02, a03 := fun b e e2 => (hat b e2).elim (fun e3 => h.a03 b e e3) (fun e3 => by have := (h.oc.lt b e).2; omega), a12 := h.a12, a13 := fun b e e2 => (hat b e2).elim (fun e3 => h.a13 b e e3) (fun e3 => by have := (h.ol.lt b e).2; omega), a23 := fun b e e2 => (hat b e2).elim (fun e3 => h.a23 b e e3) (fun e3 => by have := (h.os.lt b e).2; omega) }
end
theorem rdB_only {S : Nat → Prop} {w w' : World} {A : Option Addr} {l : List Int} (h : RdB w A l) (x : Only S w w') (hs : ∀ b o, A = some ⟨b, o, none⟩ → ¬ S b) : RdB w' A l := by_rdB ((rdB_by h).only x hs)
/-- The same, while the codes are read. -/
structure GC (w W : World) (p g : Nat) (xs : List Value) (CA LA SA NA : Option Addr) (cs : List Cmp) (ls : List Lnk) (ss : List Shr) (ns : List Int) : Prop where
  wp : w.heap.size ≤ p
  pg : p < g
  ew : Ext w W
  rp : Row W p 0 [.bool false, .int .i64 0, .int .i64 0, .slice none 0 0, .slice none 0 0, .slice none 0 0]
  rg : Row W g 0 xs
  rc : 0 < cs.length → ∃ b o, CA = some ⟨b, o, none⟩ ∧ Row W b o (rowF Cmp.cells cs)
  cx : ∀ b o, CA = some ⟨b, o, none⟩ → g < b
  lx : ∀ b o b' o', LA = some ⟨b, o, none⟩ → CA = some ⟨b', o', none⟩ → ¬ b = b'
  sx : ∀ b o b' o', SA = some ⟨b, o, none⟩ → CA = some ⟨b', o', none⟩ → ¬ b = b'
  nx : ∀ b o b' o', NA = some ⟨b, o, none⟩ → CA = some ⟨b', o', none⟩ → ¬ b = b'
  lg : ∀ b o, LA = some ⟨b, o, none⟩ → g < b
  sg : ∀ b o, SA = some ⟨b, o, none⟩ → g < b
  rl : RdF Lnk.cells W LA ls
  rs : RdF Shr.cells W SA ss
  rn : RdF intF W NA ns
  cb : ∀ d ∈ cs, RdB W d.A d.bl ∧ byteL d.bl ∧ d.bl.length ≤ d.ca ∧ d.ca ≤ maxLen
  ca : ∀ d ∈ cs, ∀ b o, d.A = some ⟨b, o, none⟩ → g < b ∧ ∀ b' o', CA = some ⟨b', o', none⟩ → ¬ b = b'
theorem GC.ext {w W W' : World} {p g : Nat} {xs : List Value} {CA LA SA NA : Option Addr} {cs : List Cmp} {ls : List Lnk} {ss : List Shr} {ns : List Int} (h : GC w W p g xs CA LA SA NA cs ls ss ns) (x : Ext W W') : GC w W' p g xs CA LA SA NA cs ls ss ns :=
  { wp := h.wp, pg := h.pg, ew := h.ew.trans x, rp := h.rp.ext x, rg := h.rg.ext x, rc := fun h0 => by obtain ⟨b, o, e, hr⟩ := h.rc h0; exact ⟨b, o, e, hr.ext x⟩, cx := h.cx, lx := h.lx, sx := h.sx, nx := h.nx, lg := h.lg, sg := h.sg, rl := h.rl.ext x, rs := h.rs.ext x, rn := h.rn.ext x, cb := fun d hd => ⟨(h.cb d hd).1.ext x, (h.cb d hd).2⟩, ca := h.ca }
theorem GC.put {w W : World} {p g : Nat} {xs : List Value} {CA LA SA NA : Option Addr} {cs : List Cmp} {ls : List Lnk} {ss : List Shr} {ns : List Int} (h : GC w W p g xs CA LA SA NA cs ls ss ns) {i n : Nat} {d : Cmp} (hd : cs[i]? = some d) {cb co : Nat} (hc : CA = some ⟨cb, co, none⟩) {A : Option Addr} {ca : Nat} {bl : List Int} (hn : bl.length = n) (hr : RdB W A bl) (hb : byteL bl) (h1 : bl.length ≤ ca) (h2 : ca ≤ maxLen) (ha : ∀ b o, A = some ⟨b, o, none⟩ → g < b ∧ ¬ b = cb) :
    GC w (W.setCell ⟨cb, co + i * 2, none⟩ (.slice A n ca)) p g xs CA LA SA NA (cs.set i ⟨A, ca, bl, d.data⟩) ls ss ns := by
  subst hn
  obtain ⟨hi, hdi⟩ := List.getElem?_eq_some_iff.1 hd
  obtain ⟨b2, o2, e2, hrow⟩ := h.rc (by omega)
  rw [hc] at e2
  cases e2
  have c1 := h.cx cb co hc
  have c2 := h.wp
  have c3 := h.pg
  have x := Only.setCell (S := fun i => i = cb) (Only.refl (fun i => i = cb) W) (.inl rfl) (o := co + i * 2) (.slice A bl.length ca)
  refine { wp := h.wp, pg := h.pg, ew := Ext.only h.ew x (fun j hj => by rw [hj]; omega), rp := h.rp.only x (by omega), rg := h.rg.only x (by omega), rc := fun _ => ⟨cb, co, hc, ?_⟩, cx := h.cx, lx := h.lx, sx := h.sx, nx := h.nx, lg := h.lg, sg := h.sg, rl := h.rl.only x (fun b o e => h.lx b o cb co e hc), rs := h.rs.only x (fun b o e => h.sx b o cb co e hc), rn := h.rn.only x (fun b o e => h.nx b o cb co e hc), cb := fun e he => ?_, ca := fun e he => ?_ }
  · have h1 := hrow.setCell (j := i * 2) (by rw [rowF_length cmp_len]; omega) (.slice A bl.length ca)
    have h2 := rowF_set cmp_len cs i 0 ⟨A, ca, bl, d.data⟩ (.slice A bl.length ca) hi (by decide) (by rw [hdi]; simp [Cmp.cells])
    rw [Nat.add_zero] at h2
    rwa [h2] at h1
  · rcases mem_set he with rfl | he
    · exact ⟨rdB_only hr x (fun b o e => (ha b o e).2), hb, h1, h2⟩
    · exact ⟨rdB_only (h.cb e he).1 x (fun b o e2 => (h.ca e he b o e2).2 cb co hc), (h.cb e he).2⟩
  · rcases mem_set he with rfl | he
    · intro b o e
      refine ⟨(ha b o e).1, fun b' o' e' => ?_⟩
      rw [hc] at e'
      cases e'
      exact (ha b o e).2
    · exact h.ca e he
theorem GC.imgAt {w W : World} {p g : Nat} {xs : List Value} {CA LA SA NA : Option Addr} {cs : List Cmp} {ls : List Lnk} {ss : List Shr} {ns : List Int} (h : GC w W p g xs CA LA SA NA cs ls ss ns) (st : Bool) (hp fl : Int) (cc lc sc : Nat) : ImgAt W ⟨st, hp, fl, CA, cc, cs, LA, lc, ls, SA, sc, ss⟩ where
  c := fun h0 => by
    obtain ⟨b, o, e, hr⟩ := h.rc h0
    exact ⟨b, o, e, hr.lt, hr.at_⟩
  cb := h.cb
  l := h.rl
  s := h.rs
theorem GB.toC {w W : World} {p g base : Nat} {sv hv fv : Value} {CA LA SA NA : Option Addr} {cc lc sc kc nc nl ns kn : Nat} {cs : List Cmp} {ls : List Lnk} {ss : List Shr} {zs : List Int} (h : GB w W p g base sv hv fv (.slice CA nc cc) (.slice LA nl lc) (.slice SA ns sc) (.slice NA kn kc) cs ls ss zs) (h1 : cs.length = nc) (h2 : ls.length = nl) (h3 : ss.length = ns) (h4 : zs.length = kn) (hz : ∀ d ∈ cs, d.A = none ∧ d.bl = []) (hca : ∀ d ∈ cs, d.ca ≤ maxLen) : GC w W p g [sv, hv, fv, .slice CA nc cc, .slice LA nl lc, .slice SA ns sc] CA LA SA NA cs ls ss zs := by
  subst h1
  subst h2
  subst h3
  subst h4
  exact { wp := h.wp, pg := h.pg, ew := h.ew, rp := h.rp, rg := h.rg, rc := fun h0 => (by
      obtain ⟨gg, o, e, _, hl, hc, hf⟩ := h.oc.at_ rfl h0
      exact ⟨gg, o * 2, e, ⟨hl, hc, fun j _ => hf _⟩⟩), cx := fun b o e => (by have := (h.oc.lt b (by rw [e]; rfl)).1; have := h.gb; omega), lx := fun b o b' o' e e' hb => h.a01 b' (by rw [e']; rfl) (by rw [e, hb]; rfl), sx := fun b o b' o' e e' hb => h.a02 b' (by rw [e']; rfl) (by rw [e, hb]; rfl), nx := fun b o b' o' e e' hb => h.a03 b' (by rw [e']; rfl) (by rw [e, hb]; rfl), lg := fun b o e => (by have := (h.ol.lt b (by rw [e]; rfl)).1; have := h.gb; omega), sg := fun b o e => (by have := (h.os.lt b (by rw [e]; rfl)).1; have := h.gb; omega), rl := h.ol.rdF rfl, rs := h.os.rdF rfl, rn := h.on.rdF rfl, cb := fun d hd => (by
      obtain ⟨e1, e2⟩ := hz d hd
      rw [e1, e2]
      exact ⟨fun h0 => absurd h0 (Nat.lt_irrefl _), fun z hz => by simp at hz, Nat.zero_le _, hca d hd⟩), ca := fun d hd b o e => (by rw [(hz d hd).1] at e; cases e) }

end Go.Proofs.Ytgldlkoohfclpaa
