/- Layer 10: calls that come in; great. -/
import Derived.Test.YthamfkbopjagdaaSweS
import Derived.Test.YthamfkbopjagdaaSweJ
import Derived.Test.YthamfkbopjagdaaSweG
namespace Go.Proofs.Ythamfkbopjagdaa
set_option linter.unusedSimpArgs false
set_option linter.unusedVariables false
open Go.RowKit

/-- A call of a sweep. -/
structure WOp where
  what : Int
  m : TOp
  p : SOp
  n : Int
instance : Inhabited WOp := ⟨⟨0, default, default, 0⟩⟩
def WOp.cells (z : WOp) : List Value := [.int .i64 z.what, .int .i64 z.m.what, .int .i64 z.m.at_, .slice z.m.A z.m.bl.length z.m.ca, .bool z.m.c.tag, .int .i64 z.m.c.base, .int .i64 z.m.c.top, .int .i64 z.m.c.at_, .int .i64 z.m.c.perms, .int .i64 z.m.c.type, .int .i64 z.m.n, .int .i64 z.p.f, .int .i64 z.p.t, .bool z.p.b, .int .i64 z.n]
def WOp.good (w : World) (z : WOp) : Prop := (Lit.int .i64 z.what).wf = true ∧ z.m.good w ∧ wfS z.p ∧ (Lit.int .i64 z.n).wf = true
section
variable {H : Type} {enc : TypeId × Value → H} {w : World} {base : Nat} {spare : Nat → Bool} {held : Bool} {fuel : Nat} {cs : List Value} {x : DataW H × List MemPlace}
set_option maxRecDepth 100000 in
set_option maxHeartbeats 4000000 in
theorem trodWOp (h : DataW.trod enc Try.prog w base spare held fuel 45 cs = some x) : ∃ z : WOp, cs = z.cells ∧ z.good w := by
  obtain ⟨xs, n, _, _, hcl, hlen, hg⟩ := DataW.trod_struct Try.underlying45 h
  have hl : cs.length = 15 := hcl.trans (by kernel_rfl)
  have z1 : Try.prog.cellsOf 3 = 1 := by kernel_rfl
  have z2 : Try.prog.cellsOf 41 = 10 := by kernel_rfl
  have z3 : Try.prog.cellsOf 43 = 3 := by kernel_rfl
  match cs, hl with
  | [c0, c1, c2, c3, c4, c5, c6, c7, c8, c9, c10, c11, c12, c13, c14], _ =>
    have g0 : DataW.trod enc Try.prog w base spare held n 3 (([c0, c1, c2, c3, c4, c5, c6, c7, c8, c9, c10, c11, c12, c13, c14].drop 0).take (Try.prog.cellsOf 3)) = xs[0]? := hg 0 _ rfl
    rw [z1, List.getElem?_eq_getElem (by rw [hlen]; decide)] at g0
    have g1 : DataW.trod enc Try.prog w base spare held n 41 (([c0, c1, c2, c3, c4, c5, c6, c7, c8, c9, c10, c11, c12, c13, c14].drop 1).take (Try.prog.cellsOf 41)) = xs[1]? := hg 1 _ rfl
    rw [z2, List.getElem?_eq_getElem (by rw [hlen]; decide)] at g1
    have g2 : DataW.trod enc Try.prog w base spare held n 43 (([c0, c1, c2, c3, c4, c5, c6, c7, c8, c9, c10, c11, c12, c13, c14].drop 11).take (Try.prog.cellsOf 43)) = xs[2]? := hg 2 _ rfl
    rw [z3, List.getElem?_eq_getElem (by rw [hlen]; decide)] at g2
    have g3 : DataW.trod enc Try.prog w base spare held n 3 (([c0, c1, c2, c3, c4, c5, c6, c7, c8, c9, c10, c11, c12, c13, c14].drop 14).take (Try.prog.cellsOf 3)) = xs[3]? := hg 3 _ rfl
    rw [z1, List.getElem?_eq_getElem (by rw [hlen]; decide)] at g3
    obtain ⟨what, e0, _, k0⟩ := DataW.trod_int Try.underlying3 g0
    obtain ⟨m, e1, k1⟩ := trodTOp g1
    obtain ⟨p, e2, k2⟩ := trodOp g2
    obtain ⟨nn, e3, _, k3⟩ := DataW.trod_int Try.underlying3 g3
    refine ⟨⟨what, m, p, nn⟩, ?_, k0, k1, k2, k3⟩
    simp [TOp.cells, SOp.cells] at e0 e1 e2 e3
    simp [WOp.cells, e0, e1, e2, e3]
end
theorem WOp.len (z : WOp) : z.cells.length = 15 := rfl
theorem WOp.facts {w : World} {A : Option Addr} {zs : List WOp} (h : SlAtN w A 15 (zs.map WOp.cells)) {k : Nat} (hk : k < zs.length) (z : WOp) (hz : zs[k] = z) : ∃ b o, A = some ⟨b, o, none⟩ ∧ b < w.heap.size ∧ w.rangeAt b (o + k * 15) z.cells := by
  obtain ⟨b, o, hA, hb, hc⟩ := h (by simpa using Nat.lt_of_le_of_lt (Nat.zero_le _) hk)
  have hc := hc k (by simpa using hk)
  simp only [List.getElem_map, hz] at hc
  refine ⟨b, o, hA, hb, fun j v hj => ?_⟩
  have hlt : j < 15 := by have := (List.getElem?_eq_some_iff.1 hj).1; rwa [WOp.len] at this
  rw [hc j hlt, hj]
def topsF (zs : List TOp) : List Value := zs.flatMap TOp.cells
theorem topsF_length : ∀ zs : List TOp, (topsF zs).length = 10 * zs.length
  | [] => rfl
  | z :: zs => by
    have := topsF_length zs
    unfold topsF at this ⊢
    rw [List.flatMap_cons, List.length_append, this, List.length_cons, TOp.len]
    omega
theorem topsF_snoc (zs : List TOp) (z : TOp) : topsF (zs ++ [z]) = topsF zs ++ z.cells := by simp [topsF]
theorem topsF_at : ∀ (zs : List TOp) (k j : Nat) (hk : k < zs.length), j < 10 → (topsF zs)[k * 10 + j]? = (TOp.cells zs[k])[j]?
  | [], k, j, hk, _ => absurd hk (Nat.not_lt_zero _)
  | z :: zs, 0, j, _, hj => by
    unfold topsF
    rw [List.flatMap_cons, Nat.zero_mul, Nat.zero_add, List.getElem?_append_left (by rw [TOp.len]; exact hj)]
    rfl
  | z :: zs, k + 1, j, hk, hj => by
    have := topsF_at zs k j (by simpa using hk) hj
    unfold topsF at this ⊢
    rw [List.flatMap_cons, List.getElem?_append_right (by rw [TOp.len]; omega), TOp.len, show (k + 1) * 10 + j - 10 = k * 10 + j by omega, this]
    rfl
theorem ownsAt.tops {w : World} {base n c : Nat} {A : Option Addr} {zs : List TOp} (h : ownsAt w base 41 10 (.slice A n c) n (topsF zs)) (hn : zs.length = n) : SlAtN w A 10 (zs.map TOp.cells) := fun h0 => by
  rw [List.length_map] at h0
  obtain ⟨g, o, e, _, hl, hc, _⟩ := h.at_ rfl (by omega)
  refine ⟨g, o * 10, e, hl, fun i hi j hj => ?_⟩
  rw [List.length_map] at hi
  rw [List.getElem_map]
  have h1 := topsF_at zs i j hi hj
  obtain ⟨u, hu⟩ : ∃ u, (TOp.cells zs[i])[j]? = some u := ⟨(TOp.cells zs[i])[j]'(by rw [TOp.len]; exact hj), List.getElem?_eq_getElem _⟩
  rw [hu] at h1 ⊢
  have := hc _ u h1
  rwa [← Nat.add_assoc] at this
theorem info_top : (Try.prog.info? 41).map (fun i => (i.zero.map (fun z => z.cells.size), i.size, i.bytes)) = some (some 10, 10, 96) := by kernel_rfl
theorem tops_one (y : TOp) : ∀ u ∈ y.cells, u.oneCell' = true := by
  intro u hu
  simp [TOp.cells] at hu
  rcases hu with rfl | rfl | rfl | rfl | rfl | rfl | rfl | rfl | rfl | rfl <;> rfl
set_option maxRecDepth 100000 in
set_option maxHeartbeats 4000000 in
theorem great10_ (A : Option Addr) (cap m : Nat) (zs : List WOp) (w : World) (hm : zs.length = m) (wl : m ≤ maxLen) (hs : SlAtN w A 15 (zs.map WOp.cells)) : Calls Try.prog 13 #[.slice A m cap] w fun e w' => GreatIs m w e w' := by
  obtain ⟨i0, hi0, z0, hz0, hz1, hz2, hz3⟩ : ∃ i, Try.prog.info? 41 = some i ∧ ∃ z, i.zero = some z ∧ i.size = 10 ∧ i.bytes = 96 ∧ z.cells.size = 10 := by
    have h := info_top
    cases e : Try.prog.info? 41 with
    | none => rw [e] at h; cases h
    | some i =>
      rw [e] at h
      simp only [Option.map_some, Option.some.injEq, Prod.mk.injEq] at h
      obtain ⟨h1, h2, h3⟩ := h
      cases e2 : i.zero with
      | none => rw [e2] at h1; cases h1
      | some z =>
        rw [e2] at h1
        exact ⟨i, rfl, z, e2, h2, h3, by simpa using h1⟩
  have HS := hid hs
  have HM := hid hm
  have hmx : m ≤ 9223372036854775807 := Nat.le_trans wl (by unfold maxLen; omega)
  clear hs hm wl
  go_enter Try.func13, Try.ntmps13
  go_wp2
  go_loopw [3, 4] (fun v i wr => ∃ k : Nat, k ≤ m ∧ k ≤ 300 ∧ i = .int .i64 k ∧ Hid (ownsAt wr w.heap.size 41 10 v k (topsF ((zs.take k).map WOp.m))) ∧ Hid (Ext w wr)) (fun _ i _ => 300 - (intOf i).toNat)
  case atStart => exact ⟨0, Nat.zero_le _, Nat.zero_le _, rfl, hid (ownsAt_nil _ _ _ _), hid (Ext.refl _)⟩
  case round =>
    obtain ⟨k, hk, hk300, rfl, HO, HX⟩ := hrel
    have hk0 : (0 : Int) ≤ (k : Int) := by omega
    by_cases hlt : k < m
    · have hk1 : (k : Int) < (m : Int) := by omega
      by_cases hl3 : k < 300
      · have hk2 : (k : Int) < 300 := by omega
        have hkl : k < zs.length := by rw [HM.out]; exact hlt
        obtain ⟨z, hz⟩ : ∃ z, zs[k] = z := ⟨_, rfl⟩
        have HTK : Hid ((zs.take (k + 1)).map WOp.m = (zs.take k).map WOp.m ++ [z.m]) := hid (by rw [List.take_succ_eq_append_getElem hkl, hz, List.map_append]; rfl)
        obtain ⟨b0, o, rfl, hb0, hop⟩ := WOp.facts HS.out hkl z hz
        have HOP := hid (rg_ext hop hb0 HX.out)
        have hb1 : b0 < wr.heap.size := Nat.lt_of_lt_of_le hb0 HX.out.size
        clear hop hz
        have c1 : World.cell? wr ⟨b0, o + k * 15 + 1, none⟩ = some (.int .i64 z.m.what) := HOP.out 1 _ rfl
        have c2 : World.cell? wr ⟨b0, o + k * 15 + 2, none⟩ = some (.int .i64 z.m.at_) := HOP.out 2 _ rfl
        have c3 : World.cell? wr ⟨b0, o + k * 15 + 3, none⟩ = some (.slice z.m.A z.m.bl.length z.m.ca) := HOP.out 3 _ rfl
        have c4 : World.cell? wr ⟨b0, o + k * 15 + 4, none⟩ = some (.bool z.m.c.tag) := HOP.out 4 _ rfl
        have c5 : World.cell? wr ⟨b0, o + k * 15 + 5, none⟩ = some (.int .i64 z.m.c.base) := HOP.out 5 _ rfl
        have c6 : World.cell? wr ⟨b0, o + k * 15 + 6, none⟩ = some (.int .i64 z.m.c.top) := HOP.out 6 _ rfl
        have c7 : World.cell? wr ⟨b0, o + k * 15 + 7, none⟩ = some (.int .i64 z.m.c.at_) := HOP.out 7 _ rfl
        have c8 : World.cell? wr ⟨b0, o + k * 15 + 8, none⟩ = some (.int .i64 z.m.c.perms) := HOP.out 8 _ rfl
        have c9 : World.cell? wr ⟨b0, o + k * 15 + 9, none⟩ = some (.int .i64 z.m.c.type) := HOP.out 9 _ rfl
        have c10 : World.cell? wr ⟨b0, o + k * 15 + 10, none⟩ = some (.int .i64 z.m.n) := HOP.out 10 _ rfl
        go_wp2_with (first | (refine wpList_plain rfl fun K hK => ?_; refine wp_build1 56 41 _ rfl #[.int .i64 z.m.what, .int .i64 z.m.at_, .slice z.m.A z.m.bl.length z.m.ca, .bool z.m.c.tag, .int .i64 z.m.c.base, .int .i64 z.m.c.top, .int .i64 z.m.c.at_, .int .i64 z.m.c.perms, .int .i64 z.m.c.type, .int .i64 z.m.n] 10 rfl rfl (by omega) (by omega) Try.underlying56 (by kernel_rfl) (by kernel_rfl) ?_; refine hK _ _ ?_; clear hK K) | (at_builtin; refine wpList_plain rfl fun K hK => ?_; go_loud (refine wp_append_at _ _ _ 56 rfl w.heap.size 41 i0 z0 10 96 Try.underlying56 hi0 hz0 hz1 hz2 hz3 (by decide) _ _ _ rfl (HO.out.ext (Ext.alloc (Ext.refl _) _)) ⟨wr.heap.size, 0, none⟩ 1 1 z.m.cells rfl rfl (fun j u hj => by rw [Addr.add_lit]; exact (Row.new wr #[.int .i64 z.m.what, .int .i64 z.m.at_, .slice z.m.A z.m.bl.length z.m.ca, .bool z.m.c.tag, .int .i64 z.m.c.base, .int .i64 z.m.c.top, .int .i64 z.m.c.at_, .int .i64 z.m.c.perms, .int .i64 z.m.c.type, .int .i64 z.m.n] _).range j u hj) (tops_one z.m) (by unfold maxLen; omega) (by omega) (by have := HX.out.size; simp; omega) (by decide) ?_); intro v5 W5 hown5 hgrow5 hat5; refine hK _ _ ?_; clear hK K))
        have HO5 : Hid (ownsAt W5 w.heap.size 41 10 v5 (k + 1) (topsF ((zs.take (k + 1)).map WOp.m))) := hid (by
          rw [HTK.out, topsF_snoc]
          exact hown5)
        have HE5 : Hid (Ext w W5) := hid (Ext.only (HX.out.trans (Ext.alloc (Ext.refl _) _)) (grownOnly (S := fun i => w.heap.size ≤ i) hgrow5 (fun g e => (HO.out.lt g e).1)) (fun i hi => hi))
        clear hown5 hgrow5 hat5
        go_roundw
        case rel => exact ⟨k + 1, by omega, by omega, by go_num, HO5, HE5⟩
        case measure => simp [intOf]; omega
      · obtain rfl : k = 300 := by omega
        have hk2 : ¬ ((300 : Nat) : Int) < 300 := by omega
        have hm200 : (200 : Int) < (m : Int) := by omega
        go_wp2
        go_ret
        exact ⟨true, rfl, HX.out, hid (fun e => by cases e)⟩
    · obtain rfl : m = k := by omega
      have hk1 : ¬ (m : Int) < (m : Int) := by omega
      obtain ⟨A1, c1, rfl, _, _⟩ := HO.out.shape
      rw [List.take_of_length_le (by rw [HM.out]; exact Nat.le_refl _)] at HO
      have HLE : Hid ((zs.map WOp.m).length = m) := hid (by rw [List.length_map]; exact HM.out)
      have HSM : Hid (SlAtN wr A1 10 ((zs.map WOp.m).map TOp.cells)) := hid (HO.out.tops HLE.out)
      have HLM : Hid ((zs.map WOp.m).length ≤ maxLen) := hid (by rw [HLE.out]; unfold maxLen; omega)
      have h4 := great_ A1 c1 (zs.map WOp.m) wr HLM.out HSM.out
      rw [HLE.out] at h4
      have H4 := hid h4
      clear h4
      by_cases hm2 : m ≤ 200
      · have hm200 : ¬ (200 : Int) < (m : Int) := by omega
        go_wp2_with (go_at_call 39; refine H4.out.mono ?_; rintro e W4 ⟨b, rfl, hx4, hgr⟩)
        go_ret
        exact ⟨b, rfl, HX.out.trans hx4, hgr⟩
      · have hm200 : (200 : Int) < (m : Int) := by omega
        go_wp2
        go_ret
        exact ⟨true, rfl, HX.out, hid (fun e => by cases e)⟩

end Go.Proofs.Ythamfkbopjagdaa
