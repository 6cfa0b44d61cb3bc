/- Layer 17: the law's head. -/
import Derived.Test.YtgldlkoohfclpaaImX
namespace Go.Proofs.Ytgldlkoohfclpaa
set_option linter.unusedSimpArgs false
set_option linter.unusedVariables false
open Go.RowKit

def p33 : List Int := [83, 90, 0, 2, 0, 8, 2, 1, 1, 0, 8, 1, 0, 4, 2, 1, 0, 0, 1, 3, 1, 1, 1, 0, 7, 0, 0, 0, 0, 0, 0, 0, 0]
def q33 : List Int := [83, 90, 0, 2, 0, 8, 2, 1, 1, 0, 8, 1, 0, 4, 2, 1, 0, 0, 1, 3, 1, 1, 1, 0, 7, 0, 0, 0, 0, 0, 0, 0, 9]
theorem one_right : rightV oneV = true := by decide +kernel
theorem one_put : putV oneV = p33 := by decide +kernel
theorem one_err : gErr p33 = 0 := by decide +kernel
theorem nil_err : gErr [] = 1 := by decide +kernel
theorem bad_err : gErr q33 = 151 := by decide +kernel
theorem one_got : gImg (cmC p33) p33 = oneV := by kernel_rfl
theorem one_pg : (layV oneV).pg = 11 := by decide +kernel
def one4 : List Cap := [⟨true, 1280, 1284, 1280, 5, 0⟩, ⟨true, 1536, 2048, 1536, 27, 0⟩, ⟨true, 17, 18, 17, 96, 0⟩, ⟨true, 2560, 2816, 2560, 1, 0⟩]
theorem one_grants : grantV oneV 1 = one4 := by decide +kernel
def one2 : List (Cap × Cap) := [(⟨true, 256, 264, 260, 5, 2⟩, ⟨true, 512, 768, 512, 27, 2⟩)]
theorem one_pairs : pairV oneV 1 = one2 := by decide +kernel
theorem z_right : rightV zImg = false := by decide +kernel
theorem layV_strip (x : Img) : layV x.strip = layV x := by
  have h : layK x.heap (x.comps.map Cmp.strip) = layK x.heap x.comps := by
    unfold layK
    rw [List.foldl_map]
    rfl
  show layS (layK x.heap (x.comps.map Cmp.strip)) x.shares.length = _
  rw [h]
  rfl
theorem grantV_strip (x : Img) (n : Int) : grantV x.strip n = grantV x n := by
  unfold grantV
  rw [rightV_strip, layV_strip, show x.strip.comps.length = x.comps.length by simp [Img.strip]]
  rfl
theorem pairV_strip (x : Img) (n : Int) : pairV x.strip n = pairV x n := by
  unfold pairV
  rw [rightV_strip, layV_strip, show x.strip.comps.length = x.comps.length by simp [Img.strip]]
  rfl
theorem RdF.ofRow {α : Type} {f : α → List Value} {w : World} {b o : Nat} {zs : List α} (h : Row w b o (rowF f zs)) : RdF f w (some ⟨b, o, none⟩) zs := fun _ => ⟨b, o, rfl, h.lt, h.at_⟩
set_option maxRecDepth 100000 in
set_option maxHeartbeats 4000000 in
theorem head17_ (w : World) : Calls Try.prog 10 #[] w fun e w' => e = .returned (.bool true) ∧ Ext w w' := by
  go_enter Try.func10, Try.ntmps10
  go_wp2_with fail
  refine (one_ w).mono ?_
  rintro e W1 ⟨x, rfl, HI, hst, HE⟩
  obtain ⟨st, hp, fl, C, cc, cs, L, lc, ls, S, sc, ss⟩ := x
  have hs0 := hst.out
  simp only [Img.strip, oneV, Img.mk.injEq, true_and] at hs0
  obtain ⟨rfl, rfl, rfl, hcs, rfl, rfl⟩ := hs0
  have hcl : cs.length = 2 := by have := congrArg List.length hcs; simpa using this
  have HA := hid (show (Value.agg #[.bool false, .int .i64 2, .int .i64 8, .slice C 2 cc, .slice L 1 lc, .slice S 1 sc]) = .agg #[.bool false, .int .i64 2, .int .i64 8, .slice C cs.length cc, .slice L ([(⟨1, 0, 1⟩ : Lnk)]).length lc, .slice S ([(⟨3, 1⟩ : Shr)]).length sc] by rw [hcl]; rfl)
  have hne : ∀ d ∈ cs, 0 < d.bl.length := fun d hd => by
    have h1 : d.strip ∈ cs.map Cmp.strip := List.mem_map.2 ⟨d, hd, rfl⟩
    rw [hcs] at h1
    simp only [List.mem_cons, List.not_mem_nil, or_false] at h1
    have h2 : d.bl = d.strip.bl := rfl
    rcases h1 with h1 | h1 <;> rw [h2, h1] <;> decide
  have HNE := hid hne
  dsimp only
  rw [hcl]
  have HCL := hid hcl
  clear hcs hne hcl
  obtain ⟨X, hX⟩ : ∃ y : Img, y = ⟨false, 2, 8, C, cc, cs, L, lc, [⟨1, 0, 1⟩], S, sc, [⟨3, 1⟩]⟩ := ⟨_, rfl⟩
  rw [← hX] at hst HI
  have HXC := hid (show X.comps.length = 2 ∧ X.links.length = 1 ∧ X.shares.length = 1 ∧ (∀ d ∈ X.comps, 0 < d.bl.length) ∧ X.shares = [⟨3, 1⟩] by rw [hX]; exact ⟨HCL.out, rfl, rfl, HNE.out, rfl⟩)
  replace HA := hid (show (Value.agg #[.bool false, .int .i64 2, .int .i64 8, .slice C 2 cc, .slice L 1 lc, .slice S 1 sc]) = .agg #[.bool X.strict, .int .i64 X.heap, .int .i64 X.full, .slice X.C X.comps.length X.cc, .slice X.L X.links.length X.lc, .slice X.S X.shares.length X.sc] by rw [hX]; exact HA.out)
  clear hX HCL HNE
  have HST := hid hst.out
  clear hst
  have v1 : rightV X = true := by rw [← rightV_strip, HST.out, one_right]
  have v2 : putV X = p33 := by rw [← putV_strip, HST.out, one_put]
  have v3 : (layV X).pg = 11 := by rw [← layV_strip, HST.out, one_pg]
  have v4 : grantV X 1 = one4 := by rw [← grantV_strip, HST.out, one_grants]
  have v5 : pairV X 1 = one2 := by rw [← pairV_strip, HST.out, one_pairs]
  go_upto_region 2 with (fail)
  refine wp_gen (fun U => Hid (Ext W1 U) ∧ Hid (Row U W1.heap.size 0 [.bool false, .int .i64 2, .int .i64 8, .slice C 2 cc, .slice L 1 lc, .slice S 1 sc])) ⟨hid ((Ext.refl _).alloc _), hid (Row.new W1 _ _)⟩ ?_
  rintro W2 ⟨hx, Hb1⟩
  obtain ⟨b1, hb1⟩ : ∃ y, W1.heap.size = y := ⟨_, rfl⟩
  rw [hb1] at Hb1 ⊢
  clear hb1
  replace HI := hid (HI.out.ext hx.out)
  replace HE := hid (HE.out.trans hx.out)
  clear hx
  have HPUT : Hid (Calls Try.prog 16 #[.agg #[.bool false, .int .i64 2, .int .i64 8, .slice C 2 cc, .slice L 1 lc, .slice S 1 sc]] W2 fun e w' => ∃ A ca, e = .returned (.slice A 33 ca) ∧ Hid (OwnY w' W2.heap.size (.slice A 33 ca) p33) ∧ Hid (Ext W2 w')) := hid (by
    have h1 := put_ X W2 HI.out (by have := HXC.out.1; omega) (by have := HXC.out.2.1; omega) (by have := HXC.out.2.2.1; omega)
    rw [v2, ← HA.out] at h1
    exact h1)
  have HRT : Hid (∀ W, Ext W2 W → Calls Try.prog 14 #[.agg #[.bool false, .int .i64 2, .int .i64 8, .slice C 2 cc, .slice L 1 lc, .slice S 1 sc]] W fun e w' => e = .returned (.bool true) ∧ Ext W w') := hid (fun W hx => by
    have h1 := imRight_ X W (HI.out.ext hx) (by have := HXC.out.1; omega) (by have := HXC.out.2.1; omega) (by have := HXC.out.2.2.1; omega)
    rw [v1, ← HA.out] at h1
    exact h1)
  have HWH : Hid (∀ W, Ext W2 W → Calls Try.prog 22 #[.agg #[.bool false, .int .i64 2, .int .i64 8, .slice C 2 cc, .slice L 1 lc, .slice S 1 sc]] W fun e w' => ∃ (A0 A1 A2 A3 : Option Addr) (n0 n1 n2 n3 c0 c1 c2 c3 : Nat), e = .returned (.agg #[.slice A0 n0 c0, .slice A1 n1 c1, .slice A2 n2 c2, .slice A3 n3 c3, .int .i64 11]) ∧ Hid (Ext W w')) := hid (fun W hx => by
    have h1 := where_ X W (HI.out.ext hx) (by have := HXC.out.1; omega) (by have := HXC.out.2.1; omega) (by have := HXC.out.2.2.1; omega)
    rw [v1, v3, ← HA.out] at h1
    exact h1.mono (fun e w2 hp => by
      obtain ⟨hp, hx⟩ := hp
      rcases hp with ⟨h, _⟩ | ⟨_, y, he, hlay⟩
      · cases h
      · obtain ⟨q, base, vc, vd, vh, vs⟩ := y
        obtain ⟨A0, c0, e0, _, _⟩ := hlay.out.o0.shape
        obtain ⟨A1, c1, e1, _, _⟩ := hlay.out.o1.shape
        obtain ⟨A2, c2, e2, _, _⟩ := hlay.out.o2.shape
        obtain ⟨A3, c3, e3, _, _⟩ := hlay.out.o3.shape
        dsimp only at e0 e1 e2 e3 he
        rw [e0, e1, e2, e3] at he
        exact ⟨_, _, _, _, _, _, _, _, _, _, _, _, he, hx⟩))
  have HGR : Hid (∀ W, Ext W2 W → Calls Try.prog 25 #[.agg #[.bool false, .int .i64 2, .int .i64 8, .slice C 2 cc, .slice L 1 lc, .slice S 1 sc], .int .i64 1] W fun e w' => ∃ A ca, e = .returned (.slice A 4 ca) ∧ Hid (ownsAt w' W.heap.size 39 6 (.slice A 4 ca) 4 (rowF Cap.cells one4)) ∧ Hid (Ext W w')) := hid (fun W hx => by
    have h1 := grants_ X 1 W (HI.out.ext hx) (by have := HXC.out.1; omega) (by have := HXC.out.2.1; omega) (by have := HXC.out.2.2.1; omega) (by rw [HXC.out.2.2.2.2]; intro s hs; simp only [List.mem_cons, List.not_mem_nil, or_false] at hs; subst hs; decide)
    rw [v4, ← HA.out] at h1
    exact h1)
  have HPA : Hid (∀ W, Ext W2 W → Calls Try.prog 19 #[.agg #[.bool false, .int .i64 2, .int .i64 8, .slice C 2 cc, .slice L 1 lc, .slice S 1 sc], .int .i64 1] W fun e w' => ∃ A ca, e = .returned (.slice A 1 ca) ∧ Hid (ownsAt w' W.heap.size 40 12 (.slice A 1 ca) 1 (rowF PrF one2)) ∧ Hid (Ext W w')) := hid (fun W hx => by
    have h1 := pairs_ X 1 W (HI.out.ext hx) (by have := HXC.out.1; omega) (by have := HXC.out.2.1; omega) (by have := HXC.out.2.2.1; omega)
    rw [v5, ← HA.out] at h1
    exact h1)
  have HSM : Hid (∀ W (y : Img), Ext W2 W → ImgAt W y → y.strip = oneV → Calls Try.prog 18 #[.agg #[.bool false, .int .i64 2, .int .i64 8, .slice C 2 cc, .slice L 1 lc, .slice S 1 sc], .agg #[.bool y.strict, .int .i64 y.heap, .int .i64 y.full, .slice y.C y.comps.length y.cc, .slice y.L y.links.length y.lc, .slice y.S y.shares.length y.sc]] W fun e w' => e = .returned (.bool true) ∧ Ext W w') := hid (fun W y hx hy hs => by
    have h1 := same_ X y W (HI.out.ext hx) hy (by rw [HST.out, hs]) HXC.out.2.2.2.1 (by have := HXC.out.1; omega) (by have := HXC.out.2.1; omega) (by have := HXC.out.2.2.1; omega)
    rw [← HA.out] at h1
    exact h1)
  have HZR : Hid (∀ W, Calls Try.prog 14 #[.agg #[.bool false, .int .i64 0, .int .i64 0, .slice none 0 0, .slice none 0 0, .slice none 0 0]] W fun e w' => e = .returned (.bool false) ∧ Ext W w') := hid (fun W => by
    have h1 := imRight_ zImg W ⟨RdF.nil _ _, (fun d hd => nomatch hd), RdF.nil _ _, RdF.nil _ _⟩ (by decide) (by decide) (by decide)
    rw [z_right] at h1
    exact h1)
  clear v1 v2 v3 v4 v5 HA HXC HST
  have q := Hb1.out
  have ql := q.lt
  have qc0 := q.range 0 _ rfl
  have qc1 := q.range 1 _ rfl
  have qc2 := q.range 2 _ rfl
  have qc3 := q.range 3 _ rfl
  have qc4 := q.range 4 _ rfl
  have qc5 := q.range 5 _ rfl
  simp only [Nat.zero_add] at qc1 qc2 qc3 qc4 qc5
  clear q
  go_wp2_with fail
  refine HPUT.out.mono ?_
  rintro e W3 ⟨A, ca, rfl, HO, hx⟩
  have HCP := hid HO.out.cap_le
  have HP := hid (show RdF byF W3 A p33 from HO.out.rdF rfl)
  clear ql qc0 qc1 qc2 qc3 qc4 qc5
  replace Hb1 := hid (Hb1.out.ext hx.out)
  replace HE := hid (HE.out.trans hx.out)
  have HW23 := hid hx.out
  clear HPUT HO hx
  have HG1 : Hid (Calls Try.prog 12 #[.slice A 33 ca] W3 fun e w' => ∃ y : Img, e = .returned (.tuple #[.agg #[.bool y.strict, .int .i64 y.heap, .int .i64 y.full, .slice y.C y.comps.length y.cc, .slice y.L y.links.length y.lc, .slice y.S y.shares.length y.sc], .int .i64 0]) ∧ Hid (ImgAt w' y) ∧ Hid (IsGot p33 y) ∧ Hid (Ext W3 w')) := hid (by
    have h1 := get_ W3 A ca p33 (by_rdB HP.out) (by unfold byteL p33; decide) (by decide) HCP.out.1 HCP.out.2
    rw [one_err] at h1
    exact h1.mono (fun e w2 hp => by obtain ⟨⟨y, a, b, c⟩, d⟩ := hp; exact ⟨y, a, b, c, d⟩))
  go_wp2_with fail
  refine HG1.out.mono ?_
  rintro e W4 ⟨y, rfl, HY, hgot, hx⟩
  have HYS := hid (show y.strip = oneV by have h1 := hgot.out; unfold IsGot at h1; rw [one_err, if_pos rfl, one_got] at h1; exact h1)
  replace HP := hid (HP.out.ext hx.out)
  replace HW23 := hid (HW23.out.trans hx.out)
  replace Hb1 := hid (Hb1.out.ext hx.out)
  replace HE := hid (HE.out.trans hx.out)
  clear HG1 hgot hx
  go_upto_region 4 with (fail)
  refine wp_gen (fun U => Hid (Ext W4 U) ∧ Hid (Row U W4.heap.size 0 [.bool y.strict, .int .i64 y.heap, .int .i64 y.full, .slice y.C y.comps.length y.cc, .slice y.L y.links.length y.lc, .slice y.S y.shares.length y.sc])) ⟨hid ((Ext.refl _).alloc _), hid (Row.new W4 _ _)⟩ ?_
  rintro W5 ⟨hx, Hb3⟩
  obtain ⟨b3, hb3⟩ : ∃ y, W4.heap.size = y := ⟨_, rfl⟩
  rw [hb3] at Hb3 ⊢
  clear hb3
  replace HP := hid (HP.out.ext hx.out)
  replace HY := hid (HY.out.ext hx.out)
  replace Hb1 := hid (Hb1.out.ext hx.out)
  replace HE := hid (HE.out.trans hx.out)
  replace HW23 := hid (HW23.out.trans hx.out)
  clear hx
  have HG2 : Hid (Calls Try.prog 12 #[.slice none 0 0] W5 fun e w' => ∃ y : Img, e = .returned (.tuple #[.agg #[.bool y.strict, .int .i64 y.heap, .int .i64 y.full, .slice y.C y.comps.length y.cc, .slice y.L y.links.length y.lc, .slice y.S y.shares.length y.sc], .int .i64 1]) ∧ Hid (ImgAt w' y) ∧ Hid (IsGot [] y) ∧ Hid (Ext W5 w')) := hid (by
    have h1 := get_ W5 none 0 [] (fun h0 => absurd h0 (Nat.lt_irrefl _)) (by unfold byteL; decide) (by decide) (by decide) (by decide)
    rw [nil_err] at h1
    exact h1.mono (fun e w2 hp => by obtain ⟨⟨y, a, b, c⟩, d⟩ := hp; exact ⟨y, a, b, c, d⟩))
  go_wp2_with fail
  refine HG2.out.mono ?_
  rintro e W6 ⟨y2, rfl, _, _, hx⟩
  replace HP := hid (HP.out.ext hx.out)
  replace HY := hid (HY.out.ext hx.out)
  replace Hb3 := hid (Hb3.out.ext hx.out)
  replace HW23 := hid (HW23.out.trans hx.out)
  replace Hb1 := hid (Hb1.out.ext hx.out)
  replace HE := hid (HE.out.trans hx.out)
  clear HG2 hx
  go_upto_region 5 with (fail)
  refine wp_gen (fun U => Hid (Ext W6 U) ∧ Hid (Row U W6.heap.size 0 [.bool y2.strict, .int .i64 y2.heap, .int .i64 y2.full, .slice y2.C y2.comps.length y2.cc, .slice y2.L y2.links.length y2.lc, .slice y2.S y2.shares.length y2.sc])) ⟨hid ((Ext.refl _).alloc _), hid (Row.new W6 _ _)⟩ ?_
  rintro W7 ⟨hx, Hb5⟩
  obtain ⟨b5, hb5⟩ : ∃ y, W6.heap.size = y := ⟨_, rfl⟩
  rw [hb5] at Hb5 ⊢
  clear hb5
  replace HP := hid (HP.out.ext hx.out)
  replace HY := hid (HY.out.ext hx.out)
  replace Hb1 := hid (Hb1.out.ext hx.out)
  replace Hb3 := hid (Hb3.out.ext hx.out)
  replace HE := hid (HE.out.trans hx.out)
  replace HW23 := hid (HW23.out.trans hx.out)
  clear hx Hb5
  have hp7 : W7.heap.size ≤ W7.heap.size := Nat.le_refl _
  go_upto_region 6 with (at_builtin; refine wpList_plain rfl fun K hK => ?_; go_loud (refine wp_app_row by_len (by decide) by_one Try.underlying27 info_by (.tmp 25) (.tmp 26) rfl W7.heap.size (.slice (some ⟨W7.heap.size, 0, none⟩) 0 0) 0 (rowF byF []) rfl (own_new #[] _ 1 0 (Nat.le_refl _) rfl (by decide)) A 33 ca p33 rfl rfl (HP.out.ext ((Ext.refl _).alloc _)) (by decide) (by decide) (by rw [World.size_alloc]; omega) ?_); intro v6 w6 hown hgrow hat; obtain ⟨A6, c6, rfl, _, _⟩ := hown.shape; refine hK _ _ ?_; clear hK K)
  have HOW := hid hown
  have hex := Ext.only ((Ext.refl W7).alloc (.cells #[] 5)) (grownOnly (S := fun i => W7.heap.size ≤ i) hgrow (fun g e => by simp [Value.ownBlock] at e; omega)) (fun i hi => hi)
  have HX7 := hid hex
  have HC7 := hid HOW.out.cap_le
  obtain ⟨g7, o7, eA7, hb7, hl7, hc7, hf7⟩ := HOW.out.at_ rfl (by decide)
  obtain ⟨o8, ho8⟩ : ∃ y, o7 * 1 = y := ⟨_, rfl⟩
  rw [ho8] at eA7 hc7
  subst eA7
  have HR7 := hid (show Row w6 g7 o8 (rowF byF p33) from ⟨hl7, hc7, fun j _ => hf7 _⟩)
  have c32 := HR7.out.at_ 32 (.int .u8 0) rfl
  have f32 := HR7.out.free 32 (by decide)
  clear hown hgrow hat hex hp7 hc7 hf7 ho8 HOW
  go_upto_region 9 with (fail)
  refine wp_gen (fun U => Hid (RdF byF U (some ⟨g7, o8, none⟩) q33) ∧ Hid (Ext W7 U)) ⟨hid (RdF.ofRow (by have h1 := HR7.out.setCell (j := 32) (by decide) (.int .u8 9); rwa [show (rowF byF p33).set 32 (.int .u8 9) = rowF byF q33 by kernel_rfl] at h1)), hid (Ext.only HX7.out (Only.setCell (S := fun i => i = g7) (Only.refl (fun i => i = g7) w6) (.inl rfl) _) (fun i hi => by rw [hi]; exact hb7))⟩ ?_
  rintro W8 ⟨HQ, hx⟩
  replace HY := hid (HY.out.ext hx.out)
  replace Hb3 := hid (Hb3.out.ext hx.out)
  replace HW23 := hid (HW23.out.trans hx.out)
  replace Hb1 := hid (Hb1.out.ext hx.out)
  replace HE := hid (HE.out.trans hx.out)
  clear hx HR7 c32 f32 HX7 hb7 hl7 HP
  have HG3 : Hid (Calls Try.prog 12 #[.slice (some ⟨g7, o8, none⟩) 33 c6] W8 fun e w' => ∃ y : Img, e = .returned (.tuple #[.agg #[.bool y.strict, .int .i64 y.heap, .int .i64 y.full, .slice y.C y.comps.length y.cc, .slice y.L y.links.length y.lc, .slice y.S y.shares.length y.sc], .int .i64 151]) ∧ Hid (ImgAt w' y) ∧ Hid (IsGot q33 y) ∧ Hid (Ext W8 w')) := hid (by
    have h1 := get_ W8 (some ⟨g7, o8, none⟩) c6 q33 (by_rdB HQ.out) (by unfold byteL q33; decide) (by decide) HC7.out.1 HC7.out.2
    rw [bad_err] at h1
    exact h1.mono (fun e w2 hp => by obtain ⟨⟨y, a, b, c⟩, d⟩ := hp; exact ⟨y, a, b, c, d⟩))
  go_wp2_with fail
  refine HG3.out.mono ?_
  rintro e W9 ⟨y3, rfl, _, _, hx⟩
  replace HY := hid (HY.out.ext hx.out)
  replace Hb3 := hid (Hb3.out.ext hx.out)
  replace HW23 := hid (HW23.out.trans hx.out)
  replace Hb1 := hid (Hb1.out.ext hx.out)
  replace HE := hid (HE.out.trans hx.out)
  clear HG3 hx HQ HC7
  go_upto_region 10 with (fail)
  refine wp_gen (fun U => Hid (Ext W9 U) ∧ Hid (Row U W9.heap.size 0 [.bool y3.strict, .int .i64 y3.heap, .int .i64 y3.full, .slice y3.C y3.comps.length y3.cc, .slice y3.L y3.links.length y3.lc, .slice y3.S y3.shares.length y3.sc])) ⟨hid ((Ext.refl _).alloc _), hid (Row.new W9 _ _)⟩ ?_
  rintro WA ⟨hx, Hb8⟩
  obtain ⟨b8, hb8⟩ : ∃ y, W9.heap.size = y := ⟨_, rfl⟩
  rw [hb8] at Hb8 ⊢
  clear hb8
  replace HY := hid (HY.out.ext hx.out)
  replace Hb1 := hid (Hb1.out.ext hx.out)
  replace Hb3 := hid (Hb3.out.ext hx.out)
  replace HE := hid (HE.out.trans hx.out)
  replace HW23 := hid (HW23.out.trans hx.out)
  clear hx Hb8
  have q := Hb1.out
  have ql := q.lt
  have qc0 := q.range 0 _ rfl
  have qc1 := q.range 1 _ rfl
  have qc2 := q.range 2 _ rfl
  have qc3 := q.range 3 _ rfl
  have qc4 := q.range 4 _ rfl
  have qc5 := q.range 5 _ rfl
  simp only [Nat.zero_add] at qc1 qc2 qc3 qc4 qc5
  clear q
  go_wp2_with fail
  refine (HWH.out WA HW23.out).mono ?_
  rintro e WB ⟨A0, A1, A2, A3, n0, n1, n2, n3, c0, c1, c2, c3, rfl, hx⟩
  clear ql qc0 qc1 qc2 qc3 qc4 qc5
  replace HY := hid (HY.out.ext hx.out)
  replace Hb3 := hid (Hb3.out.ext hx.out)
  replace HW23 := hid (HW23.out.trans hx.out)
  replace Hb1 := hid (Hb1.out.ext hx.out)
  replace HE := hid (HE.out.trans hx.out)
  clear HWH hx
  go_upto_region 11 with (fail)
  refine wp_gen (fun U => Hid (Ext WB U) ∧ Hid (Row U WB.heap.size 0 [.slice A0 n0 c0, .slice A1 n1 c1, .slice A2 n2 c2, .slice A3 n3 c3, .int .i64 11])) ⟨hid ((Ext.refl _).alloc _), hid (Row.new WB _ _)⟩ ?_
  rintro WC ⟨hx, Hb10⟩
  obtain ⟨b10, hb10⟩ : ∃ y, WB.heap.size = y := ⟨_, rfl⟩
  rw [hb10] at Hb10 ⊢
  clear hb10
  replace HY := hid (HY.out.ext hx.out)
  replace Hb1 := hid (Hb1.out.ext hx.out)
  replace Hb3 := hid (Hb3.out.ext hx.out)
  replace HE := hid (HE.out.trans hx.out)
  replace HW23 := hid (HW23.out.trans hx.out)
  clear hx
  have q := Hb1.out
  have ql := q.lt
  have qc0 := q.range 0 _ rfl
  have qc1 := q.range 1 _ rfl
  have qc2 := q.range 2 _ rfl
  have qc3 := q.range 3 _ rfl
  have qc4 := q.range 4 _ rfl
  have qc5 := q.range 5 _ rfl
  simp only [Nat.zero_add] at qc1 qc2 qc3 qc4 qc5
  clear q
  go_wp2_with fail
  refine (HGR.out WC HW23.out).mono ?_
  rintro e WD ⟨GA, gca, rfl, HOG, hx⟩
  clear ql qc0 qc1 qc2 qc3 qc4 qc5
  have HGA := hid (show RdF Cap.cells WD GA one4 from HOG.out.rdF rfl)
  replace HY := hid (HY.out.ext hx.out)
  replace Hb3 := hid (Hb3.out.ext hx.out)
  replace Hb10 := hid (Hb10.out.ext hx.out)
  replace HW23 := hid (HW23.out.trans hx.out)
  replace Hb1 := hid (Hb1.out.ext hx.out)
  replace HE := hid (HE.out.trans hx.out)
  clear HGR hx HOG
  have q := Hb1.out
  have ql := q.lt
  have qc0 := q.range 0 _ rfl
  have qc1 := q.range 1 _ rfl
  have qc2 := q.range 2 _ rfl
  have qc3 := q.range 3 _ rfl
  have qc4 := q.range 4 _ rfl
  have qc5 := q.range 5 _ rfl
  simp only [Nat.zero_add] at qc1 qc2 qc3 qc4 qc5
  clear q
  go_wp2_with fail
  refine (HPA.out WD HW23.out).mono ?_
  rintro e WE ⟨PA, pca, rfl, HOP, hx⟩
  clear ql qc0 qc1 qc2 qc3 qc4 qc5
  have HPR := hid (show RdF PrF WE PA one2 from HOP.out.rdF rfl)
  replace HGA := hid (HGA.out.ext hx.out)
  replace HY := hid (HY.out.ext hx.out)
  replace Hb3 := hid (Hb3.out.ext hx.out)
  replace Hb10 := hid (Hb10.out.ext hx.out)
  replace HW23 := hid (HW23.out.trans hx.out)
  replace Hb1 := hid (Hb1.out.ext hx.out)
  replace HE := hid (HE.out.trans hx.out)
  clear HPA hx HOP
  have q := Hb1.out
  have ql := q.lt
  have qc0 := q.range 0 _ rfl
  have qc1 := q.range 1 _ rfl
  have qc2 := q.range 2 _ rfl
  have qc3 := q.range 3 _ rfl
  have qc4 := q.range 4 _ rfl
  have qc5 := q.range 5 _ rfl
  simp only [Nat.zero_add] at qc1 qc2 qc3 qc4 qc5
  clear q
  have r := Hb3.out
  have rl := r.lt
  have rc0 := r.range 0 _ rfl
  have rc1 := r.range 1 _ rfl
  have rc2 := r.range 2 _ rfl
  have rc3 := r.range 3 _ rfl
  have rc4 := r.range 4 _ rfl
  have rc5 := r.range 5 _ rfl
  simp only [Nat.zero_add] at rc1 rc2 rc3 rc4 rc5
  clear r
  go_wp2_with fail
  refine (HSM.out WE y HW23.out HY.out HYS.out).mono ?_
  rintro e WF ⟨rfl, hx⟩
  clear ql qc0 qc1 qc2 qc3 qc4 qc5
  clear rl rc0 rc1 rc2 rc3 rc4 rc5
  replace HGA := hid (HGA.out.ext hx)
  replace HPR := hid (HPR.out.ext hx)
  replace Hb10 := hid (Hb10.out.ext hx)
  replace HW23 := hid (HW23.out.trans hx)
  replace Hb1 := hid (Hb1.out.ext hx)
  replace HE := hid (HE.out.trans hx)
  clear HSM hx HY HYS Hb3
  have z4 := Hb10.out.range 4 _ rfl
  have z4l := Hb10.out.lt
  simp only [Nat.zero_add] at z4
  obtain ⟨gg, go, eG, hgl, hgr1⟩ := HGA.out.elem cap_len (k := 1) (by decide) ⟨true, 1536, 2048, 1536, 27, 0⟩ rfl
  obtain ⟨gg2, go2, eG2, _, hgr3⟩ := HGA.out.elem cap_len (k := 3) (by decide) ⟨true, 2560, 2816, 2560, 1, 0⟩ rfl
  subst eG
  cases eG2
  obtain ⟨gp, po, eP, hpl, hpr⟩ := HPR.out.elem pr_len (k := 0) (by decide) (⟨true, 256, 264, 260, 5, 2⟩, ⟨true, 512, 768, 512, 27, 2⟩) rfl
  subst eP
  have x0 := hgr1 0 _ rfl
  have x1 := hgr1 1 _ rfl
  have x2 := hgr1 2 _ rfl
  have x3 := hgr1 3 _ rfl
  have x4 := hgr1 4 _ rfl
  have x5 := hgr1 5 _ rfl
  have x9 := hgr3 4 _ rfl
  have y0 := hpr 0 _ rfl
  have y1 := hpr 1 _ rfl
  have y2 := hpr 2 _ rfl
  have y3 := hpr 3 _ rfl
  have y4 := hpr 4 _ rfl
  have y5 := hpr 5 _ rfl
  have y7 := hpr 7 _ rfl
  simp only [Nat.zero_mul, Nat.add_zero] at y0 y1 y2 y3 y4 y5 y7
  simp only [Nat.one_mul, Nat.add_zero] at x0 x1 x2 x3 x4 x5
  clear hgr1 hgr3 hpr
  have q := Hb1.out
  have ql := q.lt
  have qc0 := q.range 0 _ rfl
  have qc1 := q.range 1 _ rfl
  have qc2 := q.range 2 _ rfl
  have qc3 := q.range 3 _ rfl
  have qc4 := q.range 4 _ rfl
  have qc5 := q.range 5 _ rfl
  simp only [Nat.zero_add] at qc1 qc2 qc3 qc4 qc5
  clear q
  go_wp2_with fail
  refine (HRT.out WF HW23.out).mono ?_
  rintro e WG ⟨rfl, hx1⟩
  go_wp2_with fail
  refine (HZR.out WG).mono ?_
  rintro e WH ⟨rfl, hx2⟩
  go_wp2
  go_ret
  exact ⟨rfl, (HE.out.trans hx1).trans hx2⟩

end Go.Proofs.Ytgldlkoohfclpaa
