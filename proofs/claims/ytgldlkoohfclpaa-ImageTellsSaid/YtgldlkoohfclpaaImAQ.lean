/- Layer 17: the document: Get. -/
import Derived.Test.YtgldlkoohfclpaaImAP
import Derived.Test.YtgldlkoohfclpaaImX
import Derived.Deep.DeepCutAuto
namespace Go.Proofs.Ytgldlkoohfclpaa
set_option linter.unusedSimpArgs false
set_option linter.unusedVariables false
open Go.RowKit

theorem form_strip (x : Img) : formV x.strip = formV x := by
  have h2 : (x.comps.map Cmp.strip).all cF = x.comps.all cF := by
    rw [List.all_map]
    exact all_cg fun c _ => rfl
  have h3 : lF x.strip = lF x := by
    funext i l
    unfold lF
    show (!outB l.fr 0 (((x.comps.map Cmp.strip).length : Int) - 1) && (!outB l.to_ 0 (((x.comps.map Cmp.strip).length : Int) - 1) && (!(l.fr == l.to_) && (!decide (l.at_ < 0) && (!decide (l.at_ ≥ lenC (x.comps.map Cmp.strip) l.to_ / 4) && _))))) = _
    rw [List.length_map, lenC_strip]
    rfl
  have h1 : n5 x.strip = n5 x := by
    unfold n5
    rw [show x.strip.comps.length = x.comps.length by unfold Img.strip; simp]
    rfl
  unfold formV
  rw [h1, h3]
  show (_ && ((x.comps.map Cmp.strip).all cF && (_ && x.shares.all (sF (x.comps.map Cmp.strip).length)))) = _
  rw [h2, List.length_map]
  rfl
theorem byV_strip (x : Img) : byV x.strip = byV x := by
  unfold byV
  rw [hdB_strip]
  show _ ++ (x.comps.map Cmp.strip).flatMap (·.bl) = _
  rw [flatMap_strip _ _ (fun _ => rfl)]
theorem wrap_nat (n : Nat) (h : n ≤ 1000000) : IntKind.i64.wrap (n : Int) = (n : Int) := wraps_64 _ (by omega) (by omega)
/-- The compartments while codes are read: those before k have theirs. -/
def CD (bl : List Int) (nc k : Nat) (cs : List Cmp) : Prop := cs.length = nc ∧ ∀ i d, cs[i]? = some d → (i < k → d.strip = cmC bl i) ∧ (k ≤ i → d = cm0 bl i)
theorem CD.done {bl : List Int} {nc : Nat} {cs : List Cmp} (h : CD bl nc nc cs) : cs.map Cmp.strip = (List.range nc).map (cmC bl) := map_of_at h.1 (fun i d hd => (h.2 i d hd).1 (by have := (List.getElem?_eq_some_iff.1 hd).1; rw [h.1] at this; exact this))
theorem CD.start {bl : List Int} {nc : Nat} : CD bl nc 0 ((List.range nc).map (cm0 bl)) := ⟨by simp, fun i d hd => ⟨fun h => absurd h (Nat.not_lt_zero _), fun _ => (ZK.start.2 i d hd).2 (Nat.zero_le _)⟩⟩
theorem CD.step {bl : List Int} {nc k ca : Nat} {A : Option Addr} {cs : List Cmp} {d : Cmp} {m : List Int} (h : CD bl nc k cs) (hd : cs[k]? = some d) (hm : m = (bl.drop (gFrom bl + gSum bl k)).take (lnN bl k)) : CD bl nc (k + 1) (cs.set k ⟨A, ca, m, d.data⟩) := by
  have hk := (List.getElem?_eq_some_iff.1 hd).1
  refine ⟨by rw [List.length_set, h.1], fun i e he => ?_⟩
  rw [List.getElem?_set] at he
  split at he
  · rename_i hik
    subst hik
    cases he
    refine ⟨fun _ => ?_, fun h2 => by omega⟩
    rw [(h.2 k d hd).2 (Nat.le_refl _), hm]
    rfl
  · exact ⟨fun h2 => (h.2 i e he).1 (by omega), fun h2 => (h.2 i e he).2 (by omega)⟩
theorem rdF_sub {W : World} {ib io ca qa m : Nat} {bl : List Int} (h : RdF byF W (some ⟨ib, io, none⟩) bl) (hm : qa + m ≤ bl.length) (hc : bl.length ≤ ca) : RdF byF W (if ca = qa then some ⟨ib, io, none⟩ else some ⟨ib, io + qa, none⟩) ((bl.drop qa).take m) := by
  split
  · next e =>
    have h0 : m = 0 := by omega
    subst h0
    rw [List.take_zero]
    exact RdF.nil _ _
  · have h1 := (h.drop by_len qa).take by_len m
    rwa [Nat.mul_one] at h1
attribute [local irreducible] wpStep
set_option maxRecDepth 100000 in
set_option maxHeartbeats 4000000 in
theorem rget_ (w : World) (A : Option Addr) (ca : Nat) (bl : List Int) (h : RdB w A bl) (hb : byteL bl) (hn : bl.length ≤ 100000) (hc : bl.length ≤ ca) (hm : ca ≤ maxLen) : Calls Try.prog 13 #[.slice A bl.length ca] w fun e w' => (∃ x : Img, e = .returned (.tuple #[.agg #[.bool x.strict, .int .i64 x.heap, .int .i64 x.full, .slice x.C x.comps.length x.cc, .slice x.L x.links.length x.lc, .slice x.S x.shares.length x.sc], .int .i64 (gErr bl)]) ∧ Hid (ImgAt w' x) ∧ Hid (IsGot bl x)) ∧ Hid (Ext w w') := by
  have HGE1 := hid (show bl.length < gFrom bl → gErr bl = 1 from fun h2 => by unfold gErr; rw [if_pos (by omega)])
  have HREQ := hid (rErr_eq hb)
  have HBB := hid (fun k => atB_byte hb k)
  have HAT := hid (show ∀ j, j < bl.length → bl[j]? = some (atB bl j) from fun j hj => by unfold atB; rw [List.getElem?_eq_getElem hj]; rfl)
  have HRD := hid (rdB_by h)
  have HRB := hid h
  have HBL := hid hb
  obtain ⟨n, hn'⟩ : ∃ y, bl.length = y := ⟨_, rfl⟩
  have HN := hid hn'
  have HGF0 := hid (show 9 ≤ gFrom bl by unfold gFrom; omega)
  rw [hn'] at hn hc HGE1 HAT
  rw [hn']
  clear hn' h hb
  by_cases h9 : n < 9
  · have h9i : (n : Int) < 9 := by omega
    have HE1 := hid (HGE1.out (by have := HGF0.out; omega))
    go_enter Try.func13, Try.ntmps13
    go_upto_region 1 with (fail)
    refine wp_gen (fun V => Hid (Ext w V) ∧ Hid (Row V w.heap.size 0 [.bool false, .int .i64 0, .int .i64 0, .slice none 0 0, .slice none 0 0, .slice none 0 0])) ⟨hid (by repeat (first | (with_reducible exact Ext.refl _) | (with_reducible refine Ext.undrew ?_) | (with_reducible refine Ext.grow ?_ _) | (with_reducible refine Ext.drew ?_) | (with_reducible refine Ext.drewN ?_ _) | (with_reducible refine Ext.alloc ?_ _) | (with_reducible assumption) | ((with_reducible refine Ext.setCell ?_ ?_ _); rotate_left; (first | exact Nat.le_refl _ | ((try dsimp only); (try simp only [World.size_alloc, grow_size, World.size_setCell]); omega))))), hid (Row.new w _ _)⟩ ?_
    rintro V ⟨HV, HR⟩
    obtain ⟨p, hp⟩ : ∃ y, w.heap.size = y := ⟨_, rfl⟩
    have hwp : w.heap.size ≤ p := by omega
    rw [hp] at HR ⊢
    clear hp
    have r1 := HR.out
    have r1l := r1.lt
    have r1c0 := r1.range 0 _ rfl
    have r1f0 := r1.free 0 (by show 0 < 6; decide)
    have r1c1 := r1.range 1 _ rfl
    have r1f1 := r1.free 1 (by show 1 < 6; decide)
    have r1c2 := r1.range 2 _ rfl
    have r1f2 := r1.free 2 (by show 2 < 6; decide)
    have r1c3 := r1.range 3 _ rfl
    have r1f3 := r1.free 3 (by show 3 < 6; decide)
    have r1c4 := r1.range 4 _ rfl
    have r1f4 := r1.free 4 (by show 4 < 6; decide)
    have r1c5 := r1.range 5 _ rfl
    have r1f5 := r1.free 5 (by show 5 < 6; decide)
    simp only [Nat.zero_add] at r1c1 r1c2 r1c3 r1c4 r1c5 r1f1 r1f2 r1f3 r1f4 r1f5
    clear r1
    go_wp2
    refine bodyPost_ret (v := .tuple #[.agg #[.bool false, .int .i64 0, .int .i64 0, .slice none 0 0, .slice none 0 0, .slice none 0 0], .int .i64 1]) (by simp [results, Try.results13, go_sem, r1l, r1c0, r1c1, r1c2, r1c3, r1c4, r1c5]) rfl ?_
    have HFN := hid (Only.setCell (S := (fun i => i = p)) (Only.setCell (S := (fun i => i = p)) (Only.setCell (S := (fun i => i = p)) (Only.setCell (S := (fun i => i = p)) (Only.setCell (S := (fun i => i = p)) (Only.setCell (S := (fun i => i = p)) (Only.refl (fun i => i = p) V) (.inl rfl) (o := 0) (.bool false)) (.inl rfl) (o := 1) (.int .i64 0)) (.inl rfl) (o := 2) (.int .i64 0)) (.inl rfl) (o := 3) (.slice none 0 0)) (.inl rfl) (o := 4) (.slice none 0 0)) (.inl rfl) (o := 5) (.slice none 0 0))
    exact ⟨⟨zImg, by rw [HE1.out]; rfl, hid ⟨RdF.nil _ _, (fun d hd => nomatch hd), RdF.nil _ _, RdF.nil _ _⟩, hid (by unfold IsGot; rw [HE1.out]; rfl)⟩, hid (Ext.only HV.out HFN.out (fun i hi => by rw [hi]; exact hwp))⟩
  · have h9i : ¬ (n : Int) < 9 := by omega
    obtain ⟨ib, io, rfl, hib, hby⟩ := HRD.out (by rw [HN.out]; omega)
    have HIB := hid hib
    have HBY := hid (show ∀ W, Ext w W → ∀ j y, bl[j]? = some y → W.cell? ⟨ib, io + j, none⟩ = some (.int .u8 y) from fun W hx j y hj => (hx.cells _ _ hib).trans (hby j _ (by rw [rowF_by, List.getElem?_map, hj]; rfl)))
    clear hib hby HRD
    obtain ⟨y2, hy2'⟩ : ∃ y, atB bl 2 = y := ⟨_, rfl⟩
    obtain ⟨y3, hy3'⟩ : ∃ y, atB bl 3 = y := ⟨_, rfl⟩
    obtain ⟨y4, hy4'⟩ : ∃ y, atB bl 4 = y := ⟨_, rfl⟩
    obtain ⟨y5, hy5'⟩ : ∃ y, atB bl 5 = y := ⟨_, rfl⟩
    obtain ⟨hy3a, hy3b⟩ : 0 ≤ y3 ∧ y3 ≤ 255 := by rw [← hy3']; exact HBB.out 3
    obtain ⟨hy4a, hy4b⟩ : 0 ≤ y4 ∧ y4 ≤ 255 := by rw [← hy4']; exact HBB.out 4
    obtain ⟨hy5a, hy5b⟩ : 0 ≤ y5 ∧ y5 ≤ 255 := by rw [← hy5']; exact HBB.out 5
    obtain ⟨nc, hnc⟩ : ∃ y, hN bl 6 = y := ⟨_, rfl⟩
    obtain ⟨nl, hnl⟩ : ∃ y, hN bl 7 = y := ⟨_, rfl⟩
    obtain ⟨ns, hns⟩ : ∃ y, hN bl 8 = y := ⟨_, rfl⟩
    have HNC := hid hnc
    have HNL := hid hnl
    have HNS := hid hns
    have HA6 := hid (show atB bl 6 = (nc : Int) by rw [← hnc, ← (hN_eq HBL.out 6).1, numB_one])
    have HA7 := hid (show atB bl 7 = (nl : Int) by rw [← hnl, ← (hN_eq HBL.out 7).1, numB_one])
    have HA8 := hid (show atB bl 8 = (ns : Int) by rw [← hns, ← (hN_eq HBL.out 8).1, numB_one])
    have hnc5 : nc ≤ 255 := by rw [← hnc]; exact (hN_eq HBL.out 6).2
    have hnl5 : nl ≤ 255 := by rw [← hnl]; exact (hN_eq HBL.out 7).2
    have hns5 : ns ≤ 255 := by rw [← hns]; exact (hN_eq HBL.out 8).2
    have HGFE := hid (show gFrom bl = 9 + 3 * nc + 4 * nl + 2 * ns by unfold gFrom; rw [hnc, hnl, hns])
    clear hnc hnl hns HGF0
    go_enter Try.func13, Try.ntmps13
    go_upto_region 1 with (fail)
    refine wp_gen (fun V => Hid (Ext w V) ∧ Hid (Row V w.heap.size 0 [.bool false, .int .i64 0, .int .i64 0, .slice none 0 0, .slice none 0 0, .slice none 0 0])) ⟨hid (by repeat (first | (with_reducible exact Ext.refl _) | (with_reducible refine Ext.undrew ?_) | (with_reducible refine Ext.grow ?_ _) | (with_reducible refine Ext.drew ?_) | (with_reducible refine Ext.drewN ?_ _) | (with_reducible refine Ext.alloc ?_ _) | (with_reducible assumption) | ((with_reducible refine Ext.setCell ?_ ?_ _); rotate_left; (first | exact Nat.le_refl _ | ((try dsimp only); (try simp only [World.size_alloc, grow_size, World.size_setCell]); omega))))), hid (Row.new w _ _)⟩ ?_
    rintro V ⟨HV, HR⟩
    obtain ⟨p, hp⟩ : ∃ y, w.heap.size = y := ⟨_, rfl⟩
    have hwp : w.heap.size ≤ p := by omega
    rw [hp] at HR ⊢
    clear hp
    go_upto_region 3 with (fail)
    refine wp_region_step (.rd 0 (.rd 1 (.rd 2 (.rd 3 (.rd 4 (.rd 5 (.rd 6 (.rd 7 (.rd 8 (.rd 9 (.rd 10 (.rd 11 (.rd 12 (.rd 13 (.rd 14 (.rd 15 (.rd 16 (.rd 17 (.rd 18 (.ac 19 (.ac 20 .done))))))))))))))))))))) (by kernel_rfl) (by kernel_rfl) (fun _ _ d _ _ h => by cases d <;> exact h) (by simp only [Ord.map, nthOp, List.append]; rfl) ?_
    intro d0
    have HU0 := hid (Ext.grow (Ext.refl V) d0)
    generalize Go.Proofs.Ytgldlkoohfclpaa.grow V d0 = U0 at HU0 ⊢
    have hil := Nat.lt_of_lt_of_le HIB.out (HV.out.trans HU0.out).size
    have hy2 := HBY.out U0 (HV.out.trans HU0.out) (2) _ ((HAT.out 2 (by omega)).trans (by rw [hy2']))
    have hy3 := HBY.out U0 (HV.out.trans HU0.out) (3) _ ((HAT.out 3 (by omega)).trans (by rw [hy3']))
    have hy4 := HBY.out U0 (HV.out.trans HU0.out) (4) _ ((HAT.out 4 (by omega)).trans (by rw [hy4']))
    have hy5 := HBY.out U0 (HV.out.trans HU0.out) (5) _ ((HAT.out 5 (by omega)).trans (by rw [hy5']))
    refine step_read (by rfl) (fun K hK => ?_)
    go_big_quiet_op
    refine hK _ ?_
    clear hK K
    refine step_read (by rfl) (fun K hK => ?_)
    go_big_quiet_op
    refine hK _ ?_
    clear hK K
    refine step_read (by rfl) (fun K hK => ?_)
    go_big_quiet_op
    refine hK _ ?_
    clear hK K
    refine step_read (by rfl) (fun K hK => ?_)
    refine quiet_runD 22 rfl (.bool (y2 == 1)) (fun w => by go_simp) ?_
    refine hK _ ?_
    clear hK K
    simp only [Act.put, List.setIfInBounds_toArray, List.set_cons_zero, List.set_cons_succ]
    refine step_read (by rfl) (fun K hK => ?_)
    go_big_quiet_op
    refine hK _ ?_
    clear hK K
    refine step_read (by rfl) (fun K hK => ?_)
    go_big_quiet_op
    refine hK _ ?_
    clear hK K
    refine step_read (by rfl) (fun K hK => ?_)
    go_big_quiet_op
    refine hK _ ?_
    clear hK K
    refine step_read (by rfl) (fun K hK => ?_)
    refine quiet_runD 26 rfl (.int .i64 y3) (fun w => by first | (go_simp; done) | (go_simp; exact wraps_64 _ (by omega) (by omega)) | (go_simp; first | omega | (rw [wraps_64 _ (by omega) (by omega)]; omega))) ?_
    refine hK _ ?_
    clear hK K
    simp only [Act.put, List.setIfInBounds_toArray, List.set_cons_zero, List.set_cons_succ]
    refine step_read (by rfl) (fun K hK => ?_)
    go_big_quiet_op
    refine hK _ ?_
    clear hK K
    refine step_read (by rfl) (fun K hK => ?_)
    go_big_quiet_op
    refine hK _ ?_
    clear hK K
    refine step_read (by rfl) (fun K hK => ?_)
    go_big_quiet_op
    refine hK _ ?_
    clear hK K
    refine step_read (by rfl) (fun K hK => ?_)
    refine quiet_runD 30 rfl (.int .i64 y4) (fun w => by first | (go_simp; done) | (go_simp; exact wraps_64 _ (by omega) (by omega)) | (go_simp; first | omega | (rw [wraps_64 _ (by omega) (by omega)]; omega))) ?_
    refine hK _ ?_
    clear hK K
    simp only [Act.put, List.setIfInBounds_toArray, List.set_cons_zero, List.set_cons_succ]
    refine step_read (by rfl) (fun K hK => ?_)
    refine quiet_runD 31 rfl (.int .i64 (256 * y4)) (fun w => by first | (go_simp; done) | (go_simp; exact wraps_64 _ (by omega) (by omega)) | (go_simp; first | omega | (rw [wraps_64 _ (by omega) (by omega)]; omega))) ?_
    refine hK _ ?_
    clear hK K
    simp only [Act.put, List.setIfInBounds_toArray, List.set_cons_zero, List.set_cons_succ]
    refine step_read (by rfl) (fun K hK => ?_)
    go_big_quiet_op
    refine hK _ ?_
    clear hK K
    refine step_read (by rfl) (fun K hK => ?_)
    go_big_quiet_op
    refine hK _ ?_
    clear hK K
    refine step_read (by rfl) (fun K hK => ?_)
    go_big_quiet_op
    refine hK _ ?_
    clear hK K
    refine step_read (by rfl) (fun K hK => ?_)
    refine quiet_runD 35 rfl (.int .i64 y5) (fun w => by first | (go_simp; done) | (go_simp; exact wraps_64 _ (by omega) (by omega)) | (go_simp; first | omega | (rw [wraps_64 _ (by omega) (by omega)]; omega))) ?_
    refine hK _ ?_
    clear hK K
    simp only [Act.put, List.setIfInBounds_toArray, List.set_cons_zero, List.set_cons_succ]
    refine step_read (by rfl) (fun K hK => ?_)
    refine quiet_runD 36 rfl (.int .i64 (256 * y4 + y5)) (fun w => by first | (go_simp; done) | (go_simp; exact wraps_64 _ (by omega) (by omega)) | (go_simp; first | omega | (rw [wraps_64 _ (by omega) (by omega)]; omega))) ?_
    refine hK _ ?_
    clear hK K
    simp only [Act.put, List.setIfInBounds_toArray, List.set_cons_zero, List.set_cons_succ]
    refine step_read (by rfl) (fun K hK => ?_)
    go_big_quiet_op
    refine hK _ ?_
    clear hK K
    refine step_act (by rfl) (fun K hK => ?_)
    go_wp2_with fail
    refine ⟨_, Ext.refl _, (Ext.refl _).alloc _, ?_⟩
    refine step_act (by rfl) (fun K hK => ?_)
    go_wp2_with fail
    refine ⟨_, Ext.refl _, (by repeat (first | (with_reducible exact Ext.refl _) | (with_reducible refine Ext.undrew ?_) | (with_reducible refine Ext.grow ?_ _) | (with_reducible refine Ext.drew ?_) | (with_reducible refine Ext.drewN ?_ _) | (with_reducible refine Ext.alloc ?_ _) | (with_reducible assumption) | ((with_reducible refine Ext.setCell ?_ ?_ _); rotate_left; (first | exact Nat.le_refl _ | ((try dsimp only); (try simp only [World.size_alloc, grow_size, World.size_setCell]); omega))))), ?_⟩
    refine step_nil ?_
    go_upto_region 4 with (fail)
    refine wp_gen (fun W => Hid (Ext U0 W) ∧ Hid (Row W U0.heap.size 0 [.bool (y2 == 1), .int .i64 y3, .int .i64 (256 * y4 + y5), .slice none 0 0, .slice none 0 0, .slice none 0 0])) ⟨hid (by repeat (first | (with_reducible exact Ext.refl _) | (with_reducible refine Ext.undrew ?_) | (with_reducible refine Ext.grow ?_ _) | (with_reducible refine Ext.drew ?_) | (with_reducible refine Ext.drewN ?_ _) | (with_reducible refine Ext.alloc ?_ _) | (with_reducible assumption) | ((with_reducible refine Ext.setCell ?_ ?_ _); rotate_left; (first | exact Nat.le_refl _ | ((try dsimp only); (try simp only [World.size_alloc, grow_size, World.size_setCell]); omega))))), hid ?_⟩ ?_
    · exact Row.new U0 _ _
    rintro W1 ⟨HX1, HG1⟩
    have HP1 := hid (HR.out.ext (HU0.out.trans HX1.out))
    have HEW := hid (HV.out.trans (HU0.out.trans HX1.out))
    obtain ⟨g, hg⟩ : ∃ y, U0.heap.size = y := ⟨_, rfl⟩
    have hpg : p < g := by have h2 := HU0.out.size; have h3 := HR.out.lt; omega
    rw [hg] at HG1 ⊢
    obtain ⟨base, hbase⟩ : ∃ y, g + 1 = y := ⟨_, rfl⟩
    have HB := hid (show GB w W1 p g base (.bool (y2 == 1)) (.int .i64 y3) (.int .i64 (256 * y4 + y5)) (.slice none 0 0) (.slice none 0 0) (.slice none 0 0) (.slice none 0 0) [] [] [] [] from { wp := hwp, pg := hpg, gb := by omega, bs := by have := HG1.out.lt; omega, ew := HEW.out, rp := HP1.out, rg := HG1.out, oc := ownsAt_nil _ _ _ _, ol := ownsAt_nil _ _ _ _, os := ownsAt_nil _ _ _ _, on := ownsAt_nil _ _ _ _, a01 := fun b e => by simp [Value.ownBlock] at e, a02 := fun b e => by simp [Value.ownBlock] at e, a03 := fun b e => by simp [Value.ownBlock] at e, a12 := fun b e => by simp [Value.ownBlock] at e, a13 := fun b e => by simp [Value.ownBlock] at e, a23 := fun b e => by simp [Value.ownBlock] at e })
    clear hg hbase HX1 HG1 HP1 HU0 HR HV hil hy2 hy3 hy4 hy5
    have hil := Nat.lt_of_lt_of_le HIB.out HEW.out.size
    have hy6 := HBY.out W1 HEW.out 6 _ ((HAT.out 6 (by omega)).trans (by rw [HA6.out]))
    have hy7 := HBY.out W1 HEW.out 7 _ ((HAT.out 7 (by omega)).trans (by rw [HA7.out]))
    have hy8 := HBY.out W1 HEW.out 8 _ ((HAT.out 8 (by omega)).trans (by rw [HA8.out]))
    go_upto_region 8 with (fail)
    clear hil hy6 hy7 hy8
    by_cases hgf : n < gFrom bl
    · have hgi : (n : Int) < 9 + 3 * (nc : Int) + 4 * (nl : Int) + 2 * (ns : Int) := by have := HGFE.out; omega
      have HE1 := hid (HGE1.out hgf)
      have r1 := HB.out.rp
      have r1l := r1.lt
      have r1c0 := r1.range 0 _ rfl
      have r1f0 := r1.free 0 (by show 0 < 6; decide)
      have r1c1 := r1.range 1 _ rfl
      have r1f1 := r1.free 1 (by show 1 < 6; decide)
      have r1c2 := r1.range 2 _ rfl
      have r1f2 := r1.free 2 (by show 2 < 6; decide)
      have r1c3 := r1.range 3 _ rfl
      have r1f3 := r1.free 3 (by show 3 < 6; decide)
      have r1c4 := r1.range 4 _ rfl
      have r1f4 := r1.free 4 (by show 4 < 6; decide)
      have r1c5 := r1.range 5 _ rfl
      have r1f5 := r1.free 5 (by show 5 < 6; decide)
      simp only [Nat.zero_add] at r1c1 r1c2 r1c3 r1c4 r1c5 r1f1 r1f2 r1f3 r1f4 r1f5
      clear r1
      go_wp2
      refine bodyPost_ret (v := .tuple #[.agg #[.bool false, .int .i64 0, .int .i64 0, .slice none 0 0, .slice none 0 0, .slice none 0 0], .int .i64 1]) (by simp [results, Try.results13, go_sem, r1l, r1c0, r1c1, r1c2, r1c3, r1c4, r1c5]) rfl ?_
      have HFN := hid (Only.setCell (S := (fun i => i = p)) (Only.setCell (S := (fun i => i = p)) (Only.setCell (S := (fun i => i = p)) (Only.setCell (S := (fun i => i = p)) (Only.setCell (S := (fun i => i = p)) (Only.setCell (S := (fun i => i = p)) (Only.refl (fun i => i = p) W1) (.inl rfl) (o := 0) (.bool false)) (.inl rfl) (o := 1) (.int .i64 0)) (.inl rfl) (o := 2) (.int .i64 0)) (.inl rfl) (o := 3) (.slice none 0 0)) (.inl rfl) (o := 4) (.slice none 0 0)) (.inl rfl) (o := 5) (.slice none 0 0))
      exact ⟨⟨zImg, by rw [HE1.out]; rfl, hid ⟨RdF.nil _ _, (fun d hd => nomatch hd), RdF.nil _ _, RdF.nil _ _⟩, hid (by unfold IsGot; rw [HE1.out]; rfl)⟩, hid (Ext.only HB.out.ew HFN.out (fun i hi => by rw [hi]; exact hwp))⟩
    · have hgi : ¬ (n : Int) < 9 + 3 * (nc : Int) + 4 * (nl : Int) + 2 * (ns : Int) := by have := HGFE.out; omega
      have HGF := hid (show 9 + 3 * nc + 4 * nl + 2 * ns ≤ n by have := HGFE.out; omega)
      clear hgf
      go_wp2
      go_loopw [5, 9, 10] (fun at_ vn i wr => ∃ (k q : Nat) (vc : Value), k ≤ nc ∧ i = .int .i64 k ∧ at_ = .int .i64 (q : Int) ∧ Hid (q = 9 + 3 * k) ∧ Hid (GB w wr p g base (.bool (y2 == 1)) (.int .i64 y3) (.int .i64 (256 * y4 + y5)) vc (.slice none 0 0) (.slice none 0 0) vn ((List.range k).map (cm0 bl)) [] [] ((List.range k).map (ln0 bl)))) (fun _ _ i _ => nc - (intOf i).toNat)
      case atStart => exact ⟨0, 9, _, Nat.zero_le _, rfl, rfl, hid rfl, HB⟩
      case round =>
        clear HB
        obtain ⟨k, q, vc, hk, rfl, rfl, HQ, HB⟩ := hrel
        by_cases hlt : k < nc
        · have hk1 : (k : Int) < (nc : Int) := by omega
          have hk0 : (0 : Int) ≤ (k : Int) := by omega
          have hqn : q + 2 < n := by have := HQ.out; have := HGF.out; omega
          have hqi : (q : Int) < (n : Int) := by omega
          have hq0 : (0 : Int) ≤ (q : Int) := by omega
          obtain ⟨q1, hq1⟩ : ∃ y : Nat, q + 1 = y := ⟨_, rfl⟩
          have HQ1 := hid (show (q : Int) + 1 = (q1 : Int) by omega)
          have hq1i : (q1 : Int) < (n : Int) := by omega
          have hq10 : (0 : Int) ≤ (q1 : Int) := by omega
          obtain ⟨q2, hq2⟩ : ∃ y : Nat, q + 2 = y := ⟨_, rfl⟩
          have HQ2 := hid (show (q : Int) + 2 = (q2 : Int) by omega)
          have hq2i : (q2 : Int) < (n : Int) := by omega
          have hq20 : (0 : Int) ≤ (q2 : Int) := by omega
          obtain ⟨q3, hq3⟩ : ∃ y : Nat, q + 3 = y := ⟨_, rfl⟩
          have HQ3 := hid (show (q : Int) + 3 = (q3 : Int) by omega)
          have hq30 : (0 : Int) ≤ (q3 : Int) := by omega
          obtain ⟨x0, hx0⟩ : ∃ y, atB bl q = y := ⟨_, rfl⟩
          obtain ⟨hx0a, hx0b⟩ : 0 ≤ x0 ∧ x0 ≤ 255 := by rw [← hx0]; exact HBB.out q
          obtain ⟨x1, hx1⟩ : ∃ y, atB bl q1 = y := ⟨_, rfl⟩
          obtain ⟨hx1a, hx1b⟩ : 0 ≤ x1 ∧ x1 ≤ 255 := by rw [← hx1]; exact HBB.out q1
          obtain ⟨x2, hx2⟩ : ∃ y, atB bl q2 = y := ⟨_, rfl⟩
          obtain ⟨hx2a, hx2b⟩ : 0 ≤ x2 ∧ x2 ≤ 255 := by rw [← hx2]; exact HBB.out q2
          have HLNK := hid (show (List.range (k + 1)).map (ln0 bl) = (List.range k).map (ln0 bl) ++ [256 * x0 + x1] by
            rw [List.range_succ, List.map_append, List.map_singleton]
            unfold ln0
            rw [← HQ.out, numB_two, hq1, hx0, hx1, Int.mul_comm])
          have HCMK := hid (show (List.range (k + 1)).map (cm0 bl) = (List.range k).map (cm0 bl) ++ [(⟨none, 0, [], x2⟩ : Cmp)] by
            rw [List.range_succ, List.map_append, List.map_singleton]
            unfold cm0
            rw [← HQ.out, numB_one, hq2, hx2])
          obtain ⟨NSK, hNSK⟩ : ∃ y, (List.range k).map (ln0 bl) = y := ⟨_, rfl⟩
          obtain ⟨CSK, hCSK⟩ : ∃ y, (List.range k).map (cm0 bl) = y := ⟨_, rfl⟩
          have HLn := hid (show NSK.length = k by rw [← hNSK]; simp)
          have HLc := hid (show CSK.length = k by rw [← hCSK]; simp)
          rw [hNSK, hCSK] at HB
          rw [hNSK] at HLNK
          rw [hCSK] at HCMK
          obtain ⟨NA, kc, rfl, _, _⟩ := (HLn.out ▸ HB.out.on).shape
          obtain ⟨CA, cc, rfl, _, _⟩ := (HLc.out ▸ HB.out.oc).shape
          clear hNSK hCSK hlt
          go_upto_region 14 with (fail)
          refine wp_region_only (S := (fun i => (Value.slice NA k kc).ownBlock = some i)) (.rd 0 (.rd 1 (.rd 2 (.rd 3 (.rd 4 (.rd 5 (.rd 6 (.rd 7 (.rd 8 (.rd 9 (.rd 10 (.rd 11 (.rd 12 (.rd 13 (.ac 14 (.ac 15 (.rd 16 .done))))))))))))))))) (by kernel_rfl) (by kernel_rfl) (fun _ _ d _ _ h => by cases d <;> exact h) (by simp only [Ord.map, nthOp, List.append]; rfl) ?_
          intro d1
          have HBg := hid (HB.out.ext (Ext.grow (Ext.refl wr) d1))
          generalize Go.Proofs.Ytgldlkoohfclpaa.grow wr d1 = W5 at HBg ⊢
          have hil := Nat.lt_of_lt_of_le HIB.out HBg.out.ew.size
          have hy0 := HBY.out W5 HBg.out.ew (q) _ ((HAT.out (q) (by omega)).trans (by rw [hx0]))
          have hy1 := HBY.out W5 HBg.out.ew (q1) _ ((HAT.out (q1) (by omega)).trans (by rw [hx1]))
          have HNI := hid (show ¬ (fun i => (Value.slice NA k kc).ownBlock = some i) ib from fun e => by have := (HBg.out.on.lt ib e).1; have := HIB.out; have := HBg.out.wp; have := HBg.out.pg; have := HBg.out.gb; omega)
          have HS0 := hid (Only.refl (fun i => (Value.slice NA k kc).ownBlock = some i) W5)
          refine only_read (by rfl) (fun K hK => ?_)
          go_big_quiet_op
          refine hK _ ?_
          clear hK K
          refine only_read (by rfl) (fun K hK => ?_)
          go_big_quiet_op
          refine hK _ ?_
          clear hK K
          refine only_read (by rfl) (fun K hK => ?_)
          go_big_quiet_op
          refine hK _ ?_
          clear hK K
          refine only_read (by rfl) (fun K hK => ?_)
          refine quiet_runD 72 rfl (.pointer (some ⟨ib, io + q, none⟩)) (fun w => by go_simp) ?_
          refine hK _ ?_
          clear hK K
          simp only [Act.put, List.setIfInBounds_toArray, List.set_cons_zero, List.set_cons_succ]
          refine only_read (by rfl) (fun K hK => ?_)
          refine quiet_load1 5 (.tmp 72) rfl (ib) (io + q) rfl (.int .u8 x0) _ (fun w' hw' => (hw'.cells ib _ hil HNI.out).trans hy0) Try.underlying5 rfl ?_
          refine hK _ ?_
          clear hK K
          simp only [Act.put, List.setIfInBounds_toArray, List.set_cons_zero, List.set_cons_succ]
          refine only_read (by rfl) (fun K hK => ?_)
          refine quiet_runD 74 rfl (.int .i64 x0) (fun w => by first | (go_simp; done) | (go_simp; exact wraps_64 _ (by omega) (by omega)) | (go_simp; first | omega | (rw [wraps_64 _ (by omega) (by omega)]; omega))) ?_
          refine hK _ ?_
          clear hK K
          simp only [Act.put, List.setIfInBounds_toArray, List.set_cons_zero, List.set_cons_succ]
          refine only_read (by rfl) (fun K hK => ?_)
          refine quiet_runD 75 rfl (.int .i64 (256 * x0)) (fun w => by first | (go_simp; done) | (go_simp; exact wraps_64 _ (by omega) (by omega)) | (go_simp; first | omega | (rw [wraps_64 _ (by omega) (by omega)]; omega))) ?_
          refine hK _ ?_
          clear hK K
          simp only [Act.put, List.setIfInBounds_toArray, List.set_cons_zero, List.set_cons_succ]
          refine only_read (by rfl) (fun K hK => ?_)
          go_big_quiet_op
          refine hK _ ?_
          clear hK K
          refine only_read (by rfl) (fun K hK => ?_)
          go_big_quiet_op
          refine hK _ ?_
          clear hK K
          refine only_read (by rfl) (fun K hK => ?_)
          refine quiet_runD 78 rfl (.int .i64 (q1 : Int)) (fun w => by first | (go_simp; exact HQ1.out) | (go_simp; rw [HQ1.out]; done) | (go_simp; rw [HQ1.out]; exact wraps_64 _ (by omega) (by omega))) ?_
          refine hK _ ?_
          clear hK K
          simp only [Act.put, List.setIfInBounds_toArray, List.set_cons_zero, List.set_cons_succ]
          refine only_read (by rfl) (fun K hK => ?_)
          refine quiet_runD 79 rfl (.pointer (some ⟨ib, io + q1, none⟩)) (fun w => by go_simp) ?_
          refine hK _ ?_
          clear hK K
          simp only [Act.put, List.setIfInBounds_toArray, List.set_cons_zero, List.set_cons_succ]
          refine only_read (by rfl) (fun K hK => ?_)
          refine quiet_load1 5 (.tmp 79) rfl (ib) (io + q1) rfl (.int .u8 x1) _ (fun w' hw' => (hw'.cells ib _ hil HNI.out).trans hy1) Try.underlying5 rfl ?_
          refine hK _ ?_
          clear hK K
          simp only [Act.put, List.setIfInBounds_toArray, List.set_cons_zero, List.set_cons_succ]
          refine only_read (by rfl) (fun K hK => ?_)
          refine quiet_runD 81 rfl (.int .i64 x1) (fun w => by first | (go_simp; done) | (go_simp; exact wraps_64 _ (by omega) (by omega)) | (go_simp; first | omega | (rw [wraps_64 _ (by omega) (by omega)]; omega))) ?_
          refine hK _ ?_
          clear hK K
          simp only [Act.put, List.setIfInBounds_toArray, List.set_cons_zero, List.set_cons_succ]
          refine only_read (by rfl) (fun K hK => ?_)
          refine quiet_runD 82 rfl (.int .i64 (256 * x0 + x1)) (fun w => by first | (go_simp; done) | (go_simp; exact wraps_64 _ (by omega) (by omega)) | (go_simp; first | omega | (rw [wraps_64 _ (by omega) (by omega)]; omega))) ?_
          refine hK _ ?_
          clear hK K
          simp only [Act.put, List.setIfInBounds_toArray, List.set_cons_zero, List.set_cons_succ]
          refine only_act (by rfl) (fun K hK => ?_)
          go_wp2_with fail
          refine ⟨_, Only.refl _ _, Only.alloc HS0.out _, ?_⟩
          refine only_gen (fun W => Hid (Ext W5 W) ∧ Hid (Row W W5.heap.size 0 [.int .i64 (256 * x0 + x1)])) ⟨hid ((Ext.refl _).alloc _), hid (Row.new W5 _ _)⟩ ?_
          rintro V1 ⟨hE1, hR1⟩
          have HB1 := hid (HBg.out.ext hE1.out)
          have HS1 := hid (HS0.out.transExt hE1.out)
          refine only_act (by rfl) (fun K hK => ?_)
          refine wp_app_row int_len (by decide) int_one Try.underlying43 info_intN (.tmp 69) (.tmp 83) rfl base (.slice NA k kc) k (rowF intF NSK) rfl (show ownsAt V1 base 3 1 (.slice NA k kc) k (rowF intF NSK) by have h9 := HB1.out.on; rwa [HLn.out] at h9) (some ⟨W5.heap.size, 0, none⟩) 1 1 [256 * x0 + x1] rfl rfl (RdF.row0 (zs := [256 * x0 + x1]) hR1.out) (by unfold maxLen; omega) (by omega) HB1.out.bs ?_
          intro v6 w6 hown6 hgrow hat
          obtain ⟨A6, c6, hv6, _, _⟩ := hown6.shape
          subst hv6
          have HT6 : Hid (Only (fun i => (Value.slice NA k kc).ownBlock = some i) V1 w6) := hid (grownOnly hgrow fun g hg => hg)
          have HPUT := hid (GB.putn HB1.out HT6.out (z := 256 * x0 + x1) (v6 := .slice A6 (k + 1) c6) (by rw [rowF_append, List.length_append, HLn.out]; exact hown6) (fun b e => hat.elim (fun h => .inl (h ▸ e)) (fun ⟨g2, e2, h2⟩ => .inr (by rw [e] at e2; cases e2; exact h2))))
          have HS6 := hid (Only.trans' HS1.out HT6.out)
          refine hK _ _ ⟨_, Only.refl _ _, HS6.out, ?_⟩
          clear hK K hgrow hat hown6
          simp only [Act.put, List.setIfInBounds_toArray, List.set_cons_zero, List.set_cons_succ]
          refine only_read (by rfl) (fun K hK => ?_)
          go_big_quiet_op
          refine hK _ ?_
          clear hK K
          refine only_nil ?_
          go_upto_region 15 with (fail)
          refine wp_gen (fun W => Hid (GB w W p g base (.bool (y2 == 1)) (.int .i64 y3) (.int .i64 (256 * y4 + y5)) (.slice CA k cc) (.slice none 0 0) (.slice none 0 0) (.slice A6 (k + 1) c6) CSK [] [] (NSK ++ [256 * x0 + x1]))) HPUT ?_
          clear HPUT HS6 HT6 HB1 HS1 hE1 hR1 hil hy0 hy1 HNI HS0 HBg HB
          rintro W2 HB2
          obtain ⟨A7, hA7⟩ : ∃ y, A6 = y := ⟨_, rfl⟩
          obtain ⟨c7, hc7⟩ : ∃ y, c6 = y := ⟨_, rfl⟩
          rw [hA7, hc7] at HB2 ⊢
          clear hA7 hc7
          go_cut [] (fun wx => ∃ v6 : Value, Hid (GB w wx p g base (.bool (y2 == 1)) (.int .i64 y3) (.int .i64 (256 * y4 + y5)) v6 (.slice none 0 0) (.slice none 0 0) (.slice A7 (k + 1) c7) (CSK ++ [(⟨none, 0, [], x2⟩ : Cmp)]) [] [] (NSK ++ [256 * x0 + x1])))
          case first =>
            refine wp_region_only (S := (fun i => i = g ∨ (Value.slice CA k cc).ownBlock = some i)) (.rd 0 (.rd 2 (.rd 3 (.rd 4 (.rd 5 (.rd 6 (.rd 7 (.rd 8 (.br 1 (.ac 9 (.ac 10 (.rd 11 (.ac 12 .done)))) 9 (.ac 1 (.ac 10 (.rd 11 (.ac 12 .done))))))))))))) (by kernel_rfl) (by kernel_rfl) (fun _ _ d _ _ h => by cases d <;> exact h) (by simp only [Ord.map, nthOp, List.append]; rfl) ?_
            intro d1
            have HBg := hid (HB2.out.ext (Ext.grow (Ext.refl W2) d1))
            generalize Go.Proofs.Ytgldlkoohfclpaa.grow W2 d1 = W5 at HBg ⊢
            have hil := Nat.lt_of_lt_of_le HIB.out HBg.out.ew.size
            have hy2 := HBY.out W5 HBg.out.ew (q2) _ ((HAT.out (q2) (by omega)).trans (by rw [hx2]))
            have HNI := hid (show ¬ (fun i => i = g ∨ (Value.slice CA k cc).ownBlock = some i) ib from fun e => (e.elim (fun e => by have := HIB.out; have := HBg.out.wp; have := HBg.out.pg; omega) (fun e => by have := (HBg.out.oc.lt ib e).1; have := HIB.out; have := HBg.out.wp; have := HBg.out.pg; have := HBg.out.gb; omega)))
            have HS0 := hid (Only.refl (fun i => i = g ∨ (Value.slice CA k cc).ownBlock = some i) W5)
            refine only_read (by rfl) (fun K hK => ?_)
            refine quiet_runD 85 rfl (.pointer (some ⟨g, 3, none⟩)) (fun w => by kernel_rfl) ?_
            refine hK _ ?_
            clear hK K
            simp only [Act.put, List.setIfInBounds_toArray, List.set_cons_zero, List.set_cons_succ]
            refine only_read (by rfl) (fun K hK => ?_)
            go_big_quiet_op
            refine hK _ ?_
            clear hK K
            refine only_read (by rfl) (fun K hK => ?_)
            go_big_quiet_op
            refine hK _ ?_
            clear hK K
            refine only_read (by rfl) (fun K hK => ?_)
            refine quiet_runD 89 rfl (.int .i64 (q2 : Int)) (fun w => by first | (go_simp; exact HQ2.out) | (go_simp; rw [HQ2.out]; done) | (go_simp; rw [HQ2.out]; exact wraps_64 _ (by omega) (by omega))) ?_
            refine hK _ ?_
            clear hK K
            simp only [Act.put, List.setIfInBounds_toArray, List.set_cons_zero, List.set_cons_succ]
            refine only_read (by rfl) (fun K hK => ?_)
            refine quiet_runD 90 rfl (.pointer (some ⟨ib, io + q2, none⟩)) (fun w => by go_simp) ?_
            refine hK _ ?_
            clear hK K
            simp only [Act.put, List.setIfInBounds_toArray, List.set_cons_zero, List.set_cons_succ]
            refine only_read (by rfl) (fun K hK => ?_)
            refine quiet_load1 5 (.tmp 90) rfl (ib) (io + q2) rfl (.int .u8 x2) _ (fun w' hw' => (hw'.cells ib _ hil HNI.out).trans hy2) Try.underlying5 rfl ?_
            refine hK _ ?_
            clear hK K
            simp only [Act.put, List.setIfInBounds_toArray, List.set_cons_zero, List.set_cons_succ]
            refine only_read (by rfl) (fun K hK => ?_)
            refine quiet_runD 92 rfl (.int .i64 x2) (fun w => by first | (go_simp; done) | (go_simp; exact wraps_64 _ (by omega) (by omega)) | (go_simp; first | omega | (rw [wraps_64 _ (by omega) (by omega)]; omega))) ?_
            refine hK _ ?_
            clear hK K
            simp only [Act.put, List.setIfInBounds_toArray, List.set_cons_zero, List.set_cons_succ]
            refine only_read (by rfl) (fun K hK => ?_)
            refine quiet_runD 93 rfl (.agg #[.slice none 0 0, .int .i64 x2]) (fun w => by kernel_rfl) ?_
            refine hK _ ?_
            clear hK K
            simp only [Act.put, List.setIfInBounds_toArray, List.set_cons_zero, List.set_cons_succ]
            refine only_br ?_ ?_
            · refine only_act (by rfl) (fun K hK => ?_)
              have hcx := HBg.out.rg.range 3 _ rfl
              have hlx := HBg.out.rg.lt
              try simp only [Nat.zero_add] at hcx
              go_wp2_with fail
              refine ⟨_, Only.refl _ _, HS0.out, ?_⟩
              clear hcx hlx
              refine only_act (by rfl) (fun K hK => ?_)
              go_wp2_with fail
              refine ⟨_, Only.refl _ _, Only.alloc HS0.out _, ?_⟩
              refine only_gen (fun W => Hid (Ext W5 W) ∧ Hid (Row W W5.heap.size 0 [.slice none 0 0, .int .i64 x2])) ⟨hid ((Ext.refl _).alloc _), hid (Row.new W5 _ _)⟩ ?_
              rintro V1 ⟨hE1, hR1⟩
              have HB1 := hid (HBg.out.ext hE1.out)
              have HS1 := hid (HS0.out.transExt hE1.out)
              refine only_act (by rfl) (fun K hK => ?_)
              refine wp_app_row cmp_len (by decide) cmp_one Try.underlying22 info_cmpN (.tmp 86) (.tmp 94) rfl base (.slice CA k cc) k (rowF Cmp.cells CSK) rfl (show ownsAt V1 base 53 2 (.slice CA k cc) k (rowF Cmp.cells CSK) by have h9 := HB1.out.oc; rwa [HLc.out] at h9) (some ⟨W5.heap.size, 0, none⟩) 1 1 [(⟨none, 0, [], x2⟩ : Cmp)] rfl rfl (RdF.row0 (zs := [(⟨none, 0, [], x2⟩ : Cmp)]) hR1.out) (by unfold maxLen; omega) (by omega) HB1.out.bs ?_
              intro v6 w6 hown6 hgrow hat
              obtain ⟨A6, c6, hv6, _, _⟩ := hown6.shape
              subst hv6
              have HT6 : Hid (Only (fun i => (Value.slice CA k cc).ownBlock = some i) V1 w6) := hid (grownOnly hgrow fun g hg => hg)
              have HPUT := hid (GB.putc HB1.out HT6.out (z := (⟨none, 0, [], x2⟩ : Cmp)) (v6 := .slice A6 (k + 1) c6) (by rw [rowF_append, List.length_append, HLc.out]; exact hown6) (fun b e => hat.elim (fun h => .inl (h ▸ e)) (fun ⟨g2, e2, h2⟩ => .inr (by rw [e] at e2; cases e2; exact h2))))
              have HS6 := hid (Only.trans HS1.out HT6.out (fun i hi => .inl (.inr hi)))
              have hng : ¬ (Value.slice CA k cc).ownBlock = some g := fun e => by have := (HB1.out.oc.lt g e).1; have := HB1.out.gb; omega
              have hc6 := (HT6.out.cells g 3 HB1.out.rg.lt hng).trans (HB1.out.rg.range 3 _ rfl)
              have hf6 := (HT6.out.frozens g 3 HB1.out.rg.lt hng).trans (HB1.out.rg.free 3 (by show 3 < 6; decide))
              try simp only [Nat.zero_add] at hc6 hf6
              have hl6 := Nat.lt_of_lt_of_le HB1.out.rg.lt HT6.out.size
              refine hK _ _ ⟨_, Only.refl _ _, HS6.out, ?_⟩
              clear hK K hgrow hat hown6
              simp only [Act.put, List.setIfInBounds_toArray, List.set_cons_zero, List.set_cons_succ]
              refine only_read (by rfl) (fun K hK => ?_)
              refine quiet_runD 96 rfl (.pointer (some ⟨g, 3, none⟩)) (fun w => by kernel_rfl) ?_
              refine hK _ ?_
              clear hK K
              simp only [Act.put, List.setIfInBounds_toArray, List.set_cons_zero, List.set_cons_succ]
              refine only_act (by rfl) (fun K hK => ?_)
              go_wp2_with fail
              refine ⟨_, Only.refl _ _, Only.setCell HS6.out (.inl (.inl rfl)) _, ?_⟩
              refine only_nil ?_
              go_wp2_with fail
              go_meet
              exact ⟨_, HPUT⟩
            · refine only_act (by rfl) (fun K hK => ?_)
              go_wp2_with fail
              refine ⟨_, Only.refl _ _, Only.alloc HS0.out _, ?_⟩
              refine only_gen (fun W => Hid (Ext W5 W) ∧ Hid (Row W W5.heap.size 0 [.slice none 0 0, .int .i64 x2])) ⟨hid ((Ext.refl _).alloc _), hid (Row.new W5 _ _)⟩ ?_
              rintro V1 ⟨hE1, hR1⟩
              have HB1 := hid (HBg.out.ext hE1.out)
              have HS1 := hid (HS0.out.transExt hE1.out)
              refine only_act (by rfl) (fun K hK => ?_)
              have hcx := HB1.out.rg.range 3 _ rfl
              have hlx := HB1.out.rg.lt
              try simp only [Nat.zero_add] at hcx
              go_wp2_with fail
              refine ⟨_, Only.refl _ _, HS1.out, ?_⟩
              clear hcx hlx
              refine only_act (by rfl) (fun K hK => ?_)
              refine wp_app_row cmp_len (by decide) cmp_one Try.underlying22 info_cmpN (.tmp 86) (.tmp 94) rfl base (.slice CA k cc) k (rowF Cmp.cells CSK) rfl (show ownsAt V1 base 53 2 (.slice CA k cc) k (rowF Cmp.cells CSK) by have h9 := HB1.out.oc; rwa [HLc.out] at h9) (some ⟨W5.heap.size, 0, none⟩) 1 1 [(⟨none, 0, [], x2⟩ : Cmp)] rfl rfl (RdF.row0 (zs := [(⟨none, 0, [], x2⟩ : Cmp)]) hR1.out) (by unfold maxLen; omega) (by omega) HB1.out.bs ?_
              intro v6 w6 hown6 hgrow hat
              obtain ⟨A6, c6, hv6, _, _⟩ := hown6.shape
              subst hv6
              have HT6 : Hid (Only (fun i => (Value.slice CA k cc).ownBlock = some i) V1 w6) := hid (grownOnly hgrow fun g hg => hg)
              have HPUT := hid (GB.putc HB1.out HT6.out (z := (⟨none, 0, [], x2⟩ : Cmp)) (v6 := .slice A6 (k + 1) c6) (by rw [rowF_append, List.length_append, HLc.out]; exact hown6) (fun b e => hat.elim (fun h => .inl (h ▸ e)) (fun ⟨g2, e2, h2⟩ => .inr (by rw [e] at e2; cases e2; exact h2))))
              have HS6 := hid (Only.trans HS1.out HT6.out (fun i hi => .inl (.inr hi)))
              have hng : ¬ (Value.slice CA k cc).ownBlock = some g := fun e => by have := (HB1.out.oc.lt g e).1; have := HB1.out.gb; omega
              have hc6 := (HT6.out.cells g 3 HB1.out.rg.lt hng).trans (HB1.out.rg.range 3 _ rfl)
              have hf6 := (HT6.out.frozens g 3 HB1.out.rg.lt hng).trans (HB1.out.rg.free 3 (by show 3 < 6; decide))
              try simp only [Nat.zero_add] at hc6 hf6
              have hl6 := Nat.lt_of_lt_of_le HB1.out.rg.lt HT6.out.size
              refine hK _ _ ⟨_, Only.refl _ _, HS6.out, ?_⟩
              clear hK K hgrow hat hown6
              simp only [Act.put, List.setIfInBounds_toArray, List.set_cons_zero, List.set_cons_succ]
              refine only_read (by rfl) (fun K hK => ?_)
              refine quiet_runD 96 rfl (.pointer (some ⟨g, 3, none⟩)) (fun w => by kernel_rfl) ?_
              refine hK _ ?_
              clear hK K
              simp only [Act.put, List.setIfInBounds_toArray, List.set_cons_zero, List.set_cons_succ]
              refine only_act (by rfl) (fun K hK => ?_)
              go_wp2_with fail
              refine ⟨_, Only.refl _ _, Only.setCell HS6.out (.inl (.inl rfl)) _, ?_⟩
              refine only_nil ?_
              go_wp2_with fail
              go_meet
              exact ⟨_, HPUT⟩
          case rest =>
            obtain ⟨v6, HB3⟩ := hcut
            clear HB2
            rw [← HCMK.out, ← HLNK.out] at HB3
            go_wp2
            go_roundw
            case rel => exact ⟨k + 1, q3, v6, by omega, by go_num, HQ3.out.symm ▸ (by go_num), hid (by have := HQ.out; omega), HB3⟩
            case measure => simp [intOf]; omega
        · obtain rfl : nc = k := by omega
          have hk1 : ¬ (nc : Int) < (nc : Int) := by omega
          obtain ⟨CS0, hCS0⟩ : ∃ y, (List.range nc).map (cm0 bl) = y := ⟨_, rfl⟩
          obtain ⟨NS0, hNS0⟩ : ∃ y, (List.range nc).map (ln0 bl) = y := ⟨_, rfl⟩
          rw [hCS0, hNS0] at HB
          have HCS0 := hid hCS0
          have HNS0 := hid hNS0
          clear hCS0 hNS0
          obtain ⟨vC, hvC⟩ : ∃ y, vc = y := ⟨_, rfl⟩
          obtain ⟨vN, hvN⟩ : ∃ y, u9 = y := ⟨_, rfl⟩
          rw [hvC, hvN] at HB
          rw [hvN]
          clear hvC hvN
          go_wp2
          go_loopw [5, 11] (fun at_ i wr => ∃ (k q : Nat) (v : Value), k ≤ nl ∧ i = .int .i64 k ∧ at_ = .int .i64 (q : Int) ∧ Hid (q = 9 + 3 * nc + 4 * k) ∧ Hid (GB w wr p g base (.bool (y2 == 1)) (.int .i64 y3) (.int .i64 (256 * y4 + y5)) vC v (.slice none 0 0) vN CS0 ((List.range k).map (lk0 bl (9 + 3 * nc))) [] NS0)) (fun _ i _ => nl - (intOf i).toNat)
          case atStart => exact ⟨0, _, _, Nat.zero_le _, rfl, rfl, hid (by have := HQ.out; omega), HB⟩
          case round =>
            clear HB HQ
            obtain ⟨k, q, v, hk, rfl, rfl, HQ, HB⟩ := hrel
            by_cases hlt : k < nl
            · have hk1 : (k : Int) < (nl : Int) := by omega
              have hk0 : (0 : Int) ≤ (k : Int) := by omega
              have hqn : q + 3 < n := by have := HQ.out; have := HGF.out; omega
              have hqi : (q : Int) < (n : Int) := by omega
              have hq0 : (0 : Int) ≤ (q : Int) := by omega
              obtain ⟨q1, hq1⟩ : ∃ y : Nat, q + 1 = y := ⟨_, rfl⟩
              have HQ1 := hid (show (q : Int) + 1 = (q1 : Int) by omega)
              have hq1i : (q1 : Int) < (n : Int) := by omega
              have hq10 : (0 : Int) ≤ (q1 : Int) := by omega
              obtain ⟨q2, hq2⟩ : ∃ y : Nat, q + 2 = y := ⟨_, rfl⟩
              have HQ2 := hid (show (q : Int) + 2 = (q2 : Int) by omega)
              have hq2i : (q2 : Int) < (n : Int) := by omega
              have hq20 : (0 : Int) ≤ (q2 : Int) := by omega
              obtain ⟨q3, hq3⟩ : ∃ y : Nat, q + 3 = y := ⟨_, rfl⟩
              have HQ3 := hid (show (q : Int) + 3 = (q3 : Int) by omega)
              have hq3i : (q3 : Int) < (n : Int) := by omega
              have hq30 : (0 : Int) ≤ (q3 : Int) := by omega
              obtain ⟨q4, hq4⟩ : ∃ y : Nat, q + 4 = y := ⟨_, rfl⟩
              have HQ4 := hid (show (q : Int) + 4 = (q4 : Int) by omega)
              have hq40 : (0 : Int) ≤ (q4 : Int) := by omega
              obtain ⟨x0, hx0⟩ : ∃ y, atB bl q = y := ⟨_, rfl⟩
              obtain ⟨hx0a, hx0b⟩ : 0 ≤ x0 ∧ x0 ≤ 255 := by rw [← hx0]; exact HBB.out q
              obtain ⟨x1, hx1⟩ : ∃ y, atB bl q1 = y := ⟨_, rfl⟩
              obtain ⟨hx1a, hx1b⟩ : 0 ≤ x1 ∧ x1 ≤ 255 := by rw [← hx1]; exact HBB.out q1
              obtain ⟨x2, hx2⟩ : ∃ y, atB bl q2 = y := ⟨_, rfl⟩
              obtain ⟨hx2a, hx2b⟩ : 0 ≤ x2 ∧ x2 ≤ 255 := by rw [← hx2]; exact HBB.out q2
              obtain ⟨x3, hx3⟩ : ∃ y, atB bl q3 = y := ⟨_, rfl⟩
              obtain ⟨hx3a, hx3b⟩ : 0 ≤ x3 ∧ x3 ≤ 255 := by rw [← hx3]; exact HBB.out q3
              have HRK := hid (show (List.range (k + 1)).map (lk0 bl (9 + 3 * nc)) = (List.range k).map (lk0 bl (9 + 3 * nc)) ++ [(⟨x0, x1, 256 * x2 + x3⟩ : Lnk)] by
                rw [List.range_succ, List.map_append, List.map_singleton]
                unfold lk0
                rw [← HQ.out, numB_one, numB_one, numB_two, hq1, hq2, show q2 + 1 = q3 by omega, hx0, hx1, hx2, hx3, Int.mul_comm 256])
              obtain ⟨RSK, hRSK⟩ : ∃ y, (List.range k).map (lk0 bl (9 + 3 * nc)) = y := ⟨_, rfl⟩
              have HLl := hid (show RSK.length = k by rw [← hRSK]; simp)
              rw [hRSK] at HB HRK
              obtain ⟨RA, rc, rfl, _, _⟩ := (HLl.out ▸ HB.out.ol).shape
              clear hRSK hlt
              go_upto_region 20 with (fail)
              go_cut [] (fun wx => ∃ v6 : Value, Hid (GB w wx p g base (.bool (y2 == 1)) (.int .i64 y3) (.int .i64 (256 * y4 + y5)) vC v6 (.slice none 0 0) vN CS0 (RSK ++ [(⟨x0, x1, 256 * x2 + x3⟩ : Lnk)]) [] NS0))
              case first =>
                refine wp_region_only (S := (fun i => i = g ∨ (Value.slice RA k rc).ownBlock = some i)) (.rd 0 (.rd 2 (.rd 3 (.rd 4 (.rd 5 (.rd 6 (.rd 7 (.rd 8 (.rd 9 (.rd 10 (.rd 11 (.rd 12 (.rd 13 (.rd 14 (.rd 15 (.rd 16 (.rd 17 (.rd 18 (.rd 19 (.rd 20 (.rd 21 (.rd 22 (.rd 23 (.rd 24 (.rd 25 (.rd 26 (.rd 27 (.br 1 (.ac 28 (.ac 29 (.rd 30 (.ac 31 .done)))) 28 (.ac 1 (.ac 29 (.rd 30 (.ac 31 .done)))))))))))))))))))))))))))))))) (by kernel_rfl) (by kernel_rfl) (fun _ _ d _ _ h => by cases d <;> exact h) (by simp only [Ord.map, nthOp, List.append]; rfl) ?_
                intro d1
                have HBg := hid (HB.out.ext (Ext.grow (Ext.refl wr) d1))
                generalize Go.Proofs.Ytgldlkoohfclpaa.grow wr d1 = W5 at HBg ⊢
                have hil := Nat.lt_of_lt_of_le HIB.out HBg.out.ew.size
                have hy0 := HBY.out W5 HBg.out.ew (q) _ ((HAT.out (q) (by omega)).trans (by rw [hx0]))
                have hy1 := HBY.out W5 HBg.out.ew (q1) _ ((HAT.out (q1) (by omega)).trans (by rw [hx1]))
                have hy2 := HBY.out W5 HBg.out.ew (q2) _ ((HAT.out (q2) (by omega)).trans (by rw [hx2]))
                have hy3 := HBY.out W5 HBg.out.ew (q3) _ ((HAT.out (q3) (by omega)).trans (by rw [hx3]))
                have HNI := hid (show ¬ (fun i => i = g ∨ (Value.slice RA k rc).ownBlock = some i) ib from fun e => (e.elim (fun e => by have := HIB.out; have := HBg.out.wp; have := HBg.out.pg; omega) (fun e => by have := (HBg.out.ol.lt ib e).1; have := HIB.out; have := HBg.out.wp; have := HBg.out.pg; have := HBg.out.gb; omega)))
                have HS0 := hid (Only.refl (fun i => i = g ∨ (Value.slice RA k rc).ownBlock = some i) W5)
                refine only_read (by rfl) (fun K hK => ?_)
                refine quiet_runD 104 rfl (.pointer (some ⟨g, 4, none⟩)) (fun w => by kernel_rfl) ?_
                refine hK _ ?_
                clear hK K
                simp only [Act.put, List.setIfInBounds_toArray, List.set_cons_zero, List.set_cons_succ]
                refine only_read (by rfl) (fun K hK => ?_)
                go_big_quiet_op
                refine hK _ ?_
                clear hK K
                refine only_read (by rfl) (fun K hK => ?_)
                go_big_quiet_op
                refine hK _ ?_
                clear hK K
                refine only_read (by rfl) (fun K hK => ?_)
                refine quiet_runD 108 rfl (.pointer (some ⟨ib, io + q, none⟩)) (fun w => by go_simp) ?_
                refine hK _ ?_
                clear hK K
                simp only [Act.put, List.setIfInBounds_toArray, List.set_cons_zero, List.set_cons_succ]
                refine only_read (by rfl) (fun K hK => ?_)
                refine quiet_load1 5 (.tmp 108) rfl (ib) (io + q) rfl (.int .u8 x0) _ (fun w' hw' => (hw'.cells ib _ hil HNI.out).trans hy0) Try.underlying5 rfl ?_
                refine hK _ ?_
                clear hK K
                simp only [Act.put, List.setIfInBounds_toArray, List.set_cons_zero, List.set_cons_succ]
                refine only_read (by rfl) (fun K hK => ?_)
                refine quiet_runD 110 rfl (.int .i64 x0) (fun w => by first | (go_simp; done) | (go_simp; exact wraps_64 _ (by omega) (by omega)) | (go_simp; first | omega | (rw [wraps_64 _ (by omega) (by omega)]; omega))) ?_
                refine hK _ ?_
                clear hK K
                simp only [Act.put, List.setIfInBounds_toArray, List.set_cons_zero, List.set_cons_succ]
                refine only_read (by rfl) (fun K hK => ?_)
                go_big_quiet_op
                refine hK _ ?_
                clear hK K
                refine only_read (by rfl) (fun K hK => ?_)
                go_big_quiet_op
                refine hK _ ?_
                clear hK K
                refine only_read (by rfl) (fun K hK => ?_)
                refine quiet_runD 113 rfl (.int .i64 (q1 : Int)) (fun w => by first | (go_simp; exact HQ1.out) | (go_simp; rw [HQ1.out]; done) | (go_simp; rw [HQ1.out]; exact wraps_64 _ (by omega) (by omega))) ?_
                refine hK _ ?_
                clear hK K
                simp only [Act.put, List.setIfInBounds_toArray, List.set_cons_zero, List.set_cons_succ]
                refine only_read (by rfl) (fun K hK => ?_)
                refine quiet_runD 114 rfl (.pointer (some ⟨ib, io + q1, none⟩)) (fun w => by go_simp) ?_
                refine hK _ ?_
                clear hK K
                simp only [Act.put, List.setIfInBounds_toArray, List.set_cons_zero, List.set_cons_succ]
                refine only_read (by rfl) (fun K hK => ?_)
                refine quiet_load1 5 (.tmp 114) rfl (ib) (io + q1) rfl (.int .u8 x1) _ (fun w' hw' => (hw'.cells ib _ hil HNI.out).trans hy1) Try.underlying5 rfl ?_
                refine hK _ ?_
                clear hK K
                simp only [Act.put, List.setIfInBounds_toArray, List.set_cons_zero, List.set_cons_succ]
                refine only_read (by rfl) (fun K hK => ?_)
                refine quiet_runD 116 rfl (.int .i64 x1) (fun w => by first | (go_simp; done) | (go_simp; exact wraps_64 _ (by omega) (by omega)) | (go_simp; first | omega | (rw [wraps_64 _ (by omega) (by omega)]; omega))) ?_
                refine hK _ ?_
                clear hK K
                simp only [Act.put, List.setIfInBounds_toArray, List.set_cons_zero, List.set_cons_succ]
                refine only_read (by rfl) (fun K hK => ?_)
                go_big_quiet_op
                refine hK _ ?_
                clear hK K
                refine only_read (by rfl) (fun K hK => ?_)
                go_big_quiet_op
                refine hK _ ?_
                clear hK K
                refine only_read (by rfl) (fun K hK => ?_)
                refine quiet_runD 119 rfl (.int .i64 (q2 : Int)) (fun w => by first | (go_simp; exact HQ2.out) | (go_simp; rw [HQ2.out]; done) | (go_simp; rw [HQ2.out]; exact wraps_64 _ (by omega) (by omega))) ?_
                refine hK _ ?_
                clear hK K
                simp only [Act.put, List.setIfInBounds_toArray, List.set_cons_zero, List.set_cons_succ]
                refine only_read (by rfl) (fun K hK => ?_)
                refine quiet_runD 120 rfl (.pointer (some ⟨ib, io + q2, none⟩)) (fun w => by go_simp) ?_
                refine hK _ ?_
                clear hK K
                simp only [Act.put, List.setIfInBounds_toArray, List.set_cons_zero, List.set_cons_succ]
                refine only_read (by rfl) (fun K hK => ?_)
                refine quiet_load1 5 (.tmp 120) rfl (ib) (io + q2) rfl (.int .u8 x2) _ (fun w' hw' => (hw'.cells ib _ hil HNI.out).trans hy2) Try.underlying5 rfl ?_
                refine hK _ ?_
                clear hK K
                simp only [Act.put, List.setIfInBounds_toArray, List.set_cons_zero, List.set_cons_succ]
                refine only_read (by rfl) (fun K hK => ?_)
                refine quiet_runD 122 rfl (.int .i64 x2) (fun w => by first | (go_simp; done) | (go_simp; exact wraps_64 _ (by omega) (by omega)) | (go_simp; first | omega | (rw [wraps_64 _ (by omega) (by omega)]; omega))) ?_
                refine hK _ ?_
                clear hK K
                simp only [Act.put, List.setIfInBounds_toArray, List.set_cons_zero, List.set_cons_succ]
                refine only_read (by rfl) (fun K hK => ?_)
                refine quiet_runD 123 rfl (.int .i64 (256 * x2)) (fun w => by first | (go_simp; done) | (go_simp; exact wraps_64 _ (by omega) (by omega)) | (go_simp; first | omega | (rw [wraps_64 _ (by omega) (by omega)]; omega))) ?_
                refine hK _ ?_
                clear hK K
                simp only [Act.put, List.setIfInBounds_toArray, List.set_cons_zero, List.set_cons_succ]
                refine only_read (by rfl) (fun K hK => ?_)
                go_big_quiet_op
                refine hK _ ?_
                clear hK K
                refine only_read (by rfl) (fun K hK => ?_)
                go_big_quiet_op
                refine hK _ ?_
                clear hK K
                refine only_read (by rfl) (fun K hK => ?_)
                refine quiet_runD 126 rfl (.int .i64 (q3 : Int)) (fun w => by first | (go_simp; exact HQ3.out) | (go_simp; rw [HQ3.out]; done) | (go_simp; rw [HQ3.out]; exact wraps_64 _ (by omega) (by omega))) ?_
                refine hK _ ?_
                clear hK K
                simp only [Act.put, List.setIfInBounds_toArray, List.set_cons_zero, List.set_cons_succ]
                refine only_read (by rfl) (fun K hK => ?_)
                refine quiet_runD 127 rfl (.pointer (some ⟨ib, io + q3, none⟩)) (fun w => by go_simp) ?_
                refine hK _ ?_
                clear hK K
                simp only [Act.put, List.setIfInBounds_toArray, List.set_cons_zero, List.set_cons_succ]
                refine only_read (by rfl) (fun K hK => ?_)
                refine quiet_load1 5 (.tmp 127) rfl (ib) (io + q3) rfl (.int .u8 x3) _ (fun w' hw' => (hw'.cells ib _ hil HNI.out).trans hy3) Try.underlying5 rfl ?_
                refine hK _ ?_
                clear hK K
                simp only [Act.put, List.setIfInBounds_toArray, List.set_cons_zero, List.set_cons_succ]
                refine only_read (by rfl) (fun K hK => ?_)
                refine quiet_runD 129 rfl (.int .i64 x3) (fun w => by first | (go_simp; done) | (go_simp; exact wraps_64 _ (by omega) (by omega)) | (go_simp; first | omega | (rw [wraps_64 _ (by omega) (by omega)]; omega))) ?_
                refine hK _ ?_
                clear hK K
                simp only [Act.put, List.setIfInBounds_toArray, List.set_cons_zero, List.set_cons_succ]
                refine only_read (by rfl) (fun K hK => ?_)
                refine quiet_runD 130 rfl (.int .i64 (256 * x2 + x3)) (fun w => by first | (go_simp; done) | (go_simp; exact wraps_64 _ (by omega) (by omega)) | (go_simp; first | omega | (rw [wraps_64 _ (by omega) (by omega)]; omega))) ?_
                refine hK _ ?_
                clear hK K
                simp only [Act.put, List.setIfInBounds_toArray, List.set_cons_zero, List.set_cons_succ]
                refine only_read (by rfl) (fun K hK => ?_)
                refine quiet_runD 131 rfl (.agg #[.int .i64 x0, .int .i64 x1, .int .i64 (256 * x2 + x3)]) (fun w => by kernel_rfl) ?_
                refine hK _ ?_
                clear hK K
                simp only [Act.put, List.setIfInBounds_toArray, List.set_cons_zero, List.set_cons_succ]
                refine only_br ?_ ?_
                · refine only_act (by rfl) (fun K hK => ?_)
                  have hcx := HBg.out.rg.range 4 _ rfl
                  have hlx := HBg.out.rg.lt
                  try simp only [Nat.zero_add] at hcx
                  go_wp2_with fail
                  refine ⟨_, Only.refl _ _, HS0.out, ?_⟩
                  clear hcx hlx
                  refine only_act (by rfl) (fun K hK => ?_)
                  go_wp2_with fail
                  refine ⟨_, Only.refl _ _, Only.alloc HS0.out _, ?_⟩
                  refine only_gen (fun W => Hid (Ext W5 W) ∧ Hid (Row W W5.heap.size 0 [.int .i64 x0, .int .i64 x1, .int .i64 (256 * x2 + x3)])) ⟨hid ((Ext.refl _).alloc _), hid (Row.new W5 _ _)⟩ ?_
                  rintro V1 ⟨hE1, hR1⟩
                  have HB1 := hid (HBg.out.ext hE1.out)
                  have HS1 := hid (HS0.out.transExt hE1.out)
                  refine only_act (by rfl) (fun K hK => ?_)
                  refine wp_app_row lnk_len (by decide) lnk_one Try.underlying23 info_lnkN (.tmp 105) (.tmp 132) rfl base (.slice RA k rc) k (rowF Lnk.cells RSK) rfl (show ownsAt V1 base 68 3 (.slice RA k rc) k (rowF Lnk.cells RSK) by have h9 := HB1.out.ol; rwa [HLl.out] at h9) (some ⟨W5.heap.size, 0, none⟩) 1 1 [(⟨x0, x1, 256 * x2 + x3⟩ : Lnk)] rfl rfl (RdF.row0 (zs := [(⟨x0, x1, 256 * x2 + x3⟩ : Lnk)]) hR1.out) (by unfold maxLen; omega) (by omega) HB1.out.bs ?_
                  intro v6 w6 hown6 hgrow hat
                  obtain ⟨A6, c6, hv6, _, _⟩ := hown6.shape
                  subst hv6
                  have HT6 : Hid (Only (fun i => (Value.slice RA k rc).ownBlock = some i) V1 w6) := hid (grownOnly hgrow fun g hg => hg)
                  have HPUT := hid (GB.putl HB1.out HT6.out (z := (⟨x0, x1, 256 * x2 + x3⟩ : Lnk)) (v6 := .slice A6 (k + 1) c6) (by rw [rowF_append, List.length_append, HLl.out]; exact hown6) (fun b e => hat.elim (fun h => .inl (h ▸ e)) (fun ⟨g2, e2, h2⟩ => .inr (by rw [e] at e2; cases e2; exact h2))))
                  have HS6 := hid (Only.trans HS1.out HT6.out (fun i hi => .inl (.inr hi)))
                  have hng : ¬ (Value.slice RA k rc).ownBlock = some g := fun e => by have := (HB1.out.ol.lt g e).1; have := HB1.out.gb; omega
                  have hc6 := (HT6.out.cells g 4 HB1.out.rg.lt hng).trans (HB1.out.rg.range 4 _ rfl)
                  have hf6 := (HT6.out.frozens g 4 HB1.out.rg.lt hng).trans (HB1.out.rg.free 4 (by show 4 < 6; decide))
                  try simp only [Nat.zero_add] at hc6 hf6
                  have hl6 := Nat.lt_of_lt_of_le HB1.out.rg.lt HT6.out.size
                  refine hK _ _ ⟨_, Only.refl _ _, HS6.out, ?_⟩
                  clear hK K hgrow hat hown6
                  simp only [Act.put, List.setIfInBounds_toArray, List.set_cons_zero, List.set_cons_succ]
                  refine only_read (by rfl) (fun K hK => ?_)
                  refine quiet_runD 134 rfl (.pointer (some ⟨g, 4, none⟩)) (fun w => by kernel_rfl) ?_
                  refine hK _ ?_
                  clear hK K
                  simp only [Act.put, List.setIfInBounds_toArray, List.set_cons_zero, List.set_cons_succ]
                  refine only_act (by rfl) (fun K hK => ?_)
                  go_wp2_with fail
                  refine ⟨_, Only.refl _ _, Only.setCell HS6.out (.inl (.inl rfl)) _, ?_⟩
                  refine only_nil ?_
                  go_wp2_with fail
                  go_meet
                  exact ⟨_, HPUT⟩
                · refine only_act (by rfl) (fun K hK => ?_)
                  go_wp2_with fail
                  refine ⟨_, Only.refl _ _, Only.alloc HS0.out _, ?_⟩
                  refine only_gen (fun W => Hid (Ext W5 W) ∧ Hid (Row W W5.heap.size 0 [.int .i64 x0, .int .i64 x1, .int .i64 (256 * x2 + x3)])) ⟨hid ((Ext.refl _).alloc _), hid (Row.new W5 _ _)⟩ ?_
                  rintro V1 ⟨hE1, hR1⟩
                  have HB1 := hid (HBg.out.ext hE1.out)
                  have HS1 := hid (HS0.out.transExt hE1.out)
                  refine only_act (by rfl) (fun K hK => ?_)
                  have hcx := HB1.out.rg.range 4 _ rfl
                  have hlx := HB1.out.rg.lt
                  try simp only [Nat.zero_add] at hcx
                  go_wp2_with fail
                  refine ⟨_, Only.refl _ _, HS1.out, ?_⟩
                  clear hcx hlx
                  refine only_act (by rfl) (fun K hK => ?_)
                  refine wp_app_row lnk_len (by decide) lnk_one Try.underlying23 info_lnkN (.tmp 105) (.tmp 132) rfl base (.slice RA k rc) k (rowF Lnk.cells RSK) rfl (show ownsAt V1 base 68 3 (.slice RA k rc) k (rowF Lnk.cells RSK) by have h9 := HB1.out.ol; rwa [HLl.out] at h9) (some ⟨W5.heap.size, 0, none⟩) 1 1 [(⟨x0, x1, 256 * x2 + x3⟩ : Lnk)] rfl rfl (RdF.row0 (zs := [(⟨x0, x1, 256 * x2 + x3⟩ : Lnk)]) hR1.out) (by unfold maxLen; omega) (by omega) HB1.out.bs ?_
                  intro v6 w6 hown6 hgrow hat
                  obtain ⟨A6, c6, hv6, _, _⟩ := hown6.shape
                  subst hv6
                  have HT6 : Hid (Only (fun i => (Value.slice RA k rc).ownBlock = some i) V1 w6) := hid (grownOnly hgrow fun g hg => hg)
                  have HPUT := hid (GB.putl HB1.out HT6.out (z := (⟨x0, x1, 256 * x2 + x3⟩ : Lnk)) (v6 := .slice A6 (k + 1) c6) (by rw [rowF_append, List.length_append, HLl.out]; exact hown6) (fun b e => hat.elim (fun h => .inl (h ▸ e)) (fun ⟨g2, e2, h2⟩ => .inr (by rw [e] at e2; cases e2; exact h2))))
                  have HS6 := hid (Only.trans HS1.out HT6.out (fun i hi => .inl (.inr hi)))
                  have hng : ¬ (Value.slice RA k rc).ownBlock = some g := fun e => by have := (HB1.out.ol.lt g e).1; have := HB1.out.gb; omega
                  have hc6 := (HT6.out.cells g 4 HB1.out.rg.lt hng).trans (HB1.out.rg.range 4 _ rfl)
                  have hf6 := (HT6.out.frozens g 4 HB1.out.rg.lt hng).trans (HB1.out.rg.free 4 (by show 4 < 6; decide))
                  try simp only [Nat.zero_add] at hc6 hf6
                  have hl6 := Nat.lt_of_lt_of_le HB1.out.rg.lt HT6.out.size
                  refine hK _ _ ⟨_, Only.refl _ _, HS6.out, ?_⟩
                  clear hK K hgrow hat hown6
                  simp only [Act.put, List.setIfInBounds_toArray, List.set_cons_zero, List.set_cons_succ]
                  refine only_read (by rfl) (fun K hK => ?_)
                  refine quiet_runD 134 rfl (.pointer (some ⟨g, 4, none⟩)) (fun w => by kernel_rfl) ?_
                  refine hK _ ?_
                  clear hK K
                  simp only [Act.put, List.setIfInBounds_toArray, List.set_cons_zero, List.set_cons_succ]
                  refine only_act (by rfl) (fun K hK => ?_)
                  go_wp2_with fail
                  refine ⟨_, Only.refl _ _, Only.setCell HS6.out (.inl (.inl rfl)) _, ?_⟩
                  refine only_nil ?_
                  go_wp2_with fail
                  go_meet
                  exact ⟨_, HPUT⟩
              case rest =>
                obtain ⟨v6, HB3⟩ := hcut
                clear HB
                rw [← HRK.out] at HB3
                go_wp2
                go_roundw
                case rel => exact ⟨k + 1, q4, v6, by omega, by go_num, HQ4.out.symm ▸ (by go_num), hid (by have := HQ.out; omega), HB3⟩
                case measure => simp [intOf]; omega
            · obtain rfl : nl = k := by omega
              have hk1 : ¬ (nl : Int) < (nl : Int) := by omega
              obtain ⟨LS0, hLS0⟩ : ∃ y, (List.range nl).map (lk0 bl (9 + 3 * nc)) = y := ⟨_, rfl⟩
              rw [hLS0] at HB
              have HLS0 := hid hLS0
              clear hLS0
              obtain ⟨vL, hvL⟩ : ∃ y, v = y := ⟨_, rfl⟩
              rw [hvL] at HB
              clear hvL
              go_wp2
              go_loopw [5, 12] (fun at_ i wr => ∃ (k q : Nat) (v : Value), k ≤ ns ∧ i = .int .i64 k ∧ at_ = .int .i64 (q : Int) ∧ Hid (q = 9 + 3 * nc + 4 * nl + 2 * k) ∧ Hid (GB w wr p g base (.bool (y2 == 1)) (.int .i64 y3) (.int .i64 (256 * y4 + y5)) vC vL v vN CS0 LS0 ((List.range k).map (sh0 bl (9 + 3 * nc + 4 * nl))) NS0)) (fun _ i _ => ns - (intOf i).toNat)
              case atStart => exact ⟨0, _, _, Nat.zero_le _, rfl, rfl, hid (by have := HQ.out; omega), HB⟩
              case round =>
                clear HB HQ
                obtain ⟨k, q, v, hk, rfl, rfl, HQ, HB⟩ := hrel
                by_cases hlt : k < ns
                · have hk1 : (k : Int) < (ns : Int) := by omega
                  have hk0 : (0 : Int) ≤ (k : Int) := by omega
                  have hqn : q + 1 < n := by have := HQ.out; have := HGF.out; omega
                  have hqi : (q : Int) < (n : Int) := by omega
                  have hq0 : (0 : Int) ≤ (q : Int) := by omega
                  obtain ⟨q1, hq1⟩ : ∃ y : Nat, q + 1 = y := ⟨_, rfl⟩
                  have HQ1 := hid (show (q : Int) + 1 = (q1 : Int) by omega)
                  have hq1i : (q1 : Int) < (n : Int) := by omega
                  have hq10 : (0 : Int) ≤ (q1 : Int) := by omega
                  obtain ⟨q2, hq2⟩ : ∃ y : Nat, q + 2 = y := ⟨_, rfl⟩
                  have HQ2 := hid (show (q : Int) + 2 = (q2 : Int) by omega)
                  have hq20 : (0 : Int) ≤ (q2 : Int) := by omega
                  obtain ⟨x0, hx0⟩ : ∃ y, atB bl q = y := ⟨_, rfl⟩
                  obtain ⟨hx0a, hx0b⟩ : 0 ≤ x0 ∧ x0 ≤ 255 := by rw [← hx0]; exact HBB.out q
                  obtain ⟨x1, hx1⟩ : ∃ y, atB bl q1 = y := ⟨_, rfl⟩
                  obtain ⟨hx1a, hx1b⟩ : 0 ≤ x1 ∧ x1 ≤ 255 := by rw [← hx1]; exact HBB.out q1
                  have HRK := hid (show (List.range (k + 1)).map (sh0 bl (9 + 3 * nc + 4 * nl)) = (List.range k).map (sh0 bl (9 + 3 * nc + 4 * nl)) ++ [(⟨x0, x1⟩ : Shr)] by
                    rw [List.range_succ, List.map_append, List.map_singleton]
                    unfold sh0
                    rw [← HQ.out, numB_one, numB_one, hq1, hx0, hx1])
                  obtain ⟨RSK, hRSK⟩ : ∃ y, (List.range k).map (sh0 bl (9 + 3 * nc + 4 * nl)) = y := ⟨_, rfl⟩
                  have HLs := hid (show RSK.length = k by rw [← hRSK]; simp)
                  rw [hRSK] at HB HRK
                  obtain ⟨RA, rc, rfl, _, _⟩ := (HLs.out ▸ HB.out.os).shape
                  clear hRSK hlt
                  go_upto_region 25 with (fail)
                  go_cut [] (fun wx => ∃ v6 : Value, Hid (GB w wx p g base (.bool (y2 == 1)) (.int .i64 y3) (.int .i64 (256 * y4 + y5)) vC vL v6 vN CS0 LS0 (RSK ++ [(⟨x0, x1⟩ : Shr)]) NS0))
                  case first =>
                    refine wp_region_only (S := (fun i => i = g ∨ (Value.slice RA k rc).ownBlock = some i)) (.rd 0 (.rd 2 (.rd 3 (.rd 4 (.rd 5 (.rd 6 (.rd 7 (.rd 8 (.rd 9 (.rd 10 (.rd 11 (.rd 12 (.rd 13 (.br 1 (.ac 14 (.ac 15 (.rd 16 (.ac 17 .done)))) 14 (.ac 1 (.ac 15 (.rd 16 (.ac 17 .done)))))))))))))))))) (by kernel_rfl) (by kernel_rfl) (fun _ _ d _ _ h => by cases d <;> exact h) (by simp only [Ord.map, nthOp, List.append]; rfl) ?_
                    intro d1
                    have HBg := hid (HB.out.ext (Ext.grow (Ext.refl wr) d1))
                    generalize Go.Proofs.Ytgldlkoohfclpaa.grow wr d1 = W5 at HBg ⊢
                    have hil := Nat.lt_of_lt_of_le HIB.out HBg.out.ew.size
                    have hy0 := HBY.out W5 HBg.out.ew (q) _ ((HAT.out (q) (by omega)).trans (by rw [hx0]))
                    have hy1 := HBY.out W5 HBg.out.ew (q1) _ ((HAT.out (q1) (by omega)).trans (by rw [hx1]))
                    have HNI := hid (show ¬ (fun i => i = g ∨ (Value.slice RA k rc).ownBlock = some i) ib from fun e => (e.elim (fun e => by have := HIB.out; have := HBg.out.wp; have := HBg.out.pg; omega) (fun e => by have := (HBg.out.os.lt ib e).1; have := HIB.out; have := HBg.out.wp; have := HBg.out.pg; have := HBg.out.gb; omega)))
                    have HS0 := hid (Only.refl (fun i => i = g ∨ (Value.slice RA k rc).ownBlock = some i) W5)
                    refine only_read (by rfl) (fun K hK => ?_)
                    refine quiet_runD 142 rfl (.pointer (some ⟨g, 5, none⟩)) (fun w => by kernel_rfl) ?_
                    refine hK _ ?_
                    clear hK K
                    simp only [Act.put, List.setIfInBounds_toArray, List.set_cons_zero, List.set_cons_succ]
                    refine only_read (by rfl) (fun K hK => ?_)
                    go_big_quiet_op
                    refine hK _ ?_
                    clear hK K
                    refine only_read (by rfl) (fun K hK => ?_)
                    go_big_quiet_op
                    refine hK _ ?_
                    clear hK K
                    refine only_read (by rfl) (fun K hK => ?_)
                    refine quiet_runD 146 rfl (.pointer (some ⟨ib, io + q, none⟩)) (fun w => by go_simp) ?_
                    refine hK _ ?_
                    clear hK K
                    simp only [Act.put, List.setIfInBounds_toArray, List.set_cons_zero, List.set_cons_succ]
                    refine only_read (by rfl) (fun K hK => ?_)
                    refine quiet_load1 5 (.tmp 146) rfl (ib) (io + q) rfl (.int .u8 x0) _ (fun w' hw' => (hw'.cells ib _ hil HNI.out).trans hy0) Try.underlying5 rfl ?_
                    refine hK _ ?_
                    clear hK K
                    simp only [Act.put, List.setIfInBounds_toArray, List.set_cons_zero, List.set_cons_succ]
                    refine only_read (by rfl) (fun K hK => ?_)
                    refine quiet_runD 148 rfl (.int .i64 x0) (fun w => by first | (go_simp; done) | (go_simp; exact wraps_64 _ (by omega) (by omega)) | (go_simp; first | omega | (rw [wraps_64 _ (by omega) (by omega)]; omega))) ?_
                    refine hK _ ?_
                    clear hK K
                    simp only [Act.put, List.setIfInBounds_toArray, List.set_cons_zero, List.set_cons_succ]
                    refine only_read (by rfl) (fun K hK => ?_)
                    go_big_quiet_op
                    refine hK _ ?_
                    clear hK K
                    refine only_read (by rfl) (fun K hK => ?_)
                    go_big_quiet_op
                    refine hK _ ?_
                    clear hK K
                    refine only_read (by rfl) (fun K hK => ?_)
                    refine quiet_runD 151 rfl (.int .i64 (q1 : Int)) (fun w => by first | (go_simp; exact HQ1.out) | (go_simp; rw [HQ1.out]; done) | (go_simp; rw [HQ1.out]; exact wraps_64 _ (by omega) (by omega))) ?_
                    refine hK _ ?_
                    clear hK K
                    simp only [Act.put, List.setIfInBounds_toArray, List.set_cons_zero, List.set_cons_succ]
                    refine only_read (by rfl) (fun K hK => ?_)
                    refine quiet_runD 152 rfl (.pointer (some ⟨ib, io + q1, none⟩)) (fun w => by go_simp) ?_
                    refine hK _ ?_
                    clear hK K
                    simp only [Act.put, List.setIfInBounds_toArray, List.set_cons_zero, List.set_cons_succ]
                    refine only_read (by rfl) (fun K hK => ?_)
                    refine quiet_load1 5 (.tmp 152) rfl (ib) (io + q1) rfl (.int .u8 x1) _ (fun w' hw' => (hw'.cells ib _ hil HNI.out).trans hy1) Try.underlying5 rfl ?_
                    refine hK _ ?_
                    clear hK K
                    simp only [Act.put, List.setIfInBounds_toArray, List.set_cons_zero, List.set_cons_succ]
                    refine only_read (by rfl) (fun K hK => ?_)
                    refine quiet_runD 154 rfl (.int .i64 x1) (fun w => by first | (go_simp; done) | (go_simp; exact wraps_64 _ (by omega) (by omega)) | (go_simp; first | omega | (rw [wraps_64 _ (by omega) (by omega)]; omega))) ?_
                    refine hK _ ?_
                    clear hK K
                    simp only [Act.put, List.setIfInBounds_toArray, List.set_cons_zero, List.set_cons_succ]
                    refine only_read (by rfl) (fun K hK => ?_)
                    refine quiet_runD 155 rfl (.agg #[.int .i64 x0, .int .i64 x1]) (fun w => by kernel_rfl) ?_
                    refine hK _ ?_
                    clear hK K
                    simp only [Act.put, List.setIfInBounds_toArray, List.set_cons_zero, List.set_cons_succ]
                    refine only_br ?_ ?_
                    · refine only_act (by rfl) (fun K hK => ?_)
                      have hcx := HBg.out.rg.range 5 _ rfl
                      have hlx := HBg.out.rg.lt
                      try simp only [Nat.zero_add] at hcx
                      go_wp2_with fail
                      refine ⟨_, Only.refl _ _, HS0.out, ?_⟩
                      clear hcx hlx
                      refine only_act (by rfl) (fun K hK => ?_)
                      go_wp2_with fail
                      refine ⟨_, Only.refl _ _, Only.alloc HS0.out _, ?_⟩
                      refine only_gen (fun W => Hid (Ext W5 W) ∧ Hid (Row W W5.heap.size 0 [.int .i64 x0, .int .i64 x1])) ⟨hid ((Ext.refl _).alloc _), hid (Row.new W5 _ _)⟩ ?_
                      rintro V1 ⟨hE1, hR1⟩
                      have HB1 := hid (HBg.out.ext hE1.out)
                      have HS1 := hid (HS0.out.transExt hE1.out)
                      refine only_act (by rfl) (fun K hK => ?_)
                      refine wp_app_row shr_len (by decide) shr_one Try.underlying24 info_shrN (.tmp 143) (.tmp 156) rfl base (.slice RA k rc) k (rowF Shr.cells RSK) rfl (show ownsAt V1 base 70 2 (.slice RA k rc) k (rowF Shr.cells RSK) by have h9 := HB1.out.os; rwa [HLs.out] at h9) (some ⟨W5.heap.size, 0, none⟩) 1 1 [(⟨x0, x1⟩ : Shr)] rfl rfl (RdF.row0 (zs := [(⟨x0, x1⟩ : Shr)]) hR1.out) (by unfold maxLen; omega) (by omega) HB1.out.bs ?_
                      intro v6 w6 hown6 hgrow hat
                      obtain ⟨A6, c6, hv6, _, _⟩ := hown6.shape
                      subst hv6
                      have HT6 : Hid (Only (fun i => (Value.slice RA k rc).ownBlock = some i) V1 w6) := hid (grownOnly hgrow fun g hg => hg)
                      have HPUT := hid (GB.puts HB1.out HT6.out (z := (⟨x0, x1⟩ : Shr)) (v6 := .slice A6 (k + 1) c6) (by rw [rowF_append, List.length_append, HLs.out]; exact hown6) (fun b e => hat.elim (fun h => .inl (h ▸ e)) (fun ⟨g2, e2, h2⟩ => .inr (by rw [e] at e2; cases e2; exact h2))))
                      have HS6 := hid (Only.trans HS1.out HT6.out (fun i hi => .inl (.inr hi)))
                      have hng : ¬ (Value.slice RA k rc).ownBlock = some g := fun e => by have := (HB1.out.os.lt g e).1; have := HB1.out.gb; omega
                      have hc6 := (HT6.out.cells g 5 HB1.out.rg.lt hng).trans (HB1.out.rg.range 5 _ rfl)
                      have hf6 := (HT6.out.frozens g 5 HB1.out.rg.lt hng).trans (HB1.out.rg.free 5 (by show 5 < 6; decide))
                      try simp only [Nat.zero_add] at hc6 hf6
                      have hl6 := Nat.lt_of_lt_of_le HB1.out.rg.lt HT6.out.size
                      refine hK _ _ ⟨_, Only.refl _ _, HS6.out, ?_⟩
                      clear hK K hgrow hat hown6
                      simp only [Act.put, List.setIfInBounds_toArray, List.set_cons_zero, List.set_cons_succ]
                      refine only_read (by rfl) (fun K hK => ?_)
                      refine quiet_runD 158 rfl (.pointer (some ⟨g, 5, none⟩)) (fun w => by kernel_rfl) ?_
                      refine hK _ ?_
                      clear hK K
                      simp only [Act.put, List.setIfInBounds_toArray, List.set_cons_zero, List.set_cons_succ]
                      refine only_act (by rfl) (fun K hK => ?_)
                      go_wp2_with fail
                      refine ⟨_, Only.refl _ _, Only.setCell HS6.out (.inl (.inl rfl)) _, ?_⟩
                      refine only_nil ?_
                      go_wp2_with fail
                      go_meet
                      exact ⟨_, HPUT⟩
                    · refine only_act (by rfl) (fun K hK => ?_)
                      go_wp2_with fail
                      refine ⟨_, Only.refl _ _, Only.alloc HS0.out _, ?_⟩
                      refine only_gen (fun W => Hid (Ext W5 W) ∧ Hid (Row W W5.heap.size 0 [.int .i64 x0, .int .i64 x1])) ⟨hid ((Ext.refl _).alloc _), hid (Row.new W5 _ _)⟩ ?_
                      rintro V1 ⟨hE1, hR1⟩
                      have HB1 := hid (HBg.out.ext hE1.out)
                      have HS1 := hid (HS0.out.transExt hE1.out)
                      refine only_act (by rfl) (fun K hK => ?_)
                      have hcx := HB1.out.rg.range 5 _ rfl
                      have hlx := HB1.out.rg.lt
                      try simp only [Nat.zero_add] at hcx
                      go_wp2_with fail
                      refine ⟨_, Only.refl _ _, HS1.out, ?_⟩
                      clear hcx hlx
                      refine only_act (by rfl) (fun K hK => ?_)
                      refine wp_app_row shr_len (by decide) shr_one Try.underlying24 info_shrN (.tmp 143) (.tmp 156) rfl base (.slice RA k rc) k (rowF Shr.cells RSK) rfl (show ownsAt V1 base 70 2 (.slice RA k rc) k (rowF Shr.cells RSK) by have h9 := HB1.out.os; rwa [HLs.out] at h9) (some ⟨W5.heap.size, 0, none⟩) 1 1 [(⟨x0, x1⟩ : Shr)] rfl rfl (RdF.row0 (zs := [(⟨x0, x1⟩ : Shr)]) hR1.out) (by unfold maxLen; omega) (by omega) HB1.out.bs ?_
                      intro v6 w6 hown6 hgrow hat
                      obtain ⟨A6, c6, hv6, _, _⟩ := hown6.shape
                      subst hv6
                      have HT6 : Hid (Only (fun i => (Value.slice RA k rc).ownBlock = some i) V1 w6) := hid (grownOnly hgrow fun g hg => hg)
                      have HPUT := hid (GB.puts HB1.out HT6.out (z := (⟨x0, x1⟩ : Shr)) (v6 := .slice A6 (k + 1) c6) (by rw [rowF_append, List.length_append, HLs.out]; exact hown6) (fun b e => hat.elim (fun h => .inl (h ▸ e)) (fun ⟨g2, e2, h2⟩ => .inr (by rw [e] at e2; cases e2; exact h2))))
                      have HS6 := hid (Only.trans HS1.out HT6.out (fun i hi => .inl (.inr hi)))
                      have hng : ¬ (Value.slice RA k rc).ownBlock = some g := fun e => by have := (HB1.out.os.lt g e).1; have := HB1.out.gb; omega
                      have hc6 := (HT6.out.cells g 5 HB1.out.rg.lt hng).trans (HB1.out.rg.range 5 _ rfl)
                      have hf6 := (HT6.out.frozens g 5 HB1.out.rg.lt hng).trans (HB1.out.rg.free 5 (by show 5 < 6; decide))
                      try simp only [Nat.zero_add] at hc6 hf6
                      have hl6 := Nat.lt_of_lt_of_le HB1.out.rg.lt HT6.out.size
                      refine hK _ _ ⟨_, Only.refl _ _, HS6.out, ?_⟩
                      clear hK K hgrow hat hown6
                      simp only [Act.put, List.setIfInBounds_toArray, List.set_cons_zero, List.set_cons_succ]
                      refine only_read (by rfl) (fun K hK => ?_)
                      refine quiet_runD 158 rfl (.pointer (some ⟨g, 5, none⟩)) (fun w => by kernel_rfl) ?_
                      refine hK _ ?_
                      clear hK K
                      simp only [Act.put, List.setIfInBounds_toArray, List.set_cons_zero, List.set_cons_succ]
                      refine only_act (by rfl) (fun K hK => ?_)
                      go_wp2_with fail
                      refine ⟨_, Only.refl _ _, Only.setCell HS6.out (.inl (.inl rfl)) _, ?_⟩
                      refine only_nil ?_
                      go_wp2_with fail
                      go_meet
                      exact ⟨_, HPUT⟩
                  case rest =>
                    obtain ⟨v6, HB3⟩ := hcut
                    clear HB
                    rw [← HRK.out] at HB3
                    go_wp2
                    go_roundw
                    case rel => exact ⟨k + 1, q2, v6, by omega, by go_num, HQ2.out.symm ▸ (by go_num), hid (by have := HQ.out; omega), HB3⟩
                    case measure => simp [intOf]; omega
                · obtain rfl : ns = k := by omega
                  have hk1 : ¬ (ns : Int) < (ns : Int) := by omega
                  obtain ⟨SS0, hSS0⟩ : ∃ y, (List.range ns).map (sh0 bl (9 + 3 * nc + 4 * nl)) = y := ⟨_, rfl⟩
                  rw [hSS0] at HB
                  have HSS0 := hid hSS0
                  clear hSS0
                  obtain ⟨vS, hvS⟩ : ∃ y, v = y := ⟨_, rfl⟩
                  rw [hvS] at HB
                  clear hvS
                  have l1 : CS0.length = nc := by rw [← HCS0.out]; simp
                  have l2 : LS0.length = nl := by rw [← HLS0.out]; simp
                  have l3 : SS0.length = ns := by rw [← HSS0.out]; simp
                  have l4 : NS0.length = nc := by rw [← HNS0.out]; simp
                  obtain ⟨CA, cc, rfl, _, _⟩ := (l1 ▸ HB.out.oc).shape
                  obtain ⟨LA, lc, rfl, _, _⟩ := (l2 ▸ HB.out.ol).shape
                  obtain ⟨SA, sc, rfl, _, _⟩ := (l3 ▸ HB.out.os).shape
                  obtain ⟨NA, kc, rfl, _, _⟩ := (l4 ▸ HB.out.on).shape
                  have HC := hid (HB.out.toC l1 l2 l3 l4 (fun d hd => by rw [← HCS0.out] at hd; obtain ⟨i, _, rfl⟩ := List.mem_map.1 hd; exact ⟨rfl, rfl⟩) (fun d hd => by rw [← HCS0.out] at hd; obtain ⟨i, _, rfl⟩ := List.mem_map.1 hd; exact Nat.zero_le _))
                  have HCD := hid (show CD bl nc 0 CS0 by rw [← HCS0.out]; exact CD.start)
                  have HL4 := hid l4
                  have hca := hc
                  clear HB l1 l2 l3 l4 HCS0
                  go_wp2
                  go_loopw [5, 13] (fun at_ i wr => ∃ (k qa : Nat) (cs : List Cmp), k ≤ nc ∧ i = .int .i64 k ∧ at_ = .int .i64 (qa : Int) ∧ Hid (qa ≤ n ∧ (qa = gFrom bl + gSum bl k ∨ (qa = n ∧ n ≤ gFrom bl + gSum bl k))) ∧ Hid (CD bl nc k cs) ∧ Hid (GC w wr p g [.bool (y2 == 1), .int .i64 y3, .int .i64 (256 * y4 + y5), .slice CA nc cc, .slice LA nl lc, .slice SA ns sc] CA LA SA NA cs LS0 SS0 NS0)) (fun _ i _ => nc - (intOf i).toNat)
                  case atStart => exact ⟨0, _, _, Nat.zero_le _, rfl, rfl, hid (by have h1 := HQ.out; have h2 := HGFE.out; have h3 := HGF.out; have h4 : gSum bl 0 = 0 := rfl; rw [h4]; omega), HCD, HC⟩
                  case round =>
                    clear HC HCD HQ
                    obtain ⟨k, qa, cs, hk, rfl, rfl, HQN, HCD, HC⟩ := hrel
                    have hqan := HQN.out.1
                    by_cases hlt : k < nc
                    · have hk1 : (k : Int) < (nc : Int) := by omega
                      have hk0 : (0 : Int) ≤ (k : Int) := by omega
                      have hkc : k < cs.length := by rw [HCD.out.1]; exact hlt
                      obtain ⟨d, hdk⟩ : ∃ y, cs[k] = y := ⟨_, rfl⟩
                      have hd : cs[k]? = some d := by rw [List.getElem?_eq_getElem hkc, hdk]
                      obtain ⟨cb, co, rfl, _⟩ := HC.out.rc (by omega)
                      obtain ⟨l, hlk⟩ : ∃ y, lnN bl k = y := ⟨_, rfl⟩
                      have hl6 : l ≤ 65535 := by rw [← hlk]; exact (lnN_eq HBL.out k).2
                      obtain ⟨nb, no, eN, hnb, hnr⟩ := HC.out.rn.elem int_len (k := k) (by rw [HL4.out]; exact hlt) (l : Int) (by
                        have h2 : NS0[k]'(by rw [HL4.out]; exact hlt) = ln0 bl k := by
                          have h3 : NS0[k]? = some (ln0 bl k) := by rw [← HNS0.out, List.getElem?_map, List.getElem?_range hlt]; rfl
                          rw [List.getElem?_eq_getElem (by rw [HL4.out]; exact hlt)] at h3
                          exact Option.some.inj h3
                        rw [h2, (lnN_eq HBL.out k).1, hlk])
                      have e0 := hnr 0 _ rfl
                      simp only [Nat.add_zero, Nat.mul_one] at e0
                      subst eN
                      clear hnr
                      obtain ⟨m, hm'⟩ : ∃ y : Nat, min (l : Int) ((n : Int) - (qa : Int)) = (y : Int) := ⟨min l (n - qa), by omega⟩
                      have hmc : (m = l ∧ l + qa ≤ n) ∨ (m + qa = n ∧ m ≤ l) := by omega
                      have HMN := hid hm'
                      clear hm'
                      have HMC := hid hmc
                      clear hmc
                      go_upto_region 31 with (fail)
                      rw [HMN.out]
                      have hmc := HMC.out
                      have hmx : m + qa ≤ n := by omega
                      clear e0 hnb hmc
                      have HQM := hid (show (qa : Int) + (m : Int) = ((qa + m : Nat) : Int) by omega)
                      obtain ⟨qm, hqm⟩ : ∃ y, qa + m = y := ⟨_, rfl⟩
                      rw [hqm] at HQM
                      have hqmn : qm ≤ n := by omega
                      have hqm0 : (0 : Int) ≤ (qm : Int) := by omega
                      have hqmc : (qm : Int) ≤ (ca : Int) := by omega
                      have hqqm : (qa : Int) ≤ (qm : Int) := by omega
                      obtain ⟨sv, hsv⟩ : ∃ y, (if ca = qa then (some ⟨ib, io, none⟩ : Option Addr) else some ⟨ib, io + qa, none⟩) = y := ⟨_, rfl⟩
                      have HSV := hid hsv
                      have HRS := hid (fun (W5 : World) (hx : Ext wr W5) => show RdF byF W5 sv ((bl.drop qa).take m) by rw [← hsv]; exact rdF_sub (rdB_by (HRB.out.ext (HC.out.ew.trans hx))) (by rw [HN.out]; omega) (by rw [HN.out]; omega))
                      have HLM := hid (show ((bl.drop qa).take m).length = m by rw [List.length_take, List.length_drop, HN.out]; omega)
                      have HQN2 := hid (show qm ≤ n ∧ (qm = gFrom bl + gSum bl (k + 1) ∨ (qm = n ∧ n ≤ gFrom bl + gSum bl (k + 1))) by
                        have h2 : gSum bl (k + 1) = gSum bl k + lnN bl k := rfl
                        have h3 := HMC.out
                        have h4 := HQN.out
                        rw [h2, hlk]
                        omega)
                      have HMQ := hid (show (bl.drop qa).take m = (bl.drop (gFrom bl + gSum bl k)).take (lnN bl k) by
                        rw [hlk]
                        rcases HQN.out.2 with h2 | ⟨h2, h3⟩
                        · rcases HMC.out with ⟨h4, h5⟩ | ⟨h4, h5⟩
                          · rw [h2, h4]
                          · rw [← h2, List.take_of_length_le (i := m) (by rw [List.length_drop, HN.out]; omega), List.take_of_length_le (by rw [List.length_drop, HN.out]; omega)]
                        · rw [List.drop_eq_nil_of_le (by rw [HN.out]; omega), List.drop_eq_nil_of_le (by rw [HN.out]; omega), List.take_nil, List.take_nil])
                      have HQS := hid (show qm - qa = m by omega)
                      clear hsv hqm
                      refine wp_region_only (S := (fun i => i = cb)) (.rd 0 (.rd 1 (.rd 2 (.rd 4 (.rd 5 (.rd 6 (.rd 7 (.rd 8 (.rd 9 (.ac 3 (.ac 10 (.rd 11 (.rd 12 (.ac 13 .done)))))))))))))) (by kernel_rfl) (by kernel_rfl) (fun _ _ d _ _ h => by cases d <;> exact h) (by simp only [Ord.map, nthOp, List.append]; rfl) ?_
                      intro d1
                      have hex := Ext.grow (Ext.refl wr) d1
                      have HC5 := hid (HC.out.ext hex)
                      replace HRS := hid (fun (W5 : World) (hx : Ext (Go.Proofs.Ytgldlkoohfclpaa.grow wr d1) W5) => HRS.out W5 (hex.trans hx))
                      clear hex
                      generalize Go.Proofs.Ytgldlkoohfclpaa.grow wr d1 = W5 at HC5 HRS ⊢
                      have HNG := hid (show ¬ (fun i => i = cb) g from fun (e : g = cb) => by have := HC5.out.cx cb co rfl; omega)
                      have hgl := HC5.out.rg.lt
                      have hg3 := HC5.out.rg.range 3 _ rfl
                      try simp only [Nat.zero_add] at hg3
                      obtain ⟨b9, o9, e9, hrow⟩ := HC5.out.rc (by rw [HCD.out.1]; omega)
                      cases e9
                      have hcbl := hrow.lt
                      have hcc := hrow.range (k * 2) (.slice d.A d.bl.length d.ca) (by have h9 := rowF_at cmp_len cs k 0 hkc (by decide); rw [Nat.add_zero] at h9; rw [h9, hdk]; rfl)
                      have hcf := hrow.free (k * 2) (by rw [rowF_length cmp_len]; omega)
                      have HS0 := hid (Only.refl (fun i => i = cb) W5)
                      have HE0 := hid (Ext.refl W5)
                      clear hrow
                      refine only_read (by rfl) (fun K hK => ?_)
                      refine quiet_runD 175 rfl (.pointer (some ⟨g, 3, none⟩)) (fun w => by kernel_rfl) ?_
                      refine hK _ ?_
                      clear hK K
                      simp only [Act.put, List.setIfInBounds_toArray, List.set_cons_zero, List.set_cons_succ]
                      refine only_read (by rfl) (fun K hK => ?_)
                      refine quiet_load1 22 (.tmp 175) rfl (g) (3) rfl (.slice (some ⟨cb, co, none⟩) nc cc) _ (fun w' hw' => (hw'.cells g 3 hgl HNG.out).trans hg3) Try.underlying22 rfl ?_
                      refine hK _ ?_
                      clear hK K
                      simp only [Act.put, List.setIfInBounds_toArray, List.set_cons_zero, List.set_cons_succ]
                      refine only_read (by rfl) (fun K hK => ?_)
                      go_big_quiet_op
                      refine hK _ ?_
                      clear hK K
                      refine only_read (by rfl) (fun K hK => ?_)
                      go_big_quiet_op
                      refine hK _ ?_
                      clear hK K
                      refine only_read (by rfl) (fun K hK => ?_)
                      go_big_quiet_op
                      refine hK _ ?_
                      clear hK K
                      refine only_read (by rfl) (fun K hK => ?_)
                      go_big_quiet_op
                      refine hK _ ?_
                      clear hK K
                      refine only_read (by rfl) (fun K hK => ?_)
                      go_big_quiet_op
                      refine hK _ ?_
                      clear hK K
                      refine only_read (by rfl) (fun K hK => ?_)
                      refine quiet_runD 183 rfl (.int .i64 (qm : Int)) (fun w => by go_simp; rw [HQM.out]; exact wraps_64 _ (by omega) (by omega)) ?_
                      refine hK _ ?_
                      clear hK K
                      simp only [Act.put, List.setIfInBounds_toArray, List.set_cons_zero, List.set_cons_succ]
                      refine only_read (by rfl) (fun K hK => ?_)
                      refine quiet_runD 184 rfl (.slice sv m (ca - qa)) (fun w => by go_simp; exact ⟨HSV.out, HQS.out⟩) ?_
                      refine hK _ ?_
                      clear hK K
                      simp only [Act.put, List.setIfInBounds_toArray, List.set_cons_zero, List.set_cons_succ]
                      refine only_act (by rfl) (fun K hK => ?_)
                      go_wp2_with fail
                      refine ⟨_, Only.refl _ _, Only.alloc HS0.out _, ?_⟩
                      refine only_gen (fun W => Hid (Ext W5 W) ∧ Hid (ownsAt W W5.heap.size 5 1 (.slice (some ⟨W5.heap.size, 0, none⟩) 0 0) 0 (rowF byF []))) ⟨hid ((Ext.refl _).alloc _), hid (own_new #[] _ 1 0 (Nat.le_refl _) rfl (by decide))⟩ ?_
                      rintro V1 ⟨hE1, HO1⟩
                      have HS1 := hid (HS0.out.transExt hE1.out)
                      have HE1 := hid (HE0.out.trans hE1.out)
                      obtain ⟨BS, hBS⟩ : ∃ y, W5.heap.size = y := ⟨_, rfl⟩
                      rw [hBS] at HO1 ⊢
                      have HBS := hid hBS
                      clear hBS
                      refine only_act (by rfl) (fun K hK => ?_)
                      refine wp_app_row by_len (by decide) by_one Try.underlying27 info_by (.tmp 178) (.tmp 184) rfl BS (.slice (some ⟨BS, 0, none⟩) 0 0) 0 (rowF byF []) rfl HO1.out sv m (ca - qa) ((bl.drop qa).take m) rfl HLM.out (HRS.out W5 (Ext.refl _) |>.ext HE1.out) (by unfold maxLen; omega) (by omega) (by have := HBS.out; have := HE1.out.size; omega) ?_
                      intro v6 w6 hown6 hgrow hat
                      obtain ⟨A6, c6, hv6, _, _⟩ := hown6.shape
                      subst hv6
                      have hon6 := grownOnly (S := fun i => BS ≤ i) hgrow (fun g e => (HO1.out.lt g e).1)
                      have HS6 := hid (Only.trans HS1.out hon6 (fun i hi => .inr (by rw [HBS.out]; exact hi)))
                      have HE6 := hid (Ext.only HE1.out hon6 (fun i hi => by rw [HBS.out]; exact hi))
                      have HOW6 := hid (show ownsAt w6 BS 5 1 (.slice A6 (0 + m) c6) (0 + m) (rowF byF ((bl.drop qa).take m)) from hown6)
                      have hc6 := (HE6.out.cells cb (co + k * 2) hcbl).trans hcc
                      have hf6 := (HE6.out.frozens cb (co + k * 2) hcbl).trans hcf
                      have hl6 := Nat.lt_of_lt_of_le hcbl HE6.out.size
                      refine hK _ _ ⟨_, Only.refl _ _, HS6.out, ?_⟩
                      clear hK K hgrow hat hown6 hon6
                      simp only [Act.put, List.setIfInBounds_toArray, List.set_cons_zero, List.set_cons_succ]
                      refine only_read (by rfl) (fun K hK => ?_)
                      refine quiet_runD 186 rfl (.pointer (some ⟨cb, co + k * 2, none⟩)) (fun w => by go_simp) ?_
                      refine hK _ ?_
                      clear hK K
                      simp only [Act.put, List.setIfInBounds_toArray, List.set_cons_zero, List.set_cons_succ]
                      refine only_read (by rfl) (fun K hK => ?_)
                      refine quiet_runD 187 rfl (.pointer (some ⟨cb, co + k * 2, none⟩)) (fun w => by kernel_rfl) ?_
                      refine hK _ ?_
                      clear hK K
                      simp only [Act.put, List.setIfInBounds_toArray, List.set_cons_zero, List.set_cons_succ]
                      refine only_act (by rfl) (fun K hK => ?_)
                      go_wp2_with fail
                      refine ⟨_, Only.refl _ _, Only.setCell HS6.out (.inl rfl) _, ?_⟩
                      refine only_nil ?_
                      have HLE := ownsAt.cap_le HOW6.out
                      have HC6 := hid (HC5.out.ext HE6.out)
                      have HP6 := hid (HC6.out.put hd rfl (A := A6) (ca := c6) (bl := (bl.drop qa).take m) (n := m) HLM.out (by_rdB (HOW6.out.rdF (by rw [HLM.out, Nat.zero_add]))) (fun z hz => HBL.out z (List.mem_of_mem_drop (List.mem_of_mem_take hz))) (by rw [HLM.out]; omega) HLE.2 (fun b o e => by have h8 := (HOW6.out.lt b (by rw [e]; rfl)).1; have h7 := HBS.out; have h6 := HC5.out.cx cb co rfl; have h5 := HC5.out.rg.lt; exact ⟨by omega, by omega⟩))
                      have HCD2 := hid (HCD.out.step (A := A6) (ca := c6) hd HMQ.out)
                      go_wp2
                      go_roundw
                      case rel => exact ⟨k + 1, qm, _, by omega, by go_num, (by have h9 := HQM.out; first | (go_num; done) | (rw [h9]; done) | (simp only [Value.int.injEq, true_and]; omega)), hid HQN2.out, HCD2, HP6⟩
                      case measure => simp [intOf]; omega
                    · obtain rfl : nc = k := by omega
                      have hk1 : ¬ (nc : Int) < (nc : Int) := by omega
                      obtain ⟨X, hX⟩ : ∃ X : Img, X = (⟨y2 == 1, y3, 256 * y4 + y5, CA, cc, cs, LA, lc, LS0, SA, sc, SS0⟩ : Img) := ⟨_, rfl⟩
                      have HIM := hid (show ImgAt wr X by rw [hX]; exact HC.out.imgAt _ _ _ _ _ _)
                      have HST := hid (show X.strip = gImg (cmC bl) bl by
                        rw [hX]
                        unfold Img.strip gImg
                        rw [HCD.out.done, ← HLS0.out, ← HSS0.out, HNC.out, HNL.out, HNS.out, numB_one, numB_one, numB_two, hy2', hy3', hy4', hy5', Int.mul_comm y4])
                      have HWX := hid (show ∀ d ∈ X.shares, -9223372036854775808 ≤ d.wr_ ∧ d.wr_ ≤ 9223372036854775807 from fun d hd => gImg_wr HBL.out (cmC bl) d (by rw [← HST.out]; exact hd))
                      have HBYX := hid (show byteL (byV X) from fun z hz => by
                        unfold byV at hz
                        rcases List.mem_append.1 hz with h | h
                        · exact hdB_byte X z h
                        · obtain ⟨d, hd, h2⟩ := List.mem_flatMap.1 h
                          exact (HIM.out.cb d hd).2.1 z h2)
                      have x0 : X.strict = (y2 == 1) := by rw [hX]
                      have x1 : X.heap = y3 := by rw [hX]
                      have x2 : X.full = (256 * y4 + y5) := by rw [hX]
                      have x3 : X.C = CA := by rw [hX]
                      have x4 : X.comps.length = nc := by rw [hX]; exact HCD.out.1
                      have x5 : X.cc = cc := by rw [hX]
                      have x6 : X.L = LA := by rw [hX]
                      have x7 : X.links.length = nl := by rw [hX]; show LS0.length = nl; rw [← HLS0.out]; simp
                      have x8 : X.lc = lc := by rw [hX]
                      have x9 : X.S = SA := by rw [hX]
                      have x10 : X.shares.length = ns := by rw [hX]; show SS0.length = ns; rw [← HSS0.out]; simp
                      have x11 : X.sc = sc := by rw [hX]
                      have HFM0 := hid (show formV X = formV (gImg (cmC bl) bl) by rw [← HST.out, form_strip])
                      have HBV0 := hid (show byV X = byV (gImg (cmC bl) bl) by rw [← HST.out, byV_strip])
                      have HRV0 := hid (show rightV X = rightV (gImg (cmC bl) bl) by rw [← HST.out, rightV_strip])
                      have HRE := hid (show gErr bl = if formV X = true ∧ byV X = bl then (if rightV X = true then 0 else 151) else 1 by rw [← HREQ.out, HFM0.out, HBV0.out, HRV0.out]; rfl)
                      obtain ⟨fv, hfv⟩ : ∃ y, formV X = y := ⟨_, rfl⟩
                      obtain ⟨rv, hrv⟩ : ∃ y, rightV X = y := ⟨_, rfl⟩
                      obtain ⟨BYL, hby⟩ : ∃ y, byV X = y := ⟨_, rfl⟩
                      rw [hfv, hrv, hby] at HRE
                      rw [hby] at HBYX
                      have HBN := hid (show 0 < BYL.length by rw [← hby]; unfold byV; rw [List.length_append, hdB_len]; omega)
                      have HFM : Hid (∀ W, Ext wr W → Calls Try.prog 33 #[.agg #[.bool (y2 == 1), .int .i64 y3, .int .i64 (256 * y4 + y5), .slice CA nc cc, .slice LA nl lc, .slice SA ns sc]] W fun e w' => e = .returned (.bool fv) ∧ Ext W w') := hid (fun W hx => by
                        have h := form_ X W (HIM.out.ext hx) (by omega) (by omega) (by omega)
                        rw [hfv, x0, x1, x2, x3, x4, x5, x6, x7, x8, x9, x10, x11] at h
                        exact h)
                      have HRT : Hid (∀ W, Ext wr W → Calls Try.prog 15 #[.agg #[.bool (y2 == 1), .int .i64 y3, .int .i64 (256 * y4 + y5), .slice CA nc cc, .slice LA nl lc, .slice SA ns sc]] W fun e w' => e = .returned (.bool rv) ∧ Ext W w') := hid (fun W hx => by
                        have h := rright_ X W (HIM.out.ext hx) (by omega) (by omega) (by omega) HWX.out
                        rw [hrv, x0, x1, x2, x3, x4, x5, x6, x7, x8, x9, x10, x11] at h
                        exact h)
                      have HBY2 : Hid (fv = true → ∀ W, Ext wr W → Calls Try.prog 34 #[.agg #[.bool (y2 == 1), .int .i64 y3, .int .i64 (256 * y4 + y5), .slice CA nc cc, .slice LA nl lc, .slice SA ns sc]] W fun e w' => ∃ A ca, e = .returned (.slice A BYL.length ca) ∧ Hid (OwnY w' W.heap.size (.slice A BYL.length ca) BYL) ∧ Hid (Ext W w')) := hid (fun h0 W hx => by
                        have h := rbytes_ X W (HIM.out.ext hx) (by rw [hfv]; exact h0)
                        rw [hby, x0, x1, x2, x3, x4, x5, x6, x7, x8, x9, x10, x11] at h
                        exact h)
                      clear hfv hrv hby HFM0 HBV0 HRV0
                      go_upto_region 33 with (fail)
                      cases fv with
                      | false =>
                        have HE1 := hid (show gErr bl = 1 by rw [HRE.out, if_neg (by simp)])
                        refine wp_region_step (.rd 0 (.ac 1 (.rd 2 (.rd 3 (.rd 4 (.rd 7 (.rd 8 (.ac 5 (.rd 6 (.rd 9 (.rd 10 .done))))))))))) (by kernel_rfl) (by kernel_rfl) (fun _ _ d _ _ h => by cases d <;> exact h) (by simp only [Ord.map, nthOp, List.append]; rfl) ?_
                        intro d0
                        have HU0 := hid (Ext.grow (Ext.refl wr) d0)
                        generalize Go.Proofs.Ytgldlkoohfclpaa.grow wr d0 = U0 at HU0 ⊢
                        have z0 := (HC.out.ext HU0.out).rg.range 0 _ rfl
                        have z1 := (HC.out.ext HU0.out).rg.range 1 _ rfl
                        have z2 := (HC.out.ext HU0.out).rg.range 2 _ rfl
                        have z3 := (HC.out.ext HU0.out).rg.range 3 _ rfl
                        have z4 := (HC.out.ext HU0.out).rg.range 4 _ rfl
                        have z5 := (HC.out.ext HU0.out).rg.range 5 _ rfl
                        have zl := (HC.out.ext HU0.out).rg.lt
                        try simp only [Nat.zero_add] at z1 z2 z3 z4 z5
                        refine step_read (by rfl) (fun K hK => ?_)
                        go_big_quiet_op
                        refine hK _ ?_
                        clear hK K
                        clear z0 z1 z2 z3 z4 z5 zl
                        refine step_act (by rfl) (fun K hK => ?_)
                        go_wp2_with (go_at_call 33; refine (HFM.out U0 HU0.out).mono ?_; rintro e U1 ⟨rfl, hx⟩)
                        refine ⟨_, hx, Ext.refl _, ?_⟩
                        have HU1 := hid (HU0.out.trans hx)
                        have hxa1 := hx
                        clear hx
                        refine step_read (by rfl) (fun K hK => ?_)
                        go_big_quiet_op
                        refine hK _ ?_
                        clear hK K
                        refine step_read (by rfl) (fun K hK => ?_)
                        go_big_quiet_op
                        refine hK _ ?_
                        clear hK K
                        refine step_skip (by rfl) ?_
                        simp only [Act.put, List.setIfInBounds_toArray, List.set_cons_zero, List.set_cons_succ]
                        refine step_skip (by rfl) ?_
                        simp only [Act.put, List.setIfInBounds_toArray, List.set_cons_zero, List.set_cons_succ]
                        refine step_skip (by rfl) ?_
                        simp only [Act.put, List.setIfInBounds_toArray, List.set_cons_zero, List.set_cons_succ]
                        refine step_idle (by rfl) ?_
                        simp only [Act.put, List.setIfInBounds_toArray, List.set_cons_zero, List.set_cons_succ]
                        refine step_skip (by rfl) ?_
                        simp only [Act.put, List.setIfInBounds_toArray, List.set_cons_zero, List.set_cons_succ]
                        refine step_skip (by rfl) ?_
                        simp only [Act.put, List.setIfInBounds_toArray, List.set_cons_zero, List.set_cons_succ]
                        refine step_read (by rfl) (fun K hK => ?_)
                        go_big_quiet_op
                        refine hK _ ?_
                        clear hK K
                        refine step_nil ?_
                        have HCE := hid (HC.out.ext HU1.out)
                        generalize U1 = WE at HCE ⊢
                        have r1 := HCE.out.rp
                        have r1l := r1.lt
                        have r1c0 := r1.range 0 _ rfl
                        have r1f0 := r1.free 0 (by show 0 < 6; decide)
                        have r1c1 := r1.range 1 _ rfl
                        have r1f1 := r1.free 1 (by show 1 < 6; decide)
                        have r1c2 := r1.range 2 _ rfl
                        have r1f2 := r1.free 2 (by show 2 < 6; decide)
                        have r1c3 := r1.range 3 _ rfl
                        have r1f3 := r1.free 3 (by show 3 < 6; decide)
                        have r1c4 := r1.range 4 _ rfl
                        have r1f4 := r1.free 4 (by show 4 < 6; decide)
                        have r1c5 := r1.range 5 _ rfl
                        have r1f5 := r1.free 5 (by show 5 < 6; decide)
                        simp only [Nat.zero_add] at r1c1 r1c2 r1c3 r1c4 r1c5 r1f1 r1f2 r1f3 r1f4 r1f5
                        clear r1
                        go_wp2
                        refine bodyPost_ret (v := .tuple #[.agg #[.bool false, .int .i64 0, .int .i64 0, .slice none 0 0, .slice none 0 0, .slice none 0 0], .int .i64 1]) (by simp [results, Try.results13, go_sem, r1l, r1c0, r1c1, r1c2, r1c3, r1c4, r1c5]) rfl ?_
                        have HFN := hid (Only.setCell (S := (fun i => i = p)) (Only.setCell (S := (fun i => i = p)) (Only.setCell (S := (fun i => i = p)) (Only.setCell (S := (fun i => i = p)) (Only.setCell (S := (fun i => i = p)) (Only.setCell (S := (fun i => i = p)) (Only.refl (fun i => i = p) WE) (.inl rfl) (o := 0) (.bool false)) (.inl rfl) (o := 1) (.int .i64 0)) (.inl rfl) (o := 2) (.int .i64 0)) (.inl rfl) (o := 3) (.slice none 0 0)) (.inl rfl) (o := 4) (.slice none 0 0)) (.inl rfl) (o := 5) (.slice none 0 0))
                        exact ⟨⟨zImg, by rw [HE1.out]; rfl, hid ⟨RdF.nil _ _, (fun d hd => nomatch hd), RdF.nil _ _, RdF.nil _ _⟩, hid (by unfold IsGot; rw [HE1.out]; rfl)⟩, hid (Ext.only HCE.out.ew HFN.out (fun i hi => by rw [hi]; exact HCE.out.wp))⟩
                      | true =>
                        have HBY := hid (HBY2.out rfl)
                        clear HBY2
                        by_cases hbe : BYL = bl
                        · have HSEQ := hid (show ((strOf BYL).toList == (strOf bl).toList) = true by rw [str_beq HBYX.out HBL.out]; exact decide_eq_true hbe)
                          have HRE2 := hid (show gErr bl = if rv = true then 0 else 151 by rw [HRE.out, if_pos ⟨rfl, hbe⟩])
                          clear HRE hbe
                          refine wp_region_step (.rd 0 (.ac 1 (.rd 2 (.rd 3 (.rd 4 (.rd 7 (.rd 8 (.ac 5 (.rd 6 (.rd 9 (.rd 10 .done))))))))))) (by kernel_rfl) (by kernel_rfl) (fun _ _ d _ _ h => by cases d <;> exact h) (by simp only [Ord.map, nthOp, List.append]; rfl) ?_
                          intro d0
                          have HU0 := hid (Ext.grow (Ext.refl wr) d0)
                          generalize Go.Proofs.Ytgldlkoohfclpaa.grow wr d0 = U0 at HU0 ⊢
                          have z0 := (HC.out.ext HU0.out).rg.range 0 _ rfl
                          have z1 := (HC.out.ext HU0.out).rg.range 1 _ rfl
                          have z2 := (HC.out.ext HU0.out).rg.range 2 _ rfl
                          have z3 := (HC.out.ext HU0.out).rg.range 3 _ rfl
                          have z4 := (HC.out.ext HU0.out).rg.range 4 _ rfl
                          have z5 := (HC.out.ext HU0.out).rg.range 5 _ rfl
                          have zl := (HC.out.ext HU0.out).rg.lt
                          try simp only [Nat.zero_add] at z1 z2 z3 z4 z5
                          refine step_read (by rfl) (fun K hK => ?_)
                          go_big_quiet_op
                          refine hK _ ?_
                          clear hK K
                          clear z0 z1 z2 z3 z4 z5 zl
                          refine step_act (by rfl) (fun K hK => ?_)
                          go_wp2_with (go_at_call 33; refine (HFM.out U0 HU0.out).mono ?_; rintro e U1 ⟨rfl, hx⟩)
                          refine ⟨_, hx, Ext.refl _, ?_⟩
                          have HU1 := hid (HU0.out.trans hx)
                          have hxa1 := hx
                          clear hx
                          have z0 := (HC.out.ext HU1.out).rg.range 0 _ rfl
                          have z1 := (HC.out.ext HU1.out).rg.range 1 _ rfl
                          have z2 := (HC.out.ext HU1.out).rg.range 2 _ rfl
                          have z3 := (HC.out.ext HU1.out).rg.range 3 _ rfl
                          have z4 := (HC.out.ext HU1.out).rg.range 4 _ rfl
                          have z5 := (HC.out.ext HU1.out).rg.range 5 _ rfl
                          have zl := (HC.out.ext HU1.out).rg.lt
                          try simp only [Nat.zero_add] at z1 z2 z3 z4 z5
                          refine step_read (by rfl) (fun K hK => ?_)
                          go_big_quiet_op
                          refine hK _ ?_
                          clear hK K
                          refine step_read (by rfl) (fun K hK => ?_)
                          go_big_quiet_op
                          refine hK _ ?_
                          clear hK K
                          refine step_read (by rfl) (fun K hK => ?_)
                          go_big_quiet_op
                          refine hK _ ?_
                          clear hK K
                          refine step_read (by rfl) (fun K hK => ?_)
                          go_big_quiet_op
                          refine hK _ ?_
                          clear hK K
                          refine step_read (by rfl) (fun K hK => ?_)
                          refine quiet_str 27 9 5 (.tmp 198) rfl Try.underlying27 Try.underlying5 Try.underlying9 (some ⟨ib, io, none⟩) ca n bl rfl HN.out.symm (HRB.out.ext (HC.out.ew.trans HU1.out)) (fun h0 => by rw [h0] at HN; exact absurd HN.out (by show ¬ 0 = n; omega)) ?_
                          refine hK _ ?_
                          clear hK K
                          simp only [Act.put, List.setIfInBounds_toArray, List.set_cons_zero, List.set_cons_succ]
                          clear z0 z1 z2 z3 z4 z5 zl
                          refine step_act (by rfl) (fun K hK => ?_)
                          go_wp2_with (go_at_call 34; refine (HBY.out U1 HU1.out).mono ?_; rintro e U2 ⟨BA, bca, rfl, HBO, hx0⟩; have hx := hx0.out; clear hx0)
                          refine ⟨_, hx, Ext.refl _, ?_⟩
                          have HU2 := hid (HU1.out.trans hx)
                          have hxa5 := hx
                          clear hx
                          refine step_read (by rfl) (fun K hK => ?_)
                          refine quiet_str 27 9 5 (.tmp 196) rfl Try.underlying27 Try.underlying5 Try.underlying9 BA bca BYL.length BYL rfl rfl (by_rdB (HBO.out.rdF rfl)) (fun h0 => absurd (HBN.out) (by rw [h0]; simp)) ?_
                          refine hK _ ?_
                          clear hK K
                          simp only [Act.put, List.setIfInBounds_toArray, List.set_cons_zero, List.set_cons_succ]
                          refine step_read (by rfl) (fun K hK => ?_)
                          refine quiet_runD 200 rfl (.bool false) (fun w => by first | (go_simp; rw [HSEQ.out]; done) | (go_simp; rw [HSEQ.out]; rfl) | (simp [go_sem, HSEQ.out])) ?_
                          refine hK _ ?_
                          clear hK K
                          simp only [Act.put, List.setIfInBounds_toArray, List.set_cons_zero, List.set_cons_succ]
                          refine step_read (by rfl) (fun K hK => ?_)
                          go_big_quiet_op
                          refine hK _ ?_
                          clear hK K
                          refine step_nil ?_
                          have HCE := hid (HC.out.ext HU2.out)
                          have HUW := HU2
                          generalize U2 = WE at HCE HUW ⊢
                          have z0 := (HCE.out).rg.range 0 _ rfl
                          have z1 := (HCE.out).rg.range 1 _ rfl
                          have z2 := (HCE.out).rg.range 2 _ rfl
                          have z3 := (HCE.out).rg.range 3 _ rfl
                          have z4 := (HCE.out).rg.range 4 _ rfl
                          have z5 := (HCE.out).rg.range 5 _ rfl
                          have zl := (HCE.out).rg.lt
                          try simp only [Nat.zero_add] at z1 z2 z3 z4 z5
                          go_wp2_with fail
                          refine (HRT.out WE HUW.out).mono ?_
                          rintro e WF ⟨rfl, hx⟩
                          replace HCE := hid (HCE.out.ext hx)
                          replace HUW := hid (HUW.out.trans hx)
                          clear hx z0 z1 z2 z3 z4 z5 zl
                          cases rv with
                          | false =>
                            have HE1 := hid (show gErr bl = 151 by rw [HRE2.out, if_neg (by simp)])
                            have r1 := HCE.out.rp
                            have r1l := r1.lt
                            have r1c0 := r1.range 0 _ rfl
                            have r1f0 := r1.free 0 (by show 0 < 6; decide)
                            have r1c1 := r1.range 1 _ rfl
                            have r1f1 := r1.free 1 (by show 1 < 6; decide)
                            have r1c2 := r1.range 2 _ rfl
                            have r1f2 := r1.free 2 (by show 2 < 6; decide)
                            have r1c3 := r1.range 3 _ rfl
                            have r1f3 := r1.free 3 (by show 3 < 6; decide)
                            have r1c4 := r1.range 4 _ rfl
                            have r1f4 := r1.free 4 (by show 4 < 6; decide)
                            have r1c5 := r1.range 5 _ rfl
                            have r1f5 := r1.free 5 (by show 5 < 6; decide)
                            simp only [Nat.zero_add] at r1c1 r1c2 r1c3 r1c4 r1c5 r1f1 r1f2 r1f3 r1f4 r1f5
                            clear r1
                            go_wp2
                            refine bodyPost_ret (v := .tuple #[.agg #[.bool false, .int .i64 0, .int .i64 0, .slice none 0 0, .slice none 0 0, .slice none 0 0], .int .i64 151]) (by simp [results, Try.results13, go_sem, r1l, r1c0, r1c1, r1c2, r1c3, r1c4, r1c5]) rfl ?_
                            have HFN := hid (Only.setCell (S := (fun i => i = p)) (Only.setCell (S := (fun i => i = p)) (Only.setCell (S := (fun i => i = p)) (Only.setCell (S := (fun i => i = p)) (Only.setCell (S := (fun i => i = p)) (Only.setCell (S := (fun i => i = p)) (Only.refl (fun i => i = p) WF) (.inl rfl) (o := 0) (.bool false)) (.inl rfl) (o := 1) (.int .i64 0)) (.inl rfl) (o := 2) (.int .i64 0)) (.inl rfl) (o := 3) (.slice none 0 0)) (.inl rfl) (o := 4) (.slice none 0 0)) (.inl rfl) (o := 5) (.slice none 0 0))
                            exact ⟨⟨zImg, by rw [HE1.out]; rfl, hid ⟨RdF.nil _ _, (fun d hd => nomatch hd), RdF.nil _ _, RdF.nil _ _⟩, hid (by unfold IsGot; rw [HE1.out]; rfl)⟩, hid (Ext.only HCE.out.ew HFN.out (fun i hi => by rw [hi]; exact HCE.out.wp))⟩
                          | true =>
                            have HE0 := hid (show gErr bl = 0 by rw [HRE2.out, if_pos rfl])
                            have z0 := (HCE.out).rg.range 0 _ rfl
                            have z1 := (HCE.out).rg.range 1 _ rfl
                            have z2 := (HCE.out).rg.range 2 _ rfl
                            have z3 := (HCE.out).rg.range 3 _ rfl
                            have z4 := (HCE.out).rg.range 4 _ rfl
                            have z5 := (HCE.out).rg.range 5 _ rfl
                            have zl := (HCE.out).rg.lt
                            try simp only [Nat.zero_add] at z1 z2 z3 z4 z5
                            have r1 := HCE.out.rp
                            have r1l := r1.lt
                            have r1c0 := r1.range 0 _ rfl
                            have r1f0 := r1.free 0 (by show 0 < 6; decide)
                            have r1c1 := r1.range 1 _ rfl
                            have r1f1 := r1.free 1 (by show 1 < 6; decide)
                            have r1c2 := r1.range 2 _ rfl
                            have r1f2 := r1.free 2 (by show 2 < 6; decide)
                            have r1c3 := r1.range 3 _ rfl
                            have r1f3 := r1.free 3 (by show 3 < 6; decide)
                            have r1c4 := r1.range 4 _ rfl
                            have r1f4 := r1.free 4 (by show 4 < 6; decide)
                            have r1c5 := r1.range 5 _ rfl
                            have r1f5 := r1.free 5 (by show 5 < 6; decide)
                            simp only [Nat.zero_add] at r1c1 r1c2 r1c3 r1c4 r1c5 r1f1 r1f2 r1f3 r1f4 r1f5
                            clear r1
                            go_wp2
                            refine bodyPost_ret (v := .tuple #[.agg #[.bool (y2 == 1), .int .i64 y3, .int .i64 (256 * y4 + y5), .slice CA nc cc, .slice LA nl lc, .slice SA ns sc], .int .i64 0]) (by simp [results, Try.results13, go_sem, r1l, r1c0, r1c1, r1c2, r1c3, r1c4, r1c5]) rfl ?_
                            have HFN := hid (Only.setCell (S := (fun i => i = p)) (Only.setCell (S := (fun i => i = p)) (Only.setCell (S := (fun i => i = p)) (Only.setCell (S := (fun i => i = p)) (Only.setCell (S := (fun i => i = p)) (Only.setCell (S := (fun i => i = p)) (Only.refl (fun i => i = p) WF) (.inl rfl) (o := 0) (.bool (y2 == 1))) (.inl rfl) (o := 1) (.int .i64 y3)) (.inl rfl) (o := 2) (.int .i64 (256 * y4 + y5))) (.inl rfl) (o := 3) (.slice CA nc cc)) (.inl rfl) (o := 4) (.slice LA nl lc)) (.inl rfl) (o := 5) (.slice SA ns sc))
                            have HIF := hid (show ImgAt WF X by rw [hX]; exact HCE.out.imgAt _ _ _ _ _ _)
                            have hpgE := HCE.out.pg
                            refine ⟨⟨X, by rw [x0, x1, x2, x3, x4, x5, x6, x7, x8, x9, x10, x11]; rw [HE0.out], hid ⟨?_, fun d hd => ⟨?_, (HIF.out.cb d hd).2⟩, ?_, ?_⟩, hid (by unfold IsGot; rw [HE0.out, if_pos rfl]; exact HST.out)⟩, hid (Ext.only HCE.out.ew HFN.out (fun i hi => by rw [hi]; exact HCE.out.wp))⟩
                            · exact HIF.out.c.only HFN.out (fun b o e => by rw [x3] at e; have := HCE.out.cx b o e; omega)
                            · exact rdB_only (HIF.out.cb d hd).1 HFN.out (fun b o e => by have := (HCE.out.ca d (by rw [hX] at hd; exact hd) b o e).1; omega)
                            · exact HIF.out.l.only HFN.out (fun b o e => by rw [x6] at e; have := HCE.out.lg b o e; omega)
                            · exact HIF.out.s.only HFN.out (fun b o e => by rw [x9] at e; have := HCE.out.sg b o e; omega)
                        · have HSEQ := hid (show ((strOf BYL).toList == (strOf bl).toList) = false by rw [str_beq HBYX.out HBL.out]; exact decide_eq_false hbe)
                          have HE1 := hid (show gErr bl = 1 by rw [HRE.out, if_neg (fun h => hbe h.2)])
                          clear HRE hbe
                          refine wp_region_step (.rd 0 (.ac 1 (.rd 2 (.rd 3 (.rd 4 (.rd 7 (.rd 8 (.ac 5 (.rd 6 (.rd 9 (.rd 10 .done))))))))))) (by kernel_rfl) (by kernel_rfl) (fun _ _ d _ _ h => by cases d <;> exact h) (by simp only [Ord.map, nthOp, List.append]; rfl) ?_
                          intro d0
                          have HU0 := hid (Ext.grow (Ext.refl wr) d0)
                          generalize Go.Proofs.Ytgldlkoohfclpaa.grow wr d0 = U0 at HU0 ⊢
                          have z0 := (HC.out.ext HU0.out).rg.range 0 _ rfl
                          have z1 := (HC.out.ext HU0.out).rg.range 1 _ rfl
                          have z2 := (HC.out.ext HU0.out).rg.range 2 _ rfl
                          have z3 := (HC.out.ext HU0.out).rg.range 3 _ rfl
                          have z4 := (HC.out.ext HU0.out).rg.range 4 _ rfl
                          have z5 := (HC.out.ext HU0.out).rg.range 5 _ rfl
                          have zl := (HC.out.ext HU0.out).rg.lt
                          try simp only [Nat.zero_add] at z1 z2 z3 z4 z5
                          refine step_read (by rfl) (fun K hK => ?_)
                          go_big_quiet_op
                          refine hK _ ?_
                          clear hK K
                          clear z0 z1 z2 z3 z4 z5 zl
                          refine step_act (by rfl) (fun K hK => ?_)
                          go_wp2_with (go_at_call 33; refine (HFM.out U0 HU0.out).mono ?_; rintro e U1 ⟨rfl, hx⟩)
                          refine ⟨_, hx, Ext.refl _, ?_⟩
                          have HU1 := hid (HU0.out.trans hx)
                          have hxa1 := hx
                          clear hx
                          have z0 := (HC.out.ext HU1.out).rg.range 0 _ rfl
                          have z1 := (HC.out.ext HU1.out).rg.range 1 _ rfl
                          have z2 := (HC.out.ext HU1.out).rg.range 2 _ rfl
                          have z3 := (HC.out.ext HU1.out).rg.range 3 _ rfl
                          have z4 := (HC.out.ext HU1.out).rg.range 4 _ rfl
                          have z5 := (HC.out.ext HU1.out).rg.range 5 _ rfl
                          have zl := (HC.out.ext HU1.out).rg.lt
                          try simp only [Nat.zero_add] at z1 z2 z3 z4 z5
                          refine step_read (by rfl) (fun K hK => ?_)
                          go_big_quiet_op
                          refine hK _ ?_
                          clear hK K
                          refine step_read (by rfl) (fun K hK => ?_)
                          go_big_quiet_op
                          refine hK _ ?_
                          clear hK K
                          refine step_read (by rfl) (fun K hK => ?_)
                          go_big_quiet_op
                          refine hK _ ?_
                          clear hK K
                          refine step_read (by rfl) (fun K hK => ?_)
                          go_big_quiet_op
                          refine hK _ ?_
                          clear hK K
                          refine step_read (by rfl) (fun K hK => ?_)
                          refine quiet_str 27 9 5 (.tmp 198) rfl Try.underlying27 Try.underlying5 Try.underlying9 (some ⟨ib, io, none⟩) ca n bl rfl HN.out.symm (HRB.out.ext (HC.out.ew.trans HU1.out)) (fun h0 => by rw [h0] at HN; exact absurd HN.out (by show ¬ 0 = n; omega)) ?_
                          refine hK _ ?_
                          clear hK K
                          simp only [Act.put, List.setIfInBounds_toArray, List.set_cons_zero, List.set_cons_succ]
                          clear z0 z1 z2 z3 z4 z5 zl
                          refine step_act (by rfl) (fun K hK => ?_)
                          go_wp2_with (go_at_call 34; refine (HBY.out U1 HU1.out).mono ?_; rintro e U2 ⟨BA, bca, rfl, HBO, hx0⟩; have hx := hx0.out; clear hx0)
                          refine ⟨_, hx, Ext.refl _, ?_⟩
                          have HU2 := hid (HU1.out.trans hx)
                          have hxa5 := hx
                          clear hx
                          refine step_read (by rfl) (fun K hK => ?_)
                          refine quiet_str 27 9 5 (.tmp 196) rfl Try.underlying27 Try.underlying5 Try.underlying9 BA bca BYL.length BYL rfl rfl (by_rdB (HBO.out.rdF rfl)) (fun h0 => absurd (HBN.out) (by rw [h0]; simp)) ?_
                          refine hK _ ?_
                          clear hK K
                          simp only [Act.put, List.setIfInBounds_toArray, List.set_cons_zero, List.set_cons_succ]
                          refine step_read (by rfl) (fun K hK => ?_)
                          refine quiet_runD 200 rfl (.bool true) (fun w => by first | (go_simp; rw [HSEQ.out]; done) | (go_simp; rw [HSEQ.out]; rfl) | (simp [go_sem, HSEQ.out])) ?_
                          refine hK _ ?_
                          clear hK K
                          simp only [Act.put, List.setIfInBounds_toArray, List.set_cons_zero, List.set_cons_succ]
                          refine step_read (by rfl) (fun K hK => ?_)
                          go_big_quiet_op
                          refine hK _ ?_
                          clear hK K
                          refine step_nil ?_
                          have HCE := hid (HC.out.ext HU2.out)
                          generalize U2 = WE at HCE ⊢
                          have r1 := HCE.out.rp
                          have r1l := r1.lt
                          have r1c0 := r1.range 0 _ rfl
                          have r1f0 := r1.free 0 (by show 0 < 6; decide)
                          have r1c1 := r1.range 1 _ rfl
                          have r1f1 := r1.free 1 (by show 1 < 6; decide)
                          have r1c2 := r1.range 2 _ rfl
                          have r1f2 := r1.free 2 (by show 2 < 6; decide)
                          have r1c3 := r1.range 3 _ rfl
                          have r1f3 := r1.free 3 (by show 3 < 6; decide)
                          have r1c4 := r1.range 4 _ rfl
                          have r1f4 := r1.free 4 (by show 4 < 6; decide)
                          have r1c5 := r1.range 5 _ rfl
                          have r1f5 := r1.free 5 (by show 5 < 6; decide)
                          simp only [Nat.zero_add] at r1c1 r1c2 r1c3 r1c4 r1c5 r1f1 r1f2 r1f3 r1f4 r1f5
                          clear r1
                          go_wp2
                          refine bodyPost_ret (v := .tuple #[.agg #[.bool false, .int .i64 0, .int .i64 0, .slice none 0 0, .slice none 0 0, .slice none 0 0], .int .i64 1]) (by simp [results, Try.results13, go_sem, r1l, r1c0, r1c1, r1c2, r1c3, r1c4, r1c5]) rfl ?_
                          have HFN := hid (Only.setCell (S := (fun i => i = p)) (Only.setCell (S := (fun i => i = p)) (Only.setCell (S := (fun i => i = p)) (Only.setCell (S := (fun i => i = p)) (Only.setCell (S := (fun i => i = p)) (Only.setCell (S := (fun i => i = p)) (Only.refl (fun i => i = p) WE) (.inl rfl) (o := 0) (.bool false)) (.inl rfl) (o := 1) (.int .i64 0)) (.inl rfl) (o := 2) (.int .i64 0)) (.inl rfl) (o := 3) (.slice none 0 0)) (.inl rfl) (o := 4) (.slice none 0 0)) (.inl rfl) (o := 5) (.slice none 0 0))
                          exact ⟨⟨zImg, by rw [HE1.out]; rfl, hid ⟨RdF.nil _ _, (fun d hd => nomatch hd), RdF.nil _ _, RdF.nil _ _⟩, hid (by unfold IsGot; rw [HE1.out]; rfl)⟩, hid (Ext.only HCE.out.ew HFN.out (fun i hi => by rw [hi]; exact HCE.out.wp))⟩

end Go.Proofs.Ytgldlkoohfclpaa
