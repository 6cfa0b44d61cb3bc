/- Layer 17: linkRight. -/
import Derived.Test.YtgldlkoohfclpaaImE
namespace Go.Proofs.Ytgldlkoohfclpaa
set_option linter.unusedSimpArgs false
set_option linter.unusedVariables false
open Go.RowKit

theorem quiet_loadC {P : Program} {o : Oper} {a : Act} {C : World → Prop} {K : Act → Prop} (ty : TypeId) (x : Operand) (ho : o.op = .load ty x) (b off : Nat) (hx : a.eval x = .pointer (some ⟨b, off, none⟩)) (cs : List Value) (d : TypeDesc)
    (hc : ∀ w', C w' → w'.rangeAt b off cs) (hu : P.underlying ty = some d) (hd : d.isRow = true) (hi : (P.info? ty).map (·.size) = some cs.length) (k : K (a.put o.dst (.agg cs.toArray))) : o.quiet P a C K := by
  refine ⟨_, fun w' hw' => ?_, k⟩
  unfold Oper.quietAt execOp
  rw [ho]
  simp only [hx, run_loadAt_mid w' b off ty cs d (hc w' hw') hu hd hi, Sem.run_bind, Sem.run_map, Sem.run_pure, Result.andThen, Oper.quietUpon, and_self]
theorem quiet_runD {P : Program} {o : Oper} {a : Act} {C : World → Prop} {K : Act → Prop} (d : Nat) (_ : o.dst = some d) (v : Value) (h : ∀ w, (execOp a.eval o).run P w = .ok (.value v) w) (k : K (a.put o.dst v)) : o.quiet P a C K := quiet_run v h k
def lenC (cs : List Cmp) (i : Int) : Int := ((cs[i.toNat]?).map fun c => (c.bl.length : Int)).getD 0
def lkA (n : Int) (l : Lnk) : List Bool := [outB l.fr 0 (n - 1), outB l.to_ 0 (n - 1), l.fr == l.to_]
def lkB (x : Img) (l : Lnk) : List Bool := [decide (l.at_ < 0), decide (l.at_ ≥ lenC x.comps l.to_ / 4), decide ((8 : Int) < ((lfF x.links l.fr).length : Int))]
def lnkOk (x : Img) (l : Lnk) : Bool := !(lkA x.comps.length l).any id && !(lkB x l).any id
set_option maxRecDepth 100000 in
set_option maxHeartbeats 4000000 in
theorem linkRight_ (x : Img) (l : Lnk) (w : World) (h : ImgAt w x) (hc : x.comps.length ≤ 1000) (hl : x.links.length ≤ 100000) : Calls Try.prog 42 #[.agg #[.int .i64 l.fr, .int .i64 l.to_, .int .i64 l.at_], .agg #[.bool x.strict, .int .i64 x.heap, .int .i64 x.full, .slice x.C x.comps.length x.cc, .slice x.L x.links.length x.lc, .slice x.S x.shares.length x.sc]] w fun e w' => e = .returned (.bool (lnkOk x l)) ∧ Ext w w' := by
  have HI := hid h
  have HLL := hid hl
  clear h
  obtain ⟨m, hm⟩ : ∃ m, x.comps.length = m := ⟨_, rfl⟩
  rw [hm] at hc ⊢
  have HM := hid hm
  clear hm hl
  go_enter Try.func42, Try.ntmps42
  go_upto_region 1 with (fail)
  refine wp_gen (fun V => Hid (Ext w V) ∧ V.heap.size = w.heap.size + 2 ∧ V.cell? ⟨w.heap.size, 0, none⟩ = some (.int .i64 l.fr) ∧ V.cell? ⟨w.heap.size, 1, none⟩ = some (.int .i64 l.to_) ∧ V.cell? ⟨w.heap.size, 2, none⟩ = some (.int .i64 l.at_) ∧ V.rangeAt (w.heap.size + 1) 0 [.bool x.strict, .int .i64 x.heap, .int .i64 x.full, .slice x.C m x.cc, .slice x.L x.links.length x.lc, .slice x.S x.shares.length x.sc]) ⟨hid (by repeat (first | (with_reducible exact Ext.refl _) | (with_reducible refine Ext.undrew ?_) | (with_reducible refine Ext.grow ?_ _) | (with_reducible refine Ext.drew ?_) | (with_reducible refine Ext.drewN ?_ _) | (with_reducible refine Ext.alloc ?_ _) | (with_reducible assumption) | ((with_reducible refine Ext.setCell ?_ ?_ _); rotate_left; (first | exact Nat.le_refl _ | ((try dsimp only); (try simp only [World.size_alloc, grow_size, World.size_setCell]); omega))))), by simp, by simp [go_sem], by simp [go_sem], by simp [go_sem], fun j u hj => by simp [go_sem]; simpa using hj⟩ ?_
  rintro V ⟨HV, hsz, hp0, hp1, hp2, hx0⟩
  have hx3 := hx0 3 _ rfl
  simp only [Nat.zero_add] at hx3
  have HX0 := hid hx0
  clear hx0
  obtain ⟨p, hp⟩ : ∃ p, w.heap.size = p := ⟨_, rfl⟩
  rw [hp] at hsz hp0 hp1 hp2 HX0 hx3 ⊢
  have hl0 : p < V.heap.size := by omega
  have hl1 : p + 1 < V.heap.size := by omega
  clear hp hsz
  have HLK := hid (show lkA (m : Int) l = [outB l.fr 0 ((m : Int) - 1), outB l.to_ 0 ((m : Int) - 1), l.fr == l.to_] from rfl)
  have HIN : Hid ((lkA (m : Int) l).any id = false → 0 ≤ l.to_ ∧ l.to_ < m) := hid (fun h => by
    rw [HLK.out] at h
    simp only [List.any_cons, List.any_nil, id, Bool.or_eq_false_iff, Bool.or_false] at h
    obtain ⟨_, h2, _⟩ := h
    unfold outB at h2
    simp only [Bool.or_eq_false_iff, decide_eq_false_iff_not] at h2
    omega)
  have HVAL := hid (show lnkOk x l = (!(lkA (m : Int) l).any id && !(lkB x l).any id) by unfold lnkOk; rw [HM.out])
  obtain ⟨v, hv⟩ : ∃ v, (lkA (m : Int) l).any id = v := ⟨_, rfl⟩
  have HAV := hid (show (![outB l.fr 0 ((m : Int) - 1), outB l.to_ 0 ((m : Int) - 1), l.fr == l.to_].any id) = !v by rw [← hv, HLK.out])
  rw [hv] at HIN HVAL
  clear hv HLK
  go_upto_region 2 with (fail)
  refine wp_region_step (.rd 0 (.rd 1 (.rd 2 (.rd 4 (.rd 5 (.rd 6 (.rd 8 (.rd 9 (.rd 10 (.rd 11 (.rd 12 (.ac 3 (.ac 7 (.ac 13 (.ac 14 (.rd 15 .done)))))))))))))))) (by kernel_rfl) (by kernel_rfl) (fun _ _ d _ _ h => by cases d <;> exact h) (by simp only [Ord.map, nthOp, List.append]; rfl) ?_
  intro d0
  have HU0 := hid (Ext.grow (Ext.refl V) d0)
  generalize Go.Proofs.Ytgldlkoohfclpaa.grow V d0 = U0 at HU0 ⊢
  have hbl := Nat.lt_of_lt_of_le hl0 HU0.out.size
  have hb0 := (HU0.out.cells _ 0 hl0).trans hp0
  have hb1 := (HU0.out.cells _ 1 hl0).trans hp1
  have hb2 := (HU0.out.cells _ 2 hl0).trans hp2
  refine step_read (by rfl) (fun K hK => ?_)
  go_big_quiet_op
  refine hK _ ?_
  clear hK K
  refine step_read (by rfl) (fun K hK => ?_)
  go_big_quiet_op
  refine hK _ ?_
  clear hK K
  refine step_read (by rfl) (fun K hK => ?_)
  go_big_quiet_op
  refine hK _ ?_
  clear hK K
  refine step_read (by rfl) (fun K hK => ?_)
  go_big_quiet_op
  refine hK _ ?_
  clear hK K
  refine step_read (by rfl) (fun K hK => ?_)
  go_big_quiet_op
  refine hK _ ?_
  clear hK K
  refine step_read (by rfl) (fun K hK => ?_)
  go_big_quiet_op
  refine hK _ ?_
  clear hK K
  refine step_read (by rfl) (fun K hK => ?_)
  go_big_quiet_op
  refine hK _ ?_
  clear hK K
  refine step_read (by rfl) (fun K hK => ?_)
  go_big_quiet_op
  refine hK _ ?_
  clear hK K
  refine step_read (by rfl) (fun K hK => ?_)
  go_big_quiet_op
  refine hK _ ?_
  clear hK K
  refine step_read (by rfl) (fun K hK => ?_)
  go_big_quiet_op
  refine hK _ ?_
  clear hK K
  refine step_read (by rfl) (fun K hK => ?_)
  go_big_quiet_op
  refine hK _ ?_
  clear hK K
  refine step_act (by rfl) (fun K hK => ?_)
  go_wp2_with (go_at_call 36; refine (outside_ l.fr 0 (m - 1) U0).mono ?_; rintro e U1 ⟨rfl, hx⟩)
  refine ⟨_, hx, Ext.refl _, ?_⟩
  have HU1 := hid (HU0.out.trans hx)
  have hxa3 := hx
  clear hx
  refine step_act (by rfl) (fun K hK => ?_)
  go_wp2_with (go_at_call 36; refine (outside_ l.to_ 0 (m - 1) U1).mono ?_; rintro e U2 ⟨rfl, hx⟩)
  refine ⟨_, hx, Ext.refl _, ?_⟩
  have HU2 := hid (HU1.out.trans hx)
  have hxa7 := hx
  clear hx
  refine step_act (by rfl) (fun K hK => ?_)
  go_wp2_with fail
  refine ⟨U2, Ext.refl _, (Ext.refl _).alloc _, ?_⟩
  refine step_gen (fun W => Hid (Ext U2 W) ∧ Hid (Row W U2.heap.size 0 [.bool (outB l.fr 0 (m - 1)), .bool (outB l.to_ 0 (m - 1)), .bool (l.fr == l.to_)])) ⟨hid ((Ext.refl _).alloc _), hid (Row.new U2 #[.bool (outB l.fr 0 (m - 1)), .bool (outB l.to_ 0 (m - 1)), .bool (l.fr == l.to_)] 4)⟩ ?_
  rintro V3 ⟨HV3, HR1⟩
  have hv3 := HV3.out
  refine step_act (by rfl) (fun K hK => ?_)
  go_wp2_with (go_at_call 35; refine (none_ (some ⟨U2.heap.size, 0, none⟩) 3 3 [outB l.fr 0 (m - 1), outB l.to_ 0 (m - 1), l.fr == l.to_] _ (RdF.row0 HR1.out) rfl (by decide)).mono ?_; rintro e U3 ⟨he, hx⟩; rw [HAV.out] at he; subst he)
  have hx := hv3.trans hx
  refine ⟨_, hx, Ext.refl _, ?_⟩
  have HU3 := hid (HU2.out.trans hx)
  have hxa14 := hx
  clear hx
  refine step_read (by rfl) (fun K hK => ?_)
  go_big_quiet_op
  refine hK _ ?_
  clear hK K
  refine step_nil ?_
  have HW := hid (HV.out.trans HU3.out)
  have hq0 := (HU3.out.cells _ 0 hl0).trans hp0
  have hq1 := (HU3.out.cells _ 1 hl0).trans hp1
  have hq2 := (HU3.out.cells _ 2 hl0).trans hp2
  have hq3 := (HU3.out.cells _ 3 hl1).trans hx3
  have HX3 := hid (show U3.rangeAt (p + 1) 0 _ from fun j u hj => (HU3.out.cells _ _ hl1).trans (HX0.out j u hj))
  have hl0 := Nat.lt_of_lt_of_le hl0 HU3.out.size
  have hl1 := Nat.lt_of_lt_of_le hl1 HU3.out.size
  clear hbl hb0 hb1 hb2 hp0 hp1 hp2 hx3 HU0 HU1 HU2 HU3
  rename_i _
  generalize U3 = W3 at *
  cases v with
  | true =>
    go_wp2
    go_ret
    exact ⟨by rw [HVAL.out]; rfl, HW.out⟩
  | false =>
    obtain ⟨h0, h1⟩ := HIN.out rfl
    obtain ⟨tn, htn⟩ := Int.eq_ofNat_of_zero_le h0
    rw [htn] at hq1 h0 h1
    have htl : tn < x.comps.length := by have := HM.out; omega
    obtain ⟨d, hd⟩ : ∃ d, x.comps[tn] = d := ⟨_, rfl⟩
    have HLC := hid (show lenC x.comps l.to_ = (d.bl.length : Int) by
      unfold lenC
      rw [htn, Int.toNat_natCast, List.getElem?_eq_getElem htl, hd]
      rfl)
    have HDM := hid (show d.bl.length ≤ maxLen from by
      have h9 := HI.out.cb d (hd ▸ List.getElem_mem _)
      omega)
    obtain ⟨cb, co, eC, hcb, hrg⟩ := (HI.out.c.ext HW.out).elem cmp_len htl d hd
    have c0 := hrg 0 _ rfl
    simp only [Nat.add_zero] at c0
    rw [eC] at hq3 HX3
    clear hd hrg
    obtain ⟨q, hq⟩ : ∃ q, (lfF x.links l.fr).length = q := ⟨_, rfl⟩
    obtain ⟨dl, hdl⟩ : ∃ y, d.bl.length = y := ⟨_, rfl⟩
    rw [hdl] at c0 HLC HDM
    have HVB := hid (show lkB x l = [decide (l.at_ < 0), decide (l.at_ ≥ (dl : Int) / 4), decide ((8 : Int) < (q : Int))] by unfold lkB; rw [HLC.out, hq])
    obtain ⟨qd, hqd⟩ : ∃ y : Int, (dl : Int) / 4 = y := ⟨_, rfl⟩
    have ht : (dl : Int).tdiv 4 = qd := by rw [Int.tdiv_eq_ediv_of_nonneg (by omega)]; exact hqd
    have hw : wrap64 qd = qd := by have := HDM.out; unfold maxLen at this; unfold wrap64; omega
    rw [hqd] at HVB
    obtain ⟨v, hv⟩ : ∃ v, (lkB x l).any id = v := ⟨_, rfl⟩
    have HAV := hid (show (![decide (l.at_ < 0), decide (l.at_ ≥ qd), decide ((8 : Int) < (q : Int))].any id) = !v by rw [← hv, HVB.out])
    rw [hv] at HVAL
    have HLF : Hid (∀ U, Ext w U → Calls Try.prog 48 #[.agg #[.bool x.strict, .int .i64 x.heap, .int .i64 x.full, .slice (some ⟨cb, co, none⟩) m x.cc, .slice x.L x.links.length x.lc, .slice x.S x.shares.length x.sc], .int .i64 l.fr] U fun e w' => ∃ A9 c9, e = .returned (.slice A9 q c9) ∧ Ext U w') := hid (fun U hx => by
      have h9 := linksFrom_ x l.fr U (HI.out.ext hx) HLL.out
      rw [eC, HM.out, hq] at h9
      refine h9.mono ?_
      rintro e w' ⟨A9, c9, rfl, _, h8⟩
      exact ⟨A9, c9, rfl, h8.out⟩)
    clear hv HVB hqd htn htl eC hq
    go_upto_region 4 with (fail)
    refine wp_region_step (.rd 0 (.rd 1 (.rd 2 (.rd 3 (.rd 4 (.rd 5 (.rd 6 (.rd 7 (.rd 8 (.rd 9 (.rd 10 (.rd 11 (.rd 12 (.rd 13 (.rd 14 (.rd 15 (.rd 16 (.rd 17 (.ac 18 (.rd 19 (.rd 20 (.ac 21 (.ac 22 (.rd 23 .done)))))))))))))))))))))))) (by kernel_rfl) (by kernel_rfl) (fun _ _ d _ _ h => by cases d <;> exact h) (by simp only [Ord.map, nthOp, List.append]; rfl) ?_
    intro d0
    have HU0 := hid (Ext.grow (Ext.refl W3) d0)
    generalize Go.Proofs.Ytgldlkoohfclpaa.grow W3 d0 = U0 at HU0 ⊢
    have hbl := Nat.lt_of_lt_of_le hl0 HU0.out.size
    have hbl1 := Nat.lt_of_lt_of_le hl1 HU0.out.size
    have hbc := Nat.lt_of_lt_of_le hcb HU0.out.size
    have hb0 := (HU0.out.cells _ 0 hl0).trans hq0
    have hb1 := (HU0.out.cells _ 1 hl0).trans hq1
    have hb2 := (HU0.out.cells _ 2 hl0).trans hq2
    have hb3 := (HU0.out.cells _ 3 hl1).trans hq3
    have hbs := (HU0.out.cells _ _ hcb).trans c0
    have HXB := hid (show U0.rangeAt (p + 1) 0 _ from fun j u hj => (HU0.out.cells _ _ hl1).trans (HX3.out j u hj))
    refine step_read (by rfl) (fun K hK => ?_)
    go_big_quiet_op
    refine hK _ ?_
    clear hK K
    refine step_read (by rfl) (fun K hK => ?_)
    go_big_quiet_op
    refine hK _ ?_
    clear hK K
    refine step_read (by rfl) (fun K hK => ?_)
    go_big_quiet_op
    refine hK _ ?_
    clear hK K
    refine step_read (by rfl) (fun K hK => ?_)
    go_big_quiet_op
    refine hK _ ?_
    clear hK K
    refine step_read (by rfl) (fun K hK => ?_)
    go_big_quiet_op
    refine hK _ ?_
    clear hK K
    refine step_read (by rfl) (fun K hK => ?_)
    go_big_quiet_op
    refine hK _ ?_
    clear hK K
    refine step_read (by rfl) (fun K hK => ?_)
    go_big_quiet_op
    refine hK _ ?_
    clear hK K
    refine step_read (by rfl) (fun K hK => ?_)
    go_big_quiet_op
    refine hK _ ?_
    clear hK K
    refine step_read (by rfl) (fun K hK => ?_)
    go_big_quiet_op
    refine hK _ ?_
    clear hK K
    refine step_read (by rfl) (fun K hK => ?_)
    refine quiet_runD 35 rfl (.pointer (some ⟨cb, co + tn * 2, none⟩)) (fun w => by go_simp) ?_
    refine hK _ ?_
    clear hK K
    simp only [Act.put, List.setIfInBounds_toArray, List.set_cons_zero, List.set_cons_succ]
    refine step_read (by rfl) (fun K hK => ?_)
    go_big_quiet_op
    refine hK _ ?_
    clear hK K
    refine step_read (by rfl) (fun K hK => ?_)
    go_big_quiet_op
    refine hK _ ?_
    clear hK K
    refine step_read (by rfl) (fun K hK => ?_)
    go_big_quiet_op
    refine hK _ ?_
    clear hK K
    refine step_read (by rfl) (fun K hK => ?_)
    go_big_quiet_op
    refine hK _ ?_
    clear hK K
    refine step_read (by rfl) (fun K hK => ?_)
    go_big_quiet_op
    refine hK _ ?_
    clear hK K
    refine step_read (by rfl) (fun K hK => ?_)
    refine quiet_loadC 26 (.tmp 3) rfl (p + 1) 0 rfl _ _ (fun w' hw' => (by obtain ⟨dd, rfl⟩ := hw'; exact fun j u hj => ((Ext.grow (Ext.refl U0) dd).cells _ _ hbl1).trans (HXB.out j u hj))) Try.underlying26 rfl (by kernel_rfl) ?_
    refine hK _ ?_
    clear hK K
    simp only [Act.put, List.setIfInBounds_toArray, List.set_cons_zero, List.set_cons_succ]
    refine step_read (by rfl) (fun K hK => ?_)
    go_big_quiet_op
    refine hK _ ?_
    clear hK K
    refine step_read (by rfl) (fun K hK => ?_)
    go_big_quiet_op
    refine hK _ ?_
    clear hK K
    refine step_act (by rfl) (fun K hK => ?_)
    go_wp2_with (go_at_call 48; refine (HLF.out U0 (HW.out.trans HU0.out)).mono ?_; rintro e U1 ⟨A9, c9, rfl, hx⟩)
    refine ⟨_, hx, Ext.refl _, ?_⟩
    have HU1 := hid (HU0.out.trans hx)
    have hxa18 := hx
    clear hx
    refine step_read (by rfl) (fun K hK => ?_)
    go_big_quiet_op
    refine hK _ ?_
    clear hK K
    refine step_read (by rfl) (fun K hK => ?_)
    go_big_quiet_op
    refine hK _ ?_
    clear hK K
    refine step_act (by rfl) (fun K hK => ?_)
    go_wp2_with fail
    refine ⟨U1, Ext.refl _, (Ext.refl _).alloc _, ?_⟩
    refine step_gen (fun W => Hid (Ext U1 W) ∧ Hid (Row W U1.heap.size 0 [.bool (decide (l.at_ < 0)), .bool (decide (l.at_ ≥ qd)), .bool (decide ((8 : Int) < (q : Int)))])) ⟨hid ((Ext.refl _).alloc _), hid (Row.new U1 #[.bool (decide (l.at_ < 0)), .bool (decide (l.at_ ≥ qd)), .bool (decide ((8 : Int) < (q : Int)))] 4)⟩ ?_
    rintro V2 ⟨HV2, HR2⟩
    have hv2 := HV2.out
    refine step_act (by rfl) (fun K hK => ?_)
    go_wp2_with (go_at_call 35; refine (none_ (some ⟨U1.heap.size, 0, none⟩) 3 3 [decide (l.at_ < 0), decide (l.at_ ≥ qd), decide ((8 : Int) < (q : Int))] _ (RdF.row0 HR2.out) rfl (by decide)).mono ?_; rintro e U2 ⟨he, hx⟩; rw [HAV.out] at he; subst he)
    have hx := hv2.trans hx
    refine ⟨_, hx, Ext.refl _, ?_⟩
    have HU2 := hid (HU1.out.trans hx)
    have hxa22 := hx
    clear hx
    refine step_read (by rfl) (fun K hK => ?_)
    go_big_quiet_op
    refine hK _ ?_
    clear hK K
    refine step_nil ?_
    go_wp2
    go_ret
    exact ⟨by rw [HVAL.out]; rfl, HW.out.trans HU2.out⟩

end Go.Proofs.Ytgldlkoohfclpaa
