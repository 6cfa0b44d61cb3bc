/- Layer 17: Right. -/
import Derived.Test.YtgldlkoohfclpaaImG
namespace Go.Proofs.Ytgldlkoohfclpaa
set_option linter.unusedSimpArgs false
set_option linter.unusedVariables false
open Go.RowKit

def n5 (x : Img) : List Bool := [outB x.heap 1 64, outB x.full 1 4096, outB (x.comps.length : Int) 1 4, decide ((16 : Int) < (x.links.length : Int)), decide ((4 : Int) < (x.shares.length : Int))]
def rightV (x : Img) : Bool := !(n5 x).any id && x.comps.all (cmOk x.strict) && x.links.all (lnkOk x) && x.shares.all (shOk x.comps.length)
theorem n5_no {x : Img} (h : (n5 x).any id = false) : 1 ≤ x.heap ∧ x.heap ≤ 64 ∧ 1 ≤ x.full ∧ x.full ≤ 4096 ∧ 1 ≤ x.comps.length ∧ x.comps.length ≤ 4 ∧ x.links.length ≤ 16 ∧ x.shares.length ≤ 4 := by
  unfold n5 outB at h
  simp only [List.any_cons, List.any_nil, id, Bool.or_eq_false_iff, Bool.or_false, decide_eq_false_iff_not] at h
  omega
set_option maxRecDepth 100000 in
set_option maxHeartbeats 4000000 in
theorem imRight_ (x : Img) (w : World) (h : ImgAt w x) (hc : x.comps.length ≤ 100000) (hl : x.links.length ≤ 100000) (hs : x.shares.length ≤ 100000) : Calls Try.prog 14 #[.agg #[.bool x.strict, .int .i64 x.heap, .int .i64 x.full, .slice x.C x.comps.length x.cc, .slice x.L x.links.length x.lc, .slice x.S x.shares.length x.sc]] w fun e w' => e = .returned (.bool (rightV x)) ∧ Ext w w' := by
  have HALL := hid (show ∀ V, Ext w V → BoxI V w.heap.size x → (n5 x).any id = false → (∀ U, Ext V U → Calls Try.prog 37 #[.slice x.C x.comps.length x.cc, .func (.func 38) #[] #[.pointer (some ⟨w.heap.size, 0, none⟩)]] U fun e w' => e = .returned (.bool (x.comps.all (cmOk x.strict))) ∧ Ext U w') ∧ (∀ U, Ext V U → Calls Try.prog 40 #[.slice x.L x.links.length x.lc, .func (.func 41) #[] #[.pointer (some ⟨w.heap.size, 0, none⟩)]] U fun e w' => e = .returned (.bool (x.links.all (lnkOk x))) ∧ Ext U w') ∧ (∀ U, Ext V U → Calls Try.prog 43 #[.slice x.S x.shares.length x.sc, .func (.func 44) #[] #[.pointer (some ⟨w.heap.size, 0, none⟩)]] U fun e w' => e = .returned (.bool (x.shares.all (shOk x.comps.length))) ∧ Ext U w') from fun V hV hB h5 => by
    have hn := n5_no h5
    refine ⟨fun U hU => ?_, fun U hU => ?_, fun U hU => ?_⟩
    · have hI := h.ext (hV.trans hU)
      exact allCmp_ 38 _ (cmOk x.strict) x.C _ x.cc x.comps U hI.c rfl (by omega) (fun args V2 => enterOf Try.func38 (by kernel_rfl) rfl args V2) (fun d hd V2 h2 => compR_ x w.heap.size d V2 (hB.ext (hU.trans h2)) ⟨(hI.cb d hd).1.ext h2, (hI.cb d hd).2⟩)
    · have hI := h.ext (hV.trans hU)
      exact allLnk_ 41 _ (lnkOk x) x.L _ x.lc x.links U hI.l rfl (by omega) (fun args V2 => enterOf Try.func41 (by kernel_rfl) rfl args V2) (fun d hd V2 h2 => linkR_ x w.heap.size d V2 (hB.ext (hU.trans h2)) (hI.ext h2) (by omega) hl)
    · have hI := h.ext (hV.trans hU)
      exact allShr_ 44 _ (shOk x.comps.length) x.S _ x.sc x.shares U hI.s rfl (by omega) (fun args V2 => enterOf Try.func44 (by kernel_rfl) rfl args V2) (fun d hd V2 h2 => shareR_ x w.heap.size d V2 (hB.ext (hU.trans h2)) (by omega)))
  have HVAL := hid (show rightV x = (!(n5 x).any id && x.comps.all (cmOk x.strict) && x.links.all (lnkOk x) && x.shares.all (shOk x.comps.length)) from rfl)
  have HAV := hid (show n5 x = [outB x.heap 1 64, outB x.full 1 4096, outB (x.comps.length : Int) 1 4, decide ((16 : Int) < (x.links.length : Int)), decide ((4 : Int) < (x.shares.length : Int))] from rfl)
  have HBX : Hid (∀ V, Row V w.heap.size 0 [.bool x.strict, .int .i64 x.heap, .int .i64 x.full, .slice x.C x.comps.length x.cc, .slice x.L x.links.length x.lc, .slice x.S x.shares.length x.sc] → BoxI V w.heap.size x) := hid (fun V h => ⟨h.lt, h.range⟩)
  obtain ⟨c1, hc1⟩ : ∃ v, x.comps.all (cmOk x.strict) = v := ⟨_, rfl⟩
  obtain ⟨c2, hc2⟩ : ∃ v, x.links.all (lnkOk x) = v := ⟨_, rfl⟩
  obtain ⟨c3, hc3⟩ : ∃ v, x.shares.all (shOk x.comps.length) = v := ⟨_, rfl⟩
  obtain ⟨v5, hv5⟩ : ∃ v, (n5 x).any id = v := ⟨_, rfl⟩
  have HAV := hid (show (![outB x.heap 1 64, outB x.full 1 4096, outB (x.comps.length : Int) 1 4, decide ((16 : Int) < (x.links.length : Int)), decide ((4 : Int) < (x.shares.length : Int))].any id) = !v5 by rw [← hv5, HAV.out])
  rw [hc1, hc2, hc3, hv5] at HALL HVAL
  clear hc1 hc2 hc3 hv5 h
  obtain ⟨m, hm⟩ : ∃ y, x.comps.length = y := ⟨_, rfl⟩
  obtain ⟨ml, hml⟩ : ∃ y, x.links.length = y := ⟨_, rfl⟩
  obtain ⟨ms, hms⟩ : ∃ y, x.shares.length = y := ⟨_, rfl⟩
  rw [hm, hml, hms] at HALL HAV HBX
  rw [hm] at hc
  rw [hml] at hl
  rw [hms] at hs
  rw [hm, hml, hms]
  clear hm hml hms
  go_enter Try.func14, Try.ntmps14
  go_upto_region 1 with (fail)
  refine wp_gen (fun V => Hid (Ext w V) ∧ Row V w.heap.size 0 [.bool x.strict, .int .i64 x.heap, .int .i64 x.full, .slice x.C m x.cc, .slice x.L ml x.lc, .slice x.S ms x.sc]) ⟨hid (by repeat (first | (with_reducible exact Ext.refl _) | (with_reducible refine Ext.undrew ?_) | (with_reducible refine Ext.grow ?_ _) | (with_reducible refine Ext.drew ?_) | (with_reducible refine Ext.drewN ?_ _) | (with_reducible refine Ext.alloc ?_ _) | (with_reducible assumption) | ((with_reducible refine Ext.setCell ?_ ?_ _); rotate_left; (first | exact Nat.le_refl _ | ((try dsimp only); (try simp only [World.size_alloc, grow_size, World.size_setCell]); omega))))), Row.new w _ _⟩ ?_
  rintro V ⟨HV, hrow⟩
  obtain ⟨HC1, HC2, HC3⟩ : Hid (v5 = false → _) ∧ Hid (v5 = false → _) ∧ Hid (v5 = false → _) := ⟨hid fun h => (HALL.out V HV.out (HBX.out V hrow) h).1, hid fun h => (HALL.out V HV.out (HBX.out V hrow) h).2.1, hid fun h => (HALL.out V HV.out (HBX.out V hrow) h).2.2⟩
  have hl0 := hrow.lt
  have h1 := hrow.range 1 _ rfl
  have h2 := hrow.range 2 _ rfl
  have h3 := hrow.range 3 _ rfl
  have h4 := hrow.range 4 _ rfl
  have h5 := hrow.range 5 _ rfl
  simp only [Nat.zero_add] at h1 h2 h3 h4 h5
  clear hrow HALL HBX
  refine wp_region_step (.rd 0 (.rd 1 (.rd 3 (.rd 4 (.rd 6 (.rd 7 (.rd 8 (.rd 10 (.rd 11 (.rd 12 (.rd 13 (.rd 14 (.rd 15 (.rd 16 (.rd 17 (.ac 2 (.ac 5 (.ac 9 (.ac 18 (.ac 19 (.rd 20 (.rd 21 (.rd 22 (.rd 23 (.ac 24 (.rd 25 (.rd 26 (.rd 27 (.rd 28 (.rd 29 (.ac 30 (.rd 31 (.rd 32 (.rd 33 (.rd 34 (.rd 35 (.ac 36 (.rd 37 (.rd 38 .done))))))))))))))))))))))))))))))))))))))) (by kernel_rfl) (by kernel_rfl) (fun _ _ d _ _ h => by cases d <;> exact h) (by simp only [Ord.map, nthOp, List.append]; rfl) ?_
  intro d0
  have HU0 := hid (Ext.grow (Ext.refl V) d0)
  generalize Go.Proofs.Ytgldlkoohfclpaa.grow V d0 = U0 at HU0 ⊢
  have hbp := Nat.lt_of_lt_of_le hl0 HU0.out.size
  have hb1 := (HU0.out.cells _ _ hl0).trans h1
  have hb2 := (HU0.out.cells _ _ hl0).trans h2
  have hb3 := (HU0.out.cells _ _ hl0).trans h3
  have hb4 := (HU0.out.cells _ _ hl0).trans h4
  have hb5 := (HU0.out.cells _ _ hl0).trans h5
  refine step_read (by rfl) (fun K hK => ?_)
  go_big_quiet_op
  refine hK _ ?_
  clear hK K
  refine step_read (by rfl) (fun K hK => ?_)
  go_big_quiet_op
  refine hK _ ?_
  clear hK K
  refine step_read (by rfl) (fun K hK => ?_)
  go_big_quiet_op
  refine hK _ ?_
  clear hK K
  refine step_read (by rfl) (fun K hK => ?_)
  go_big_quiet_op
  refine hK _ ?_
  clear hK K
  refine step_read (by rfl) (fun K hK => ?_)
  go_big_quiet_op
  refine hK _ ?_
  clear hK K
  refine step_read (by rfl) (fun K hK => ?_)
  go_big_quiet_op
  refine hK _ ?_
  clear hK K
  refine step_read (by rfl) (fun K hK => ?_)
  go_big_quiet_op
  refine hK _ ?_
  clear hK K
  refine step_read (by rfl) (fun K hK => ?_)
  go_big_quiet_op
  refine hK _ ?_
  clear hK K
  refine step_read (by rfl) (fun K hK => ?_)
  go_big_quiet_op
  refine hK _ ?_
  clear hK K
  refine step_read (by rfl) (fun K hK => ?_)
  go_big_quiet_op
  refine hK _ ?_
  clear hK K
  refine step_read (by rfl) (fun K hK => ?_)
  go_big_quiet_op
  refine hK _ ?_
  clear hK K
  refine step_read (by rfl) (fun K hK => ?_)
  go_big_quiet_op
  refine hK _ ?_
  clear hK K
  refine step_read (by rfl) (fun K hK => ?_)
  go_big_quiet_op
  refine hK _ ?_
  clear hK K
  refine step_read (by rfl) (fun K hK => ?_)
  go_big_quiet_op
  refine hK _ ?_
  clear hK K
  refine step_read (by rfl) (fun K hK => ?_)
  go_big_quiet_op
  refine hK _ ?_
  clear hK K
  refine step_act (by rfl) (fun K hK => ?_)
  go_wp2_with (go_at_call 36; refine (outside_ x.heap 1 64 U0).mono ?_; rintro e U1 ⟨rfl, hx⟩)
  refine ⟨_, hx, Ext.refl _, ?_⟩
  have HU1 := hid (HU0.out.trans hx)
  have hxa2 := hx
  clear hx
  refine step_act (by rfl) (fun K hK => ?_)
  go_wp2_with (go_at_call 36; refine (outside_ x.full 1 4096 U1).mono ?_; rintro e U2 ⟨rfl, hx⟩)
  refine ⟨_, hx, Ext.refl _, ?_⟩
  have HU2 := hid (HU1.out.trans hx)
  have hxa5 := hx
  clear hx
  refine step_act (by rfl) (fun K hK => ?_)
  go_wp2_with (go_at_call 36; refine (outside_ (m : Int) 1 4 U2).mono ?_; rintro e U3 ⟨rfl, hx⟩)
  refine ⟨_, hx, Ext.refl _, ?_⟩
  have HU3 := hid (HU2.out.trans hx)
  have hxa9 := hx
  clear hx
  refine step_act (by rfl) (fun K hK => ?_)
  go_wp2_with fail
  refine ⟨U3, Ext.refl _, (Ext.refl _).alloc _, ?_⟩
  refine step_gen (fun W => Hid (Ext U3 W) ∧ Hid (Row W U3.heap.size 0 [.bool (outB x.heap 1 64), .bool (outB x.full 1 4096), .bool (outB (m : Int) 1 4), .bool (decide ((16 : Int) < (ml : Int))), .bool (decide ((4 : Int) < (ms : Int)))])) ⟨hid ((Ext.refl _).alloc _), hid (Row.new U3 #[.bool (outB x.heap 1 64), .bool (outB x.full 1 4096), .bool (outB (m : Int) 1 4), .bool (decide ((16 : Int) < (ml : Int))), .bool (decide ((4 : Int) < (ms : Int)))] 4)⟩ ?_
  rintro V4 ⟨HV4, HR1⟩
  have hv4 := HV4.out
  refine step_act (by rfl) (fun K hK => ?_)
  go_wp2_with (go_at_call 35; refine (none_ (some ⟨U3.heap.size, 0, none⟩) 5 5 [outB x.heap 1 64, outB x.full 1 4096, outB (m : Int) 1 4, decide ((16 : Int) < (ml : Int)), decide ((4 : Int) < (ms : Int))] _ (RdF.row0 HR1.out) rfl (by decide)).mono ?_; rintro e U4 ⟨he, hx⟩; rw [HAV.out] at he; subst he)
  have hx := hv4.trans hx
  refine ⟨_, hx, Ext.refl _, ?_⟩
  have HU4 := hid (HU3.out.trans hx)
  have hxa19 := hx
  clear hx
  cases v5 with
  | true =>
    refine step_read (by rfl) (fun K hK => ?_)
    go_big_quiet_op
    refine hK _ ?_
    clear hK K
    refine step_skip (by rfl) ?_
    simp only [Act.put, List.setIfInBounds_toArray, List.set_cons_zero, List.set_cons_succ]
    refine step_skip (by rfl) ?_
    simp only [Act.put, List.setIfInBounds_toArray, List.set_cons_zero, List.set_cons_succ]
    refine step_skip (by rfl) ?_
    simp only [Act.put, List.setIfInBounds_toArray, List.set_cons_zero, List.set_cons_succ]
    refine step_idle (by rfl) ?_
    simp only [Act.put, List.setIfInBounds_toArray, List.set_cons_zero, List.set_cons_succ]
    refine step_read (by rfl) (fun K hK => ?_)
    go_big_quiet_op
    refine hK _ ?_
    clear hK K
    refine step_read (by rfl) (fun K hK => ?_)
    go_big_quiet_op
    refine hK _ ?_
    clear hK K
    refine step_skip (by rfl) ?_
    simp only [Act.put, List.setIfInBounds_toArray, List.set_cons_zero, List.set_cons_succ]
    refine step_skip (by rfl) ?_
    simp only [Act.put, List.setIfInBounds_toArray, List.set_cons_zero, List.set_cons_succ]
    refine step_skip (by rfl) ?_
    simp only [Act.put, List.setIfInBounds_toArray, List.set_cons_zero, List.set_cons_succ]
    refine step_idle (by rfl) ?_
    simp only [Act.put, List.setIfInBounds_toArray, List.set_cons_zero, List.set_cons_succ]
    refine step_read (by rfl) (fun K hK => ?_)
    go_big_quiet_op
    refine hK _ ?_
    clear hK K
    refine step_read (by rfl) (fun K hK => ?_)
    go_big_quiet_op
    refine hK _ ?_
    clear hK K
    refine step_skip (by rfl) ?_
    simp only [Act.put, List.setIfInBounds_toArray, List.set_cons_zero, List.set_cons_succ]
    refine step_skip (by rfl) ?_
    simp only [Act.put, List.setIfInBounds_toArray, List.set_cons_zero, List.set_cons_succ]
    refine step_skip (by rfl) ?_
    simp only [Act.put, List.setIfInBounds_toArray, List.set_cons_zero, List.set_cons_succ]
    refine step_idle (by rfl) ?_
    simp only [Act.put, List.setIfInBounds_toArray, List.set_cons_zero, List.set_cons_succ]
    refine step_read (by rfl) (fun K hK => ?_)
    go_big_quiet_op
    refine hK _ ?_
    clear hK K
    refine step_read (by rfl) (fun K hK => ?_)
    go_big_quiet_op
    refine hK _ ?_
    clear hK K
    refine step_nil ?_
    go_wp2
    go_ret
    exact ⟨by rw [HVAL.out]; rfl, HV.out.trans HU4.out⟩
  | false =>
    replace HC1 := hid (HC1.out rfl)
    replace HC2 := hid (HC2.out rfl)
    replace HC3 := hid (HC3.out rfl)
    have hbp := Nat.lt_of_lt_of_le hl0 HU4.out.size
    have hb1 := (HU4.out.cells _ _ hl0).trans h1
    have hb2 := (HU4.out.cells _ _ hl0).trans h2
    have hb3 := (HU4.out.cells _ _ hl0).trans h3
    have hb4 := (HU4.out.cells _ _ hl0).trans h4
    have hb5 := (HU4.out.cells _ _ hl0).trans h5
    refine step_read (by rfl) (fun K hK => ?_)
    go_big_quiet_op
    refine hK _ ?_
    clear hK K
    refine step_read (by rfl) (fun K hK => ?_)
    go_big_quiet_op
    refine hK _ ?_
    clear hK K
    refine step_read (by rfl) (fun K hK => ?_)
    go_big_quiet_op
    refine hK _ ?_
    clear hK K
    refine step_read (by rfl) (fun K hK => ?_)
    go_big_quiet_op
    refine hK _ ?_
    clear hK K
    refine step_act (by rfl) (fun K hK => ?_)
    go_wp2_with (go_at_call 37; go_loud (refine (HC1.out U4 HU4.out).mono ?_); rintro e U5 ⟨rfl, hx⟩)
    refine ⟨_, hx, Ext.refl _, ?_⟩
    have HU5 := hid (HU4.out.trans hx)
    have hxa24 := hx
    clear hx
    cases c1 with
    | false =>
      refine step_read (by rfl) (fun K hK => ?_)
      go_big_quiet_op
      refine hK _ ?_
      clear hK K
      refine step_read (by rfl) (fun K hK => ?_)
      go_big_quiet_op
      refine hK _ ?_
      clear hK K
      refine step_skip (by rfl) ?_
      simp only [Act.put, List.setIfInBounds_toArray, List.set_cons_zero, List.set_cons_succ]
      refine step_skip (by rfl) ?_
      simp only [Act.put, List.setIfInBounds_toArray, List.set_cons_zero, List.set_cons_succ]
      refine step_skip (by rfl) ?_
      simp only [Act.put, List.setIfInBounds_toArray, List.set_cons_zero, List.set_cons_succ]
      refine step_idle (by rfl) ?_
      simp only [Act.put, List.setIfInBounds_toArray, List.set_cons_zero, List.set_cons_succ]
      refine step_read (by rfl) (fun K hK => ?_)
      go_big_quiet_op
      refine hK _ ?_
      clear hK K
      refine step_read (by rfl) (fun K hK => ?_)
      go_big_quiet_op
      refine hK _ ?_
      clear hK K
      refine step_skip (by rfl) ?_
      simp only [Act.put, List.setIfInBounds_toArray, List.set_cons_zero, List.set_cons_succ]
      refine step_skip (by rfl) ?_
      simp only [Act.put, List.setIfInBounds_toArray, List.set_cons_zero, List.set_cons_succ]
      refine step_skip (by rfl) ?_
      simp only [Act.put, List.setIfInBounds_toArray, List.set_cons_zero, List.set_cons_succ]
      refine step_idle (by rfl) ?_
      simp only [Act.put, List.setIfInBounds_toArray, List.set_cons_zero, List.set_cons_succ]
      refine step_read (by rfl) (fun K hK => ?_)
      go_big_quiet_op
      refine hK _ ?_
      clear hK K
      refine step_read (by rfl) (fun K hK => ?_)
      go_big_quiet_op
      refine hK _ ?_
      clear hK K
      refine step_nil ?_
      go_wp2
      go_ret
      exact ⟨by rw [HVAL.out]; rfl, HV.out.trans HU5.out⟩
    | true =>
      have hbp := Nat.lt_of_lt_of_le hl0 HU5.out.size
      have hb1 := (HU5.out.cells _ _ hl0).trans h1
      have hb2 := (HU5.out.cells _ _ hl0).trans h2
      have hb3 := (HU5.out.cells _ _ hl0).trans h3
      have hb4 := (HU5.out.cells _ _ hl0).trans h4
      have hb5 := (HU5.out.cells _ _ hl0).trans h5
      refine step_read (by rfl) (fun K hK => ?_)
      go_big_quiet_op
      refine hK _ ?_
      clear hK K
      refine step_read (by rfl) (fun K hK => ?_)
      go_big_quiet_op
      refine hK _ ?_
      clear hK K
      refine step_read (by rfl) (fun K hK => ?_)
      go_big_quiet_op
      refine hK _ ?_
      clear hK K
      refine step_read (by rfl) (fun K hK => ?_)
      go_big_quiet_op
      refine hK _ ?_
      clear hK K
      refine step_read (by rfl) (fun K hK => ?_)
      go_big_quiet_op
      refine hK _ ?_
      clear hK K
      refine step_act (by rfl) (fun K hK => ?_)
      go_wp2_with (go_at_call 40; go_loud (refine (HC2.out U5 HU5.out).mono ?_); rintro e U6 ⟨rfl, hx⟩)
      refine ⟨_, hx, Ext.refl _, ?_⟩
      have HU6 := hid (HU5.out.trans hx)
      have hxa30 := hx
      clear hx
      cases c2 with
      | false =>
        refine step_read (by rfl) (fun K hK => ?_)
        go_big_quiet_op
        refine hK _ ?_
        clear hK K
        refine step_read (by rfl) (fun K hK => ?_)
        go_big_quiet_op
        refine hK _ ?_
        clear hK K
        refine step_skip (by rfl) ?_
        simp only [Act.put, List.setIfInBounds_toArray, List.set_cons_zero, List.set_cons_succ]
        refine step_skip (by rfl) ?_
        simp only [Act.put, List.setIfInBounds_toArray, List.set_cons_zero, List.set_cons_succ]
        refine step_skip (by rfl) ?_
        simp only [Act.put, List.setIfInBounds_toArray, List.set_cons_zero, List.set_cons_succ]
        refine step_idle (by rfl) ?_
        simp only [Act.put, List.setIfInBounds_toArray, List.set_cons_zero, List.set_cons_succ]
        refine step_read (by rfl) (fun K hK => ?_)
        go_big_quiet_op
        refine hK _ ?_
        clear hK K
        refine step_read (by rfl) (fun K hK => ?_)
        go_big_quiet_op
        refine hK _ ?_
        clear hK K
        refine step_nil ?_
        go_wp2
        go_ret
        exact ⟨by rw [HVAL.out]; rfl, HV.out.trans HU6.out⟩
      | true =>
        have hbp := Nat.lt_of_lt_of_le hl0 HU6.out.size
        have hb1 := (HU6.out.cells _ _ hl0).trans h1
        have hb2 := (HU6.out.cells _ _ hl0).trans h2
        have hb3 := (HU6.out.cells _ _ hl0).trans h3
        have hb4 := (HU6.out.cells _ _ hl0).trans h4
        have hb5 := (HU6.out.cells _ _ hl0).trans h5
        refine step_read (by rfl) (fun K hK => ?_)
        go_big_quiet_op
        refine hK _ ?_
        clear hK K
        refine step_read (by rfl) (fun K hK => ?_)
        go_big_quiet_op
        refine hK _ ?_
        clear hK K
        refine step_read (by rfl) (fun K hK => ?_)
        go_big_quiet_op
        refine hK _ ?_
        clear hK K
        refine step_read (by rfl) (fun K hK => ?_)
        go_big_quiet_op
        refine hK _ ?_
        clear hK K
        refine step_read (by rfl) (fun K hK => ?_)
        go_big_quiet_op
        refine hK _ ?_
        clear hK K
        refine step_act (by rfl) (fun K hK => ?_)
        go_wp2_with (go_at_call 43; go_loud (refine (HC3.out U6 HU6.out).mono ?_); rintro e U7 ⟨rfl, hx⟩)
        refine ⟨_, hx, Ext.refl _, ?_⟩
        have HU7 := hid (HU6.out.trans hx)
        have hxa36 := hx
        clear hx
        refine step_read (by rfl) (fun K hK => ?_)
        go_big_quiet_op
        refine hK _ ?_
        clear hK K
        refine step_read (by rfl) (fun K hK => ?_)
        go_big_quiet_op
        refine hK _ ?_
        clear hK K
        refine step_nil ?_
        go_wp2
        go_ret
        exact ⟨by rw [HVAL.out]; rfl, HV.out.trans HU7.out⟩

end Go.Proofs.Ytgldlkoohfclpaa
