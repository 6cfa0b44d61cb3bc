/- Layer 17: closures of Right. -/
import Derived.Test.YtgldlkoohfclpaaImF
namespace Go.Proofs.Ytgldlkoohfclpaa
set_option linter.unusedSimpArgs false
set_option linter.unusedVariables false
open Go.RowKit

def cmOk (st : Bool) (d : Cmp) : Bool := !([outB (d.bl.length : Int) 4 4096, outB d.data 1 8].any id) && crB d.bl st
structure BoxI (w : World) (p : Nat) (x : Img) : Prop where
  lt : p < w.heap.size
  range : w.rangeAt p 0 [.bool x.strict, .int .i64 x.heap, .int .i64 x.full, .slice x.C x.comps.length x.cc, .slice x.L x.links.length x.lc, .slice x.S x.shares.length x.sc]
theorem BoxI.ext {w w' : World} {p : Nat} {x : Img} (h : BoxI w p x) (e : Ext w w') : BoxI w' p x := ⟨Nat.lt_of_lt_of_le h.lt e.size, fun j u hj => (e.cells _ _ h.lt).trans (h.range j u hj)⟩
def shOk (m : Nat) (d : Shr) : Bool := !([outB d.rd 0 (2 ^ m - 1), !bits .andNot .i64 d.wr_ d.rd == 0].any id)
set_option maxRecDepth 100000 in
set_option maxHeartbeats 4000000 in
theorem compR_ (x : Img) (p : Nat) (d : Cmp) (w : World) (hb : BoxI w p x) (hd : RdB w d.A d.bl ∧ byteL d.bl ∧ d.bl.length ≤ d.ca ∧ d.ca ≤ maxLen) : Calls Try.prog 38 #[.agg #[.slice d.A d.bl.length d.ca, .int .i64 d.data], .pointer (some ⟨p, 0, none⟩)] w fun e w' => e = .returned (.bool (cmOk x.strict d)) ∧ Ext w w' := by
  obtain ⟨n, hn⟩ : ∃ y, d.bl.length = y := ⟨_, rfl⟩
  have HCD : Hid (outB (n : Int) 4 4096 = false → ∀ U, Ext w U → Calls Try.prog 39 #[.slice d.A n d.ca, .bool x.strict] U fun e w' => e = .returned (.bool (crB d.bl x.strict)) ∧ Ext U w') := hid (fun h U hx => by
    rw [← hn]
    refine codeRight_ d.A d.ca d.bl x.strict U (hd.1.ext hx) hd.2.1 hd.2.2.1 hd.2.2.2 ?_
    unfold outB at h
    simp only [Bool.or_eq_false_iff, decide_eq_false_iff_not] at h
    omega)
  have HVAL := hid (show cmOk x.strict d = (!([outB (n : Int) 4 4096, outB d.data 1 8].any id) && crB d.bl x.strict) by unfold cmOk; rw [hn])
  have HNL : Hid ([outB (n : Int) 4 4096, outB d.data 1 8].any id = false → outB (n : Int) 4 4096 = false) := hid (fun h => by
    simp only [List.any_cons, List.any_nil, id, Bool.or_eq_false_iff, Bool.or_false] at h
    exact h.1)
  obtain ⟨v, hv⟩ : ∃ v, [outB (n : Int) 4 4096, outB d.data 1 8].any id = v := ⟨_, rfl⟩
  rw [hv] at HVAL HNL
  have HAV := hid (show (![outB (n : Int) 4 4096, outB d.data 1 8].any id) = !v by rw [hv])
  obtain ⟨c, hc⟩ : ∃ c, crB d.bl x.strict = c := ⟨_, rfl⟩
  rw [hc] at HVAL HCD
  have hx0 := hb.range 0 _ rfl
  simp only [Nat.zero_add] at hx0
  have hpl := hb.lt
  rw [hn]
  clear hv hc hn hb hd
  go_enter Try.func38, Try.ntmps38
  go_upto_region 1 with (fail)
  refine wp_gen (fun V => Hid (Ext w V) ∧ V.heap.size = w.heap.size + 1 ∧ V.cell? ⟨w.heap.size, 0, none⟩ = some (.slice d.A n d.ca) ∧ V.cell? ⟨w.heap.size, 1, none⟩ = some (.int .i64 d.data)) ⟨hid (by repeat (first | (with_reducible exact Ext.refl _) | (with_reducible refine Ext.undrew ?_) | (with_reducible refine Ext.grow ?_ _) | (with_reducible refine Ext.drew ?_) | (with_reducible refine Ext.drewN ?_ _) | (with_reducible refine Ext.alloc ?_ _) | (with_reducible assumption) | ((with_reducible refine Ext.setCell ?_ ?_ _); rotate_left; (first | exact Nat.le_refl _ | ((try dsimp only); (try simp only [World.size_alloc, grow_size, World.size_setCell]); omega))))), by simp, by simp [go_sem], by simp [go_sem]⟩ ?_
  rintro V ⟨HV, hsz, hp0, hp1⟩
  have hl0 : w.heap.size < V.heap.size := by omega
  have hpv := Nat.lt_of_lt_of_le hpl HV.out.size
  have hx0 := (HV.out.cells _ _ hpl).trans hx0
  clear hsz hpl
  refine wp_region_step (.rd 0 (.rd 1 (.rd 2 (.rd 4 (.rd 5 (.ac 3 (.ac 6 (.ac 7 (.ac 8 (.rd 9 (.rd 10 (.rd 11 (.rd 12 (.rd 13 (.ac 14 (.rd 15 (.rd 16 .done))))))))))))))))) (by kernel_rfl) (by kernel_rfl) (fun _ _ d _ _ h => by cases d <;> exact h) (by simp only [Ord.map, nthOp, List.append]; rfl) ?_
  intro d0
  have HU0 := hid (Ext.grow (Ext.refl V) d0)
  generalize Go.Proofs.Ytgldlkoohfclpaa.grow V d0 = U0 at HU0 ⊢
  have hbl := Nat.lt_of_lt_of_le hl0 HU0.out.size
  have hbp := Nat.lt_of_lt_of_le hpv HU0.out.size
  have hb0 := (HU0.out.cells _ 0 hl0).trans hp0
  have hb1 := (HU0.out.cells _ 1 hl0).trans hp1
  have hbx := (HU0.out.cells _ _ hpv).trans hx0
  refine step_read (by rfl) (fun K hK => ?_)
  go_big_quiet_op
  refine hK _ ?_
  clear hK K
  refine step_read (by rfl) (fun K hK => ?_)
  go_big_quiet_op
  refine hK _ ?_
  clear hK K
  refine step_read (by rfl) (fun K hK => ?_)
  go_big_quiet_op
  refine hK _ ?_
  clear hK K
  refine step_read (by rfl) (fun K hK => ?_)
  go_big_quiet_op
  refine hK _ ?_
  clear hK K
  refine step_read (by rfl) (fun K hK => ?_)
  go_big_quiet_op
  refine hK _ ?_
  clear hK K
  refine step_act (by rfl) (fun K hK => ?_)
  go_wp2_with (go_at_call 36; refine (outside_ n 4 4096 U0).mono ?_; rintro e U1 ⟨rfl, hx⟩)
  refine ⟨_, hx, Ext.refl _, ?_⟩
  have HU1 := hid (HU0.out.trans hx)
  have hxa3 := hx
  clear hx
  refine step_act (by rfl) (fun K hK => ?_)
  go_wp2_with (go_at_call 36; refine (outside_ d.data 1 8 U1).mono ?_; rintro e U2 ⟨rfl, hx⟩)
  refine ⟨_, hx, Ext.refl _, ?_⟩
  have HU2 := hid (HU1.out.trans hx)
  have hxa6 := hx
  clear hx
  refine step_act (by rfl) (fun K hK => ?_)
  go_wp2_with fail
  refine ⟨U2, Ext.refl _, (Ext.refl _).alloc _, ?_⟩
  refine step_gen (fun W => Hid (Ext U2 W) ∧ Hid (Row W U2.heap.size 0 [.bool (outB (n : Int) 4 4096), .bool (outB d.data 1 8)])) ⟨hid ((Ext.refl _).alloc _), hid (Row.new U2 #[.bool (outB (n : Int) 4 4096), .bool (outB d.data 1 8)] 4)⟩ ?_
  rintro V3 ⟨HV3, HR1⟩
  have hv3 := HV3.out
  refine step_act (by rfl) (fun K hK => ?_)
  go_wp2_with (go_at_call 35; refine (none_ (some ⟨U2.heap.size, 0, none⟩) 2 2 [outB (n : Int) 4 4096, outB d.data 1 8] _ (RdF.row0 HR1.out) rfl (by decide)).mono ?_; rintro e U3 ⟨he, hx⟩; rw [HAV.out] at he; subst he)
  have hx := hv3.trans hx
  refine ⟨_, hx, Ext.refl _, ?_⟩
  have HU3 := hid (HU2.out.trans hx)
  have hxa8 := hx
  clear hx
  cases v with
  | true =>
    refine step_read (by rfl) (fun K hK => ?_)
    go_big_quiet_op
    refine hK _ ?_
    clear hK K
    refine step_skip (by rfl) ?_
    simp only [Act.put, List.setIfInBounds_toArray, List.set_cons_zero, List.set_cons_succ]
    refine step_skip (by rfl) ?_
    simp only [Act.put, List.setIfInBounds_toArray, List.set_cons_zero, List.set_cons_succ]
    refine step_skip (by rfl) ?_
    simp only [Act.put, List.setIfInBounds_toArray, List.set_cons_zero, List.set_cons_succ]
    refine step_skip (by rfl) ?_
    simp only [Act.put, List.setIfInBounds_toArray, List.set_cons_zero, List.set_cons_succ]
    refine step_idle (by rfl) ?_
    simp only [Act.put, List.setIfInBounds_toArray, List.set_cons_zero, List.set_cons_succ]
    refine step_read (by rfl) (fun K hK => ?_)
    go_big_quiet_op
    refine hK _ ?_
    clear hK K
    refine step_read (by rfl) (fun K hK => ?_)
    go_big_quiet_op
    refine hK _ ?_
    clear hK K
    refine step_nil ?_
    go_wp2
    go_ret
    exact ⟨by rw [HVAL.out]; rfl, HV.out.trans HU3.out⟩
  | false =>
    have HCD := hid (HCD.out (HNL.out rfl))
    clear HNL
    have hbp := Nat.lt_of_lt_of_le hpv HU3.out.size
    have hbx := (HU3.out.cells _ _ hpv).trans hx0
    have hbl := Nat.lt_of_lt_of_le hl0 HU3.out.size
    have hb0 := (HU3.out.cells _ 0 hl0).trans hp0
    refine step_read (by rfl) (fun K hK => ?_)
    go_big_quiet_op
    refine hK _ ?_
    clear hK K
    refine step_read (by rfl) (fun K hK => ?_)
    go_big_quiet_op
    refine hK _ ?_
    clear hK K
    refine step_read (by rfl) (fun K hK => ?_)
    go_big_quiet_op
    refine hK _ ?_
    clear hK K
    refine step_read (by rfl) (fun K hK => ?_)
    go_big_quiet_op
    refine hK _ ?_
    clear hK K
    refine step_read (by rfl) (fun K hK => ?_)
    go_big_quiet_op
    refine hK _ ?_
    clear hK K
    refine step_act (by rfl) (fun K hK => ?_)
    go_wp2_with (go_at_call 39; refine (HCD.out U3 (HV.out.trans HU3.out)).mono ?_; rintro e U4 ⟨rfl, hx⟩)
    refine ⟨_, hx, Ext.refl _, ?_⟩
    have HU4 := hid (HU3.out.trans hx)
    have hxa14 := hx
    clear hx
    refine step_read (by rfl) (fun K hK => ?_)
    go_big_quiet_op
    refine hK _ ?_
    clear hK K
    refine step_read (by rfl) (fun K hK => ?_)
    go_big_quiet_op
    refine hK _ ?_
    clear hK K
    refine step_nil ?_
    go_wp2
    go_ret
    exact ⟨by rw [HVAL.out]; rfl, HV.out.trans HU4.out⟩
set_option maxRecDepth 100000 in
set_option maxHeartbeats 4000000 in
theorem linkR_ (x : Img) (p : Nat) (l : Lnk) (w : World) (hb : BoxI w p x) (h : ImgAt w x) (hc : x.comps.length ≤ 1000) (hl : x.links.length ≤ 100000) : Calls Try.prog 41 #[.agg #[.int .i64 l.fr, .int .i64 l.to_, .int .i64 l.at_], .pointer (some ⟨p, 0, none⟩)] w fun e w' => e = .returned (.bool (lnkOk x l)) ∧ Ext w w' := by
  have HLK : Hid (∀ U, Ext w U → Calls Try.prog 42 #[.agg #[.int .i64 l.fr, .int .i64 l.to_, .int .i64 l.at_], .agg #[.bool x.strict, .int .i64 x.heap, .int .i64 x.full, .slice x.C x.comps.length x.cc, .slice x.L x.links.length x.lc, .slice x.S x.shares.length x.sc]] U fun e w' => e = .returned (.bool (lnkOk x l)) ∧ Ext U w') := hid (fun U hx => linkRight_ x l U (h.ext hx) hc hl)
  obtain ⟨v, hv⟩ : ∃ v, lnkOk x l = v := ⟨_, rfl⟩
  obtain ⟨m, hm⟩ : ∃ y, x.comps.length = y := ⟨_, rfl⟩
  obtain ⟨ml, hml⟩ : ∃ y, x.links.length = y := ⟨_, rfl⟩
  obtain ⟨ms, hms⟩ : ∃ y, x.shares.length = y := ⟨_, rfl⟩
  have hpl := hb.lt
  have HB := hid hb.range
  rw [hv, hm, hml, hms] at HLK
  rw [hm, hml, hms] at HB
  rw [hv]
  clear hv hm hml hms hb h hc hl
  have HB9 := HB.out
  have c0 := HB9 0 _ rfl
  have c1 := HB9 1 _ rfl
  have c2 := HB9 2 _ rfl
  have c3 := HB9 3 _ rfl
  have c4 := HB9 4 _ rfl
  have c5 := HB9 5 _ rfl
  simp only [Nat.zero_add] at c0 c1 c2 c3 c4 c5
  clear HB9 HB
  go_enter Try.func41, Try.ntmps41
  go_wp2_with fail
  refine (HLK.out _ (by repeat (first | (with_reducible exact Ext.refl _) | (with_reducible refine Ext.undrew ?_) | (with_reducible refine Ext.grow ?_ _) | (with_reducible refine Ext.drew ?_) | (with_reducible refine Ext.drewN ?_ _) | (with_reducible refine Ext.alloc ?_ _) | (with_reducible assumption) | ((with_reducible refine Ext.setCell ?_ ?_ _); rotate_left; (first | exact Nat.le_refl _ | ((try dsimp only); (try simp only [World.size_alloc, grow_size, World.size_setCell]); omega)))))).mono ?_; rintro e W1 ⟨rfl, hy⟩
  have HY := hid (Ext.trans ((Ext.refl _).alloc _) hy)
  clear hy
  go_wp2
  go_ret
  exact ⟨rfl, HY.out⟩
set_option maxRecDepth 100000 in
set_option maxHeartbeats 4000000 in
theorem shareR_ (x : Img) (p : Nat) (d : Shr) (w : World) (hb : BoxI w p x) (hm4 : x.comps.length ≤ 4) : Calls Try.prog 44 #[.agg #[.int .i64 d.rd, .int .i64 d.wr_], .pointer (some ⟨p, 0, none⟩)] w fun e w' => e = .returned (.bool (shOk x.comps.length d)) ∧ Ext w w' := by
  obtain ⟨m, hm⟩ : ∃ y, x.comps.length = y := ⟨_, rfl⟩
  have hx3 := hb.range 3 _ rfl
  simp only [Nat.zero_add] at hx3
  have hpl := hb.lt
  rw [hm] at hx3 hm4 ⊢
  clear hm hb
  go_enter Try.func44, Try.ntmps44
  go_upto_region 1 with (fail)
  refine wp_gen (fun V => Hid (Ext w V) ∧ V.heap.size = w.heap.size + 1 ∧ V.cell? ⟨w.heap.size, 0, none⟩ = some (.int .i64 d.rd) ∧ V.cell? ⟨w.heap.size, 1, none⟩ = some (.int .i64 d.wr_)) ⟨hid (by repeat (first | (with_reducible exact Ext.refl _) | (with_reducible refine Ext.undrew ?_) | (with_reducible refine Ext.grow ?_ _) | (with_reducible refine Ext.drew ?_) | (with_reducible refine Ext.drewN ?_ _) | (with_reducible refine Ext.alloc ?_ _) | (with_reducible assumption) | ((with_reducible refine Ext.setCell ?_ ?_ _); rotate_left; (first | exact Nat.le_refl _ | ((try dsimp only); (try simp only [World.size_alloc, grow_size, World.size_setCell]); omega))))), by simp, by simp [go_sem], by simp [go_sem]⟩ ?_
  rintro V ⟨HV, hsz, hp0, hp1⟩
  have hl0 : w.heap.size < V.heap.size := by omega
  have hpv := Nat.lt_of_lt_of_le hpl HV.out.size
  have hx3 := (HV.out.cells _ _ hpl).trans hx3
  clear hsz hpl
  rcases (show m = 0 ∨ m = 1 ∨ m = 2 ∨ m = 3 ∨ m = 4 by omega) with rfl | rfl | rfl | rfl | rfl
  · have HVAL := hid (show shOk 0 d = !([outB d.rd 0 0, !bits .andNot .i64 d.wr_ d.rd == 0].any id) by unfold shOk; rw [show ((2 : Int) ^ 0 - 1) = 0 by decide])
    obtain ⟨v, hv⟩ : ∃ v, [outB d.rd 0 0, !bits .andNot .i64 d.wr_ d.rd == 0].any id = v := ⟨_, rfl⟩
    have HAV := hid (show (![outB d.rd 0 0, !bits .andNot .i64 d.wr_ d.rd == 0].any id) = !v by rw [hv])
    rw [hv] at HVAL
    clear hv
    refine wp_region_step (.rd 0 (.rd 1 (.rd 2 (.rd 3 (.rd 4 (.rd 5 (.rd 6 (.rd 8 (.rd 9 (.rd 10 (.rd 11 (.rd 12 (.rd 13 (.ac 7 (.ac 14 (.ac 15 (.rd 16 .done))))))))))))))))) (by kernel_rfl) (by kernel_rfl) (fun _ _ d _ _ h => by cases d <;> exact h) (by simp only [Ord.map, nthOp, List.append]; rfl) ?_
    intro d0
    have HU0 := hid (Ext.grow (Ext.refl V) d0)
    generalize Go.Proofs.Ytgldlkoohfclpaa.grow V d0 = U0 at HU0 ⊢
    have hbl := Nat.lt_of_lt_of_le hl0 HU0.out.size
    have hbp := Nat.lt_of_lt_of_le hpv HU0.out.size
    have hb0 := (HU0.out.cells _ 0 hl0).trans hp0
    have hb1 := (HU0.out.cells _ 1 hl0).trans hp1
    have hbx := (HU0.out.cells _ _ hpv).trans hx3
    refine step_read (by rfl) (fun K hK => ?_)
    go_big_quiet_op
    refine hK _ ?_
    clear hK K
    refine step_read (by rfl) (fun K hK => ?_)
    go_big_quiet_op
    refine hK _ ?_
    clear hK K
    refine step_read (by rfl) (fun K hK => ?_)
    go_big_quiet_op
    refine hK _ ?_
    clear hK K
    refine step_read (by rfl) (fun K hK => ?_)
    go_big_quiet_op
    refine hK _ ?_
    clear hK K
    refine step_read (by rfl) (fun K hK => ?_)
    go_big_quiet_op
    refine hK _ ?_
    clear hK K
    refine step_read (by rfl) (fun K hK => ?_)
    go_big_quiet_op
    refine hK _ ?_
    clear hK K
    refine step_read (by rfl) (fun K hK => ?_)
    go_big_quiet_op
    refine hK _ ?_
    clear hK K
    refine step_read (by rfl) (fun K hK => ?_)
    go_big_quiet_op
    refine hK _ ?_
    clear hK K
    refine step_read (by rfl) (fun K hK => ?_)
    go_big_quiet_op
    refine hK _ ?_
    clear hK K
    refine step_read (by rfl) (fun K hK => ?_)
    go_big_quiet_op
    refine hK _ ?_
    clear hK K
    refine step_read (by rfl) (fun K hK => ?_)
    go_big_quiet_op
    refine hK _ ?_
    clear hK K
    refine step_read (by rfl) (fun K hK => ?_)
    go_big_quiet_op
    refine hK _ ?_
    clear hK K
    refine step_read (by rfl) (fun K hK => ?_)
    go_big_quiet_op
    refine hK _ ?_
    clear hK K
    refine step_act (by rfl) (fun K hK => ?_)
    go_wp2_with (go_at_call 36; refine (outside_ d.rd 0 0 U0).mono ?_; rintro e U1 ⟨rfl, hx⟩)
    refine ⟨_, hx, Ext.refl _, ?_⟩
    have HU1 := hid (HU0.out.trans hx)
    have hxa7 := hx
    clear hx
    refine step_act (by rfl) (fun K hK => ?_)
    go_wp2_with fail
    refine ⟨U1, Ext.refl _, (Ext.refl _).alloc _, ?_⟩
    refine step_gen (fun W => Hid (Ext U1 W) ∧ Hid (Row W U1.heap.size 0 [.bool (outB d.rd 0 0), .bool (!bits .andNot .i64 d.wr_ d.rd == 0)])) ⟨hid ((Ext.refl _).alloc _), hid (Row.new U1 #[.bool (outB d.rd 0 0), .bool (!bits .andNot .i64 d.wr_ d.rd == 0)] 4)⟩ ?_
    rintro V2 ⟨HV2, HR1⟩
    have hv2 := HV2.out
    refine step_act (by rfl) (fun K hK => ?_)
    go_wp2_with (go_at_call 35; refine (none_ (some ⟨U1.heap.size, 0, none⟩) 2 2 [outB d.rd 0 0, !bits .andNot .i64 d.wr_ d.rd == 0] _ (RdF.row0 HR1.out) rfl (by decide)).mono ?_; rintro e U2 ⟨he, hx⟩; rw [HAV.out] at he; subst he)
    have hx := hv2.trans hx
    refine ⟨_, hx, Ext.refl _, ?_⟩
    have HU2 := hid (HU1.out.trans hx)
    have hxa15 := hx
    clear hx
    refine step_read (by rfl) (fun K hK => ?_)
    go_big_quiet_op
    refine hK _ ?_
    clear hK K
    refine step_nil ?_
    go_wp2
    go_ret
    exact ⟨by rw [HVAL.out]; rfl, HV.out.trans HU2.out⟩
  · have HVAL := hid (show shOk 1 d = !([outB d.rd 0 1, !bits .andNot .i64 d.wr_ d.rd == 0].any id) by unfold shOk; rw [show ((2 : Int) ^ 1 - 1) = 1 by decide])
    obtain ⟨v, hv⟩ : ∃ v, [outB d.rd 0 1, !bits .andNot .i64 d.wr_ d.rd == 0].any id = v := ⟨_, rfl⟩
    have HAV := hid (show (![outB d.rd 0 1, !bits .andNot .i64 d.wr_ d.rd == 0].any id) = !v by rw [hv])
    rw [hv] at HVAL
    clear hv
    refine wp_region_step (.rd 0 (.rd 1 (.rd 2 (.rd 3 (.rd 4 (.rd 5 (.rd 6 (.rd 8 (.rd 9 (.rd 10 (.rd 11 (.rd 12 (.rd 13 (.ac 7 (.ac 14 (.ac 15 (.rd 16 .done))))))))))))))))) (by kernel_rfl) (by kernel_rfl) (fun _ _ d _ _ h => by cases d <;> exact h) (by simp only [Ord.map, nthOp, List.append]; rfl) ?_
    intro d0
    have HU0 := hid (Ext.grow (Ext.refl V) d0)
    generalize Go.Proofs.Ytgldlkoohfclpaa.grow V d0 = U0 at HU0 ⊢
    have hbl := Nat.lt_of_lt_of_le hl0 HU0.out.size
    have hbp := Nat.lt_of_lt_of_le hpv HU0.out.size
    have hb0 := (HU0.out.cells _ 0 hl0).trans hp0
    have hb1 := (HU0.out.cells _ 1 hl0).trans hp1
    have hbx := (HU0.out.cells _ _ hpv).trans hx3
    refine step_read (by rfl) (fun K hK => ?_)
    go_big_quiet_op
    refine hK _ ?_
    clear hK K
    refine step_read (by rfl) (fun K hK => ?_)
    go_big_quiet_op
    refine hK _ ?_
    clear hK K
    refine step_read (by rfl) (fun K hK => ?_)
    go_big_quiet_op
    refine hK _ ?_
    clear hK K
    refine step_read (by rfl) (fun K hK => ?_)
    go_big_quiet_op
    refine hK _ ?_
    clear hK K
    refine step_read (by rfl) (fun K hK => ?_)
    go_big_quiet_op
    refine hK _ ?_
    clear hK K
    refine step_read (by rfl) (fun K hK => ?_)
    go_big_quiet_op
    refine hK _ ?_
    clear hK K
    refine step_read (by rfl) (fun K hK => ?_)
    go_big_quiet_op
    refine hK _ ?_
    clear hK K
    refine step_read (by rfl) (fun K hK => ?_)
    go_big_quiet_op
    refine hK _ ?_
    clear hK K
    refine step_read (by rfl) (fun K hK => ?_)
    go_big_quiet_op
    refine hK _ ?_
    clear hK K
    refine step_read (by rfl) (fun K hK => ?_)
    go_big_quiet_op
    refine hK _ ?_
    clear hK K
    refine step_read (by rfl) (fun K hK => ?_)
    go_big_quiet_op
    refine hK _ ?_
    clear hK K
    refine step_read (by rfl) (fun K hK => ?_)
    go_big_quiet_op
    refine hK _ ?_
    clear hK K
    refine step_read (by rfl) (fun K hK => ?_)
    go_big_quiet_op
    refine hK _ ?_
    clear hK K
    refine step_act (by rfl) (fun K hK => ?_)
    go_wp2_with (go_at_call 36; refine (outside_ d.rd 0 1 U0).mono ?_; rintro e U1 ⟨rfl, hx⟩)
    refine ⟨_, hx, Ext.refl _, ?_⟩
    have HU1 := hid (HU0.out.trans hx)
    have hxa7 := hx
    clear hx
    refine step_act (by rfl) (fun K hK => ?_)
    go_wp2_with fail
    refine ⟨U1, Ext.refl _, (Ext.refl _).alloc _, ?_⟩
    refine step_gen (fun W => Hid (Ext U1 W) ∧ Hid (Row W U1.heap.size 0 [.bool (outB d.rd 0 1), .bool (!bits .andNot .i64 d.wr_ d.rd == 0)])) ⟨hid ((Ext.refl _).alloc _), hid (Row.new U1 #[.bool (outB d.rd 0 1), .bool (!bits .andNot .i64 d.wr_ d.rd == 0)] 4)⟩ ?_
    rintro V2 ⟨HV2, HR1⟩
    have hv2 := HV2.out
    refine step_act (by rfl) (fun K hK => ?_)
    go_wp2_with (go_at_call 35; refine (none_ (some ⟨U1.heap.size, 0, none⟩) 2 2 [outB d.rd 0 1, !bits .andNot .i64 d.wr_ d.rd == 0] _ (RdF.row0 HR1.out) rfl (by decide)).mono ?_; rintro e U2 ⟨he, hx⟩; rw [HAV.out] at he; subst he)
    have hx := hv2.trans hx
    refine ⟨_, hx, Ext.refl _, ?_⟩
    have HU2 := hid (HU1.out.trans hx)
    have hxa15 := hx
    clear hx
    refine step_read (by rfl) (fun K hK => ?_)
    go_big_quiet_op
    refine hK _ ?_
    clear hK K
    refine step_nil ?_
    go_wp2
    go_ret
    exact ⟨by rw [HVAL.out]; rfl, HV.out.trans HU2.out⟩
  · have HVAL := hid (show shOk 2 d = !([outB d.rd 0 3, !bits .andNot .i64 d.wr_ d.rd == 0].any id) by unfold shOk; rw [show ((2 : Int) ^ 2 - 1) = 3 by decide])
    obtain ⟨v, hv⟩ : ∃ v, [outB d.rd 0 3, !bits .andNot .i64 d.wr_ d.rd == 0].any id = v := ⟨_, rfl⟩
    have HAV := hid (show (![outB d.rd 0 3, !bits .andNot .i64 d.wr_ d.rd == 0].any id) = !v by rw [hv])
    rw [hv] at HVAL
    clear hv
    refine wp_region_step (.rd 0 (.rd 1 (.rd 2 (.rd 3 (.rd 4 (.rd 5 (.rd 6 (.rd 8 (.rd 9 (.rd 10 (.rd 11 (.rd 12 (.rd 13 (.ac 7 (.ac 14 (.ac 15 (.rd 16 .done))))))))))))))))) (by kernel_rfl) (by kernel_rfl) (fun _ _ d _ _ h => by cases d <;> exact h) (by simp only [Ord.map, nthOp, List.append]; rfl) ?_
    intro d0
    have HU0 := hid (Ext.grow (Ext.refl V) d0)
    generalize Go.Proofs.Ytgldlkoohfclpaa.grow V d0 = U0 at HU0 ⊢
    have hbl := Nat.lt_of_lt_of_le hl0 HU0.out.size
    have hbp := Nat.lt_of_lt_of_le hpv HU0.out.size
    have hb0 := (HU0.out.cells _ 0 hl0).trans hp0
    have hb1 := (HU0.out.cells _ 1 hl0).trans hp1
    have hbx := (HU0.out.cells _ _ hpv).trans hx3
    refine step_read (by rfl) (fun K hK => ?_)
    go_big_quiet_op
    refine hK _ ?_
    clear hK K
    refine step_read (by rfl) (fun K hK => ?_)
    go_big_quiet_op
    refine hK _ ?_
    clear hK K
    refine step_read (by rfl) (fun K hK => ?_)
    go_big_quiet_op
    refine hK _ ?_
    clear hK K
    refine step_read (by rfl) (fun K hK => ?_)
    go_big_quiet_op
    refine hK _ ?_
    clear hK K
    refine step_read (by rfl) (fun K hK => ?_)
    go_big_quiet_op
    refine hK _ ?_
    clear hK K
    refine step_read (by rfl) (fun K hK => ?_)
    go_big_quiet_op
    refine hK _ ?_
    clear hK K
    refine step_read (by rfl) (fun K hK => ?_)
    go_big_quiet_op
    refine hK _ ?_
    clear hK K
    refine step_read (by rfl) (fun K hK => ?_)
    go_big_quiet_op
    refine hK _ ?_
    clear hK K
    refine step_read (by rfl) (fun K hK => ?_)
    go_big_quiet_op
    refine hK _ ?_
    clear hK K
    refine step_read (by rfl) (fun K hK => ?_)
    go_big_quiet_op
    refine hK _ ?_
    clear hK K
    refine step_read (by rfl) (fun K hK => ?_)
    go_big_quiet_op
    refine hK _ ?_
    clear hK K
    refine step_read (by rfl) (fun K hK => ?_)
    go_big_quiet_op
    refine hK _ ?_
    clear hK K
    refine step_read (by rfl) (fun K hK => ?_)
    go_big_quiet_op
    refine hK _ ?_
    clear hK K
    refine step_act (by rfl) (fun K hK => ?_)
    go_wp2_with (go_at_call 36; refine (outside_ d.rd 0 3 U0).mono ?_; rintro e U1 ⟨rfl, hx⟩)
    refine ⟨_, hx, Ext.refl _, ?_⟩
    have HU1 := hid (HU0.out.trans hx)
    have hxa7 := hx
    clear hx
    refine step_act (by rfl) (fun K hK => ?_)
    go_wp2_with fail
    refine ⟨U1, Ext.refl _, (Ext.refl _).alloc _, ?_⟩
    refine step_gen (fun W => Hid (Ext U1 W) ∧ Hid (Row W U1.heap.size 0 [.bool (outB d.rd 0 3), .bool (!bits .andNot .i64 d.wr_ d.rd == 0)])) ⟨hid ((Ext.refl _).alloc _), hid (Row.new U1 #[.bool (outB d.rd 0 3), .bool (!bits .andNot .i64 d.wr_ d.rd == 0)] 4)⟩ ?_
    rintro V2 ⟨HV2, HR1⟩
    have hv2 := HV2.out
    refine step_act (by rfl) (fun K hK => ?_)
    go_wp2_with (go_at_call 35; refine (none_ (some ⟨U1.heap.size, 0, none⟩) 2 2 [outB d.rd 0 3, !bits .andNot .i64 d.wr_ d.rd == 0] _ (RdF.row0 HR1.out) rfl (by decide)).mono ?_; rintro e U2 ⟨he, hx⟩; rw [HAV.out] at he; subst he)
    have hx := hv2.trans hx
    refine ⟨_, hx, Ext.refl _, ?_⟩
    have HU2 := hid (HU1.out.trans hx)
    have hxa15 := hx
    clear hx
    refine step_read (by rfl) (fun K hK => ?_)
    go_big_quiet_op
    refine hK _ ?_
    clear hK K
    refine step_nil ?_
    go_wp2
    go_ret
    exact ⟨by rw [HVAL.out]; rfl, HV.out.trans HU2.out⟩
  · have HVAL := hid (show shOk 3 d = !([outB d.rd 0 7, !bits .andNot .i64 d.wr_ d.rd == 0].any id) by unfold shOk; rw [show ((2 : Int) ^ 3 - 1) = 7 by decide])
    obtain ⟨v, hv⟩ : ∃ v, [outB d.rd 0 7, !bits .andNot .i64 d.wr_ d.rd == 0].any id = v := ⟨_, rfl⟩
    have HAV := hid (show (![outB d.rd 0 7, !bits .andNot .i64 d.wr_ d.rd == 0].any id) = !v by rw [hv])
    rw [hv] at HVAL
    clear hv
    refine wp_region_step (.rd 0 (.rd 1 (.rd 2 (.rd 3 (.rd 4 (.rd 5 (.rd 6 (.rd 8 (.rd 9 (.rd 10 (.rd 11 (.rd 12 (.rd 13 (.ac 7 (.ac 14 (.ac 15 (.rd 16 .done))))))))))))))))) (by kernel_rfl) (by kernel_rfl) (fun _ _ d _ _ h => by cases d <;> exact h) (by simp only [Ord.map, nthOp, List.append]; rfl) ?_
    intro d0
    have HU0 := hid (Ext.grow (Ext.refl V) d0)
    generalize Go.Proofs.Ytgldlkoohfclpaa.grow V d0 = U0 at HU0 ⊢
    have hbl := Nat.lt_of_lt_of_le hl0 HU0.out.size
    have hbp := Nat.lt_of_lt_of_le hpv HU0.out.size
    have hb0 := (HU0.out.cells _ 0 hl0).trans hp0
    have hb1 := (HU0.out.cells _ 1 hl0).trans hp1
    have hbx := (HU0.out.cells _ _ hpv).trans hx3
    refine step_read (by rfl) (fun K hK => ?_)
    go_big_quiet_op
    refine hK _ ?_
    clear hK K
    refine step_read (by rfl) (fun K hK => ?_)
    go_big_quiet_op
    refine hK _ ?_
    clear hK K
    refine step_read (by rfl) (fun K hK => ?_)
    go_big_quiet_op
    refine hK _ ?_
    clear hK K
    refine step_read (by rfl) (fun K hK => ?_)
    go_big_quiet_op
    refine hK _ ?_
    clear hK K
    refine step_read (by rfl) (fun K hK => ?_)
    go_big_quiet_op
    refine hK _ ?_
    clear hK K
    refine step_read (by rfl) (fun K hK => ?_)
    go_big_quiet_op
    refine hK _ ?_
    clear hK K
    refine step_read (by rfl) (fun K hK => ?_)
    go_big_quiet_op
    refine hK _ ?_
    clear hK K
    refine step_read (by rfl) (fun K hK => ?_)
    go_big_quiet_op
    refine hK _ ?_
    clear hK K
    refine step_read (by rfl) (fun K hK => ?_)
    go_big_quiet_op
    refine hK _ ?_
    clear hK K
    refine step_read (by rfl) (fun K hK => ?_)
    go_big_quiet_op
    refine hK _ ?_
    clear hK K
    refine step_read (by rfl) (fun K hK => ?_)
    go_big_quiet_op
    refine hK _ ?_
    clear hK K
    refine step_read (by rfl) (fun K hK => ?_)
    go_big_quiet_op
    refine hK _ ?_
    clear hK K
    refine step_read (by rfl) (fun K hK => ?_)
    go_big_quiet_op
    refine hK _ ?_
    clear hK K
    refine step_act (by rfl) (fun K hK => ?_)
    go_wp2_with (go_at_call 36; refine (outside_ d.rd 0 7 U0).mono ?_; rintro e U1 ⟨rfl, hx⟩)
    refine ⟨_, hx, Ext.refl _, ?_⟩
    have HU1 := hid (HU0.out.trans hx)
    have hxa7 := hx
    clear hx
    refine step_act (by rfl) (fun K hK => ?_)
    go_wp2_with fail
    refine ⟨U1, Ext.refl _, (Ext.refl _).alloc _, ?_⟩
    refine step_gen (fun W => Hid (Ext U1 W) ∧ Hid (Row W U1.heap.size 0 [.bool (outB d.rd 0 7), .bool (!bits .andNot .i64 d.wr_ d.rd == 0)])) ⟨hid ((Ext.refl _).alloc _), hid (Row.new U1 #[.bool (outB d.rd 0 7), .bool (!bits .andNot .i64 d.wr_ d.rd == 0)] 4)⟩ ?_
    rintro V2 ⟨HV2, HR1⟩
    have hv2 := HV2.out
    refine step_act (by rfl) (fun K hK => ?_)
    go_wp2_with (go_at_call 35; refine (none_ (some ⟨U1.heap.size, 0, none⟩) 2 2 [outB d.rd 0 7, !bits .andNot .i64 d.wr_ d.rd == 0] _ (RdF.row0 HR1.out) rfl (by decide)).mono ?_; rintro e U2 ⟨he, hx⟩; rw [HAV.out] at he; subst he)
    have hx := hv2.trans hx
    refine ⟨_, hx, Ext.refl _, ?_⟩
    have HU2 := hid (HU1.out.trans hx)
    have hxa15 := hx
    clear hx
    refine step_read (by rfl) (fun K hK => ?_)
    go_big_quiet_op
    refine hK _ ?_
    clear hK K
    refine step_nil ?_
    go_wp2
    go_ret
    exact ⟨by rw [HVAL.out]; rfl, HV.out.trans HU2.out⟩
  · have HVAL := hid (show shOk 4 d = !([outB d.rd 0 15, !bits .andNot .i64 d.wr_ d.rd == 0].any id) by unfold shOk; rw [show ((2 : Int) ^ 4 - 1) = 15 by decide])
    obtain ⟨v, hv⟩ : ∃ v, [outB d.rd 0 15, !bits .andNot .i64 d.wr_ d.rd == 0].any id = v := ⟨_, rfl⟩
    have HAV := hid (show (![outB d.rd 0 15, !bits .andNot .i64 d.wr_ d.rd == 0].any id) = !v by rw [hv])
    rw [hv] at HVAL
    clear hv
    refine wp_region_step (.rd 0 (.rd 1 (.rd 2 (.rd 3 (.rd 4 (.rd 5 (.rd 6 (.rd 8 (.rd 9 (.rd 10 (.rd 11 (.rd 12 (.rd 13 (.ac 7 (.ac 14 (.ac 15 (.rd 16 .done))))))))))))))))) (by kernel_rfl) (by kernel_rfl) (fun _ _ d _ _ h => by cases d <;> exact h) (by simp only [Ord.map, nthOp, List.append]; rfl) ?_
    intro d0
    have HU0 := hid (Ext.grow (Ext.refl V) d0)
    generalize Go.Proofs.Ytgldlkoohfclpaa.grow V d0 = U0 at HU0 ⊢
    have hbl := Nat.lt_of_lt_of_le hl0 HU0.out.size
    have hbp := Nat.lt_of_lt_of_le hpv HU0.out.size
    have hb0 := (HU0.out.cells _ 0 hl0).trans hp0
    have hb1 := (HU0.out.cells _ 1 hl0).trans hp1
    have hbx := (HU0.out.cells _ _ hpv).trans hx3
    refine step_read (by rfl) (fun K hK => ?_)
    go_big_quiet_op
    refine hK _ ?_
    clear hK K
    refine step_read (by rfl) (fun K hK => ?_)
    go_big_quiet_op
    refine hK _ ?_
    clear hK K
    refine step_read (by rfl) (fun K hK => ?_)
    go_big_quiet_op
    refine hK _ ?_
    clear hK K
    refine step_read (by rfl) (fun K hK => ?_)
    go_big_quiet_op
    refine hK _ ?_
    clear hK K
    refine step_read (by rfl) (fun K hK => ?_)
    go_big_quiet_op
    refine hK _ ?_
    clear hK K
    refine step_read (by rfl) (fun K hK => ?_)
    go_big_quiet_op
    refine hK _ ?_
    clear hK K
    refine step_read (by rfl) (fun K hK => ?_)
    go_big_quiet_op
    refine hK _ ?_
    clear hK K
    refine step_read (by rfl) (fun K hK => ?_)
    go_big_quiet_op
    refine hK _ ?_
    clear hK K
    refine step_read (by rfl) (fun K hK => ?_)
    go_big_quiet_op
    refine hK _ ?_
    clear hK K
    refine step_read (by rfl) (fun K hK => ?_)
    go_big_quiet_op
    refine hK _ ?_
    clear hK K
    refine step_read (by rfl) (fun K hK => ?_)
    go_big_quiet_op
    refine hK _ ?_
    clear hK K
    refine step_read (by rfl) (fun K hK => ?_)
    go_big_quiet_op
    refine hK _ ?_
    clear hK K
    refine step_read (by rfl) (fun K hK => ?_)
    go_big_quiet_op
    refine hK _ ?_
    clear hK K
    refine step_act (by rfl) (fun K hK => ?_)
    go_wp2_with (go_at_call 36; refine (outside_ d.rd 0 15 U0).mono ?_; rintro e U1 ⟨rfl, hx⟩)
    refine ⟨_, hx, Ext.refl _, ?_⟩
    have HU1 := hid (HU0.out.trans hx)
    have hxa7 := hx
    clear hx
    refine step_act (by rfl) (fun K hK => ?_)
    go_wp2_with fail
    refine ⟨U1, Ext.refl _, (Ext.refl _).alloc _, ?_⟩
    refine step_gen (fun W => Hid (Ext U1 W) ∧ Hid (Row W U1.heap.size 0 [.bool (outB d.rd 0 15), .bool (!bits .andNot .i64 d.wr_ d.rd == 0)])) ⟨hid ((Ext.refl _).alloc _), hid (Row.new U1 #[.bool (outB d.rd 0 15), .bool (!bits .andNot .i64 d.wr_ d.rd == 0)] 4)⟩ ?_
    rintro V2 ⟨HV2, HR1⟩
    have hv2 := HV2.out
    refine step_act (by rfl) (fun K hK => ?_)
    go_wp2_with (go_at_call 35; refine (none_ (some ⟨U1.heap.size, 0, none⟩) 2 2 [outB d.rd 0 15, !bits .andNot .i64 d.wr_ d.rd == 0] _ (RdF.row0 HR1.out) rfl (by decide)).mono ?_; rintro e U2 ⟨he, hx⟩; rw [HAV.out] at he; subst he)
    have hx := hv2.trans hx
    refine ⟨_, hx, Ext.refl _, ?_⟩
    have HU2 := hid (HU1.out.trans hx)
    have hxa15 := hx
    clear hx
    refine step_read (by rfl) (fun K hK => ?_)
    go_big_quiet_op
    refine hK _ ?_
    clear hK K
    refine step_nil ?_
    go_wp2
    go_ret
    exact ⟨by rw [HVAL.out]; rfl, HV.out.trans HU2.out⟩

end Go.Proofs.Ytgldlkoohfclpaa
