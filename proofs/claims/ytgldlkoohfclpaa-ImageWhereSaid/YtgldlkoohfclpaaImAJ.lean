/- Layer 17: the document: Where. -/
import Derived.Test.YtgldlkoohfclpaaImAI
import Derived.Deep.DeepCutAuto
namespace Go.Proofs.Ytgldlkoohfclpaa
set_option linter.unusedSimpArgs false
set_option linter.unusedVariables false
open Go.RowKit

set_option maxRecDepth 100000 in
set_option maxHeartbeats 4000000 in
theorem rwhere_ (x : Img) (w : World) (h : ImgAt w x) (hc : x.comps.length ≤ 100000) (hl : x.links.length ≤ 100000) (hs : x.shares.length ≤ 100000) (hw : ∀ d ∈ x.shares, -9223372036854775808 ≤ d.wr_ ∧ d.wr_ ≤ 9223372036854775807) : Calls Try.prog 23 #[.agg #[.bool x.strict, .int .i64 x.heap, .int .i64 x.full, .slice x.C x.comps.length x.cc, .slice x.L x.links.length x.lc, .slice x.S x.shares.length x.sc]] w fun e w' => ((rightV x = false ∧ e = .returned (.agg #[.slice none 0 0, .slice none 0 0, .slice none 0 0, .slice none 0 0, .int .i64 0])) ∨ (rightV x = true ∧ ∃ y : LayC, e = .returned (.agg #[y.vc, y.vd, y.vh, y.vs, .int .i64 (layV x).pg]) ∧ Hid (LayB w' y.q y.base y.vc y.vd y.vh y.vs (layV x)))) ∧ Hid (Ext w w') := by
  have HRT := hid (show ∀ W, Ext w W → Calls Try.prog 15 #[.agg #[.bool x.strict, .int .i64 x.heap, .int .i64 x.full, .slice x.C x.comps.length x.cc, .slice x.L x.links.length x.lc, .slice x.S x.shares.length x.sc]] W fun e w' => e = .returned (.bool (rightV x)) ∧ Ext W w' from fun W hx => rright_ x W (h.ext hx) hc hl hs hw)
  obtain ⟨m, hm⟩ : ∃ y, x.comps.length = y := ⟨_, rfl⟩
  obtain ⟨ml, hml⟩ : ∃ y, x.links.length = y := ⟨_, rfl⟩
  obtain ⟨ms, hms⟩ : ∃ y, x.shares.length = y := ⟨_, rfl⟩
  have HLV := hid (show layV x = layS (layK x.heap x.comps) ms by unfold layV; rw [hms])
  have HOKV := hid (show rightV x = true → _ from fun h2 => rightV_ok h2)
  obtain ⟨LV, hLV⟩ : ∃ y, layV x = y := ⟨_, rfl⟩
  rw [hLV] at HLV ⊢
  obtain ⟨v, hv⟩ : ∃ y, rightV x = y := ⟨_, rfl⟩
  rw [hv] at HRT HOKV ⊢
  obtain ⟨hp, hhp⟩ : ∃ y, x.heap = y := ⟨_, rfl⟩
  have HM := hid hm
  obtain ⟨Ca, hCa⟩ : ∃ y, x.C = y := ⟨_, rfl⟩
  have HCC := hid (show RdF Cmp.cells w Ca x.comps by rw [← hCa]; exact h.c)
  rw [hhp] at HLV
  rw [hm, hms, hhp] at HOKV
  rw [hm, hml, hms, hhp, hCa] at HRT
  rw [hm, hml, hms, hhp, hCa]
  clear hCa hm hml hms hhp hv hLV h hc hl hs hw
  go_enter Try.func23, Try.ntmps23
  go_upto_region 2 with (fail)
  refine wp_gen (fun V => Hid (Ext w V) ∧ Hid (LayB V (w.heap.size + 1 + 1) (w.heap.size + 1 + 1 + 1) (.slice none 0 0) (.slice none 0 0) (.slice none 0 0) (.slice none 0 0) ⟨[], [], [], [], 0⟩) ∧ Hid (Row V w.heap.size 0 [.bool x.strict, .int .i64 hp, .int .i64 x.full, .slice Ca m x.cc, .slice x.L ml x.lc, .slice x.S ms x.sc]) ∧ Hid (Row V (w.heap.size + 1) 0 [.slice none 0 0, .slice none 0 0, .slice none 0 0, .slice none 0 0, .int .i64 0])) ⟨hid (by repeat (first | (with_reducible exact Ext.refl _) | (with_reducible refine Ext.undrew ?_) | (with_reducible refine Ext.grow ?_ _) | (with_reducible refine Ext.drew ?_) | (with_reducible refine Ext.drewN ?_ _) | (with_reducible refine Ext.alloc ?_ _) | (with_reducible assumption) | ((with_reducible refine Ext.setCell ?_ ?_ _); rotate_left; (first | exact Nat.le_refl _ | ((try dsimp only); (try simp only [World.size_alloc, grow_size, World.size_setCell]); omega))))), hid ?_, hid ?_, hid ?_⟩ ?_
  · exact { lt := by simp, qb := by omega, bs := by simp, c0 := by simp [go_sem], c1 := by simp [go_sem], c2 := by simp [go_sem], c3 := by simp [go_sem], c4 := by simp [go_sem], fz := fun k hk => by simp [go_sem], o0 := ownsAt_nil _ _ _ _, o1 := ownsAt_nil _ _ _ _, o2 := ownsAt_nil _ _ _ _, o3 := ownsAt_nil _ _ _ _, a01 := fun g e => by simp [Value.ownBlock] at e, a02 := fun g e => by simp [Value.ownBlock] at e, a03 := fun g e => by simp [Value.ownBlock] at e, a12 := fun g e => by simp [Value.ownBlock] at e, a13 := fun g e => by simp [Value.ownBlock] at e, a23 := fun g e => by simp [Value.ownBlock] at e }
  · exact (Row.new w _ _).ext (Ext.trans ((Ext.refl _).alloc _) ((Ext.refl _).alloc _))
  · have h9 := Row.new (w.alloc (.cells #[.bool x.strict, .int .i64 hp, .int .i64 x.full, .slice Ca m x.cc, .slice x.L ml x.lc, .slice x.S ms x.sc] 26)) #[.slice none 0 0, .slice none 0 0, .slice none 0 0, .slice none 0 0, .int .i64 0] 45
    rw [World.size_alloc] at h9
    exact h9.ext ((Ext.refl _).alloc _)
  rintro V0 ⟨HV0, HB0, HR0, HR1⟩
  obtain ⟨p, hp0⟩ : ∃ y, w.heap.size = y := ⟨_, rfl⟩
  rw [hp0] at HB0 HR0 HR1 ⊢
  obtain ⟨s1, hs1⟩ : ∃ y, p + 1 = y := ⟨_, rfl⟩
  have hps : p < s1 := by omega
  rw [hs1] at HB0 HR1 ⊢
  obtain ⟨q, hq⟩ : ∃ y, s1 + 1 = y := ⟨_, rfl⟩
  have hsq : s1 < q := by omega
  rw [hq] at HB0 ⊢
  obtain ⟨base, hbase⟩ : ∃ y, q + 1 = y := ⟨_, rfl⟩
  rw [hbase] at HB0
  have hwp : w.heap.size ≤ p := by omega
  have hpq : p < q := by omega
  clear hq hp0 hbase hs1
  have q := HR0.out
  have ql := q.lt
  have qc0 := q.range 0 _ rfl
  have qc1 := q.range 1 _ rfl
  have qc2 := q.range 2 _ rfl
  have qc3 := q.range 3 _ rfl
  have qc4 := q.range 4 _ rfl
  have qc5 := q.range 5 _ rfl
  simp only [Nat.zero_add] at qc1 qc2 qc3 qc4 qc5
  clear q
  go_wp2_with fail
  refine (HRT.out V0 HV0.out).mono ?_
  rintro e V ⟨rfl, hx⟩
  have HV := hid (HV0.out.trans hx)
  replace HB0 := hid (HB0.out.ext hx)
  replace HR0 := hid (HR0.out.ext hx)
  replace HR1 := hid (HR1.out.ext hx)
  clear hx HRT HV0 ql qc0 qc1 qc2 qc3 qc4 qc5
  cases v with
  | false =>
    have hr1l := HR1.out.lt
    have y0 := HR1.out.range 0 _ rfl
    have z0 := HR1.out.free 0 (by decide)
    have y1 := HR1.out.range 1 _ rfl
    have z1 := HR1.out.free 1 (by decide)
    have y2 := HR1.out.range 2 _ rfl
    have z2 := HR1.out.free 2 (by decide)
    have y3 := HR1.out.range 3 _ rfl
    have z3 := HR1.out.free 3 (by decide)
    have y4 := HR1.out.range 4 _ rfl
    have z4 := HR1.out.free 4 (by decide)
    simp only [Nat.zero_add] at y1 y2 y3 y4 z1 z2 z3 z4
    have x0 := HB0.out.c0
    have x1 := HB0.out.c1
    have x2 := HB0.out.c2
    have x3 := HB0.out.c3
    have x4 := HB0.out.c4
    have xl := HB0.out.lt
    go_wp2
    refine bodyPost_ret (v := .agg #[.slice none 0 0, .slice none 0 0, .slice none 0 0, .slice none 0 0, .int .i64 0]) (by simp [results, Try.results23, go_sem, hr1l, y0, y1, y2, y3, y4]) rfl ?_
    exact ⟨rfl, hid (Ext.only HV.out (Only.setCell (S := fun i => i = s1) (Only.setCell (S := fun i => i = s1) (Only.setCell (S := fun i => i = s1) (Only.setCell (S := fun i => i = s1) (Only.setCell (S := fun i => i = s1) (Only.refl (fun i => i = s1) V) (.inl rfl) (o := 0) (.slice none 0 0)) (.inl rfl) (o := 1) (.slice none 0 0)) (.inl rfl) (o := 2) (.slice none 0 0)) (.inl rfl) (o := 3) (.slice none 0 0)) (.inl rfl) (o := 4) (.int .i64 0)) (fun i hi => by omega))⟩
  | true =>
    obtain ⟨⟨hh1, hh2, _, _, hm1, hm4, _, hs4⟩, hcm, _, _⟩ := HOKV.out rfl
    have HCR := hid (fun c hc => (hcm c hc).1)
    clear hcm HOKV
    have hpl := HR0.out.lt
    have q := HR0.out
    have ql := q.lt
    have qc0 := q.range 0 _ rfl
    have qc1 := q.range 1 _ rfl
    have qc2 := q.range 2 _ rfl
    have qc3 := q.range 3 _ rfl
    have qc4 := q.range 4 _ rfl
    have qc5 := q.range 5 _ rfl
    simp only [Nat.zero_add] at qc1 qc2 qc3 qc4 qc5
    clear q
    go_wp2
    clear ql qc0 qc1 qc2 qc3 qc4 qc5
    go_loopw [4, 5] (fun pg i wr => ∃ (k : Nat) (vc vd vh vs : Value) (T : LayS), k ≤ m ∧ i = .int .i64 k ∧ pg = .int .i64 T.pg ∧ Hid (T = layK hp (x.comps.take k)) ∧ Hid (LayB wr q base vc vd vh vs ⟨T.C, T.D, T.H, T.S, 0⟩) ∧ Hid (Only (fun i => q ≤ i) V wr)) (fun _ i _ => m - (intOf i).toNat)
    case atStart => exact ⟨0, _, _, _, _, lay0, Nat.zero_le _, rfl, rfl, hid rfl, HB0, hid (Only.refl _ _)⟩
    case round =>
      clear HB0
      obtain ⟨k, vc, vd, vh, vs, T, hk, rfl, rfl, HT, HB, HO⟩ := hrel
      have HEW := hid (Ext.only HV.out HO.out (fun i hi => by omega))
      by_cases hlt : k < m
      · have hk1 : (k : Int) < (m : Int) := by omega
        have hk0 : (0 : Int) ≤ (k : Int) := by omega
        have hkl : k < x.comps.length := by rw [HM.out]; exact hlt
        obtain ⟨d, hd⟩ : ∃ d, x.comps[k] = d := ⟨_, rfl⟩
        have HT2 := hid (show layK hp (x.comps.take (k + 1)) = stp hp T d by rw [List.take_succ_eq_append_getElem hkl, hd, layK_snoc, HT.out])
        obtain ⟨g1, g2, g3, g4⟩ := HCR.out d (hd ▸ List.getElem_mem _)
        obtain ⟨t1, t2, t3, t4, t5, t6⟩ := layK_len hh1 hh2 (x.comps.take k) (fun c hc => HCR.out c (List.mem_of_mem_take hc))
        rw [← HT.out, List.length_take] at t1 t2 t3 t6
        rw [← HT.out] at t4 t5
        have HLN := hid (show T.C.length ≤ 4 ∧ T.D.length ≤ 4 ∧ T.H.length ≤ 4 by omega)
        replace t6 : T.pg ≤ 1000 := by omega
        obtain ⟨b', o', eA, hb1, hrg⟩ := (HCC.out.ext HEW.out).elem cmp_len hkl d hd
        have e0 := hrg 0 _ rfl
        have e1 := hrg 1 _ rfl
        simp only [Nat.add_zero] at e0
        subst eA
        clear hd hrg t1 t2 t3 t4
        obtain ⟨dl, hdl⟩ : ∃ y, d.bl.length = y := ⟨_, rfl⟩
        rw [hdl] at e0 g1 g2
        have hpl9 := Nat.lt_of_lt_of_le hpl HO.out.size
        have hp3 := (HO.out.cells p 3 hpl (by omega)).trans (HR0.out.range 3 _ rfl)
        go_upto_region 9 with (fail)
        refine wp_gen (fun W => Hid (Ext wr W) ∧ Hid (Row W wr.heap.size 0 [.slice d.A dl d.ca, .int .i64 d.data])) ⟨hid (by repeat (first | (with_reducible exact Ext.refl _) | (with_reducible refine Ext.undrew ?_) | (with_reducible refine Ext.grow ?_ _) | (with_reducible refine Ext.drew ?_) | (with_reducible refine Ext.drewN ?_ _) | (with_reducible refine Ext.alloc ?_ _) | (with_reducible assumption) | ((with_reducible refine Ext.setCell ?_ ?_ _); rotate_left; (first | exact Nat.le_refl _ | ((try dsimp only); (try simp only [World.size_alloc, grow_size, World.size_setCell]); omega))))), hid (Row.new wr _ _)⟩ ?_
        rintro W1 ⟨HE1, HG⟩
        have HB1 := hid (HB.out.ext HE1.out)
        have HO1 := hid (HO.out.transExt HE1.out)
        have hgb : ∀ v', v' = vc ∨ v' = vd ∨ v' = vh → ∀ g', v'.ownBlock = some g' → g' < wr.heap.size := fun v' hv g' e => by
          rcases hv with rfl | rfl | rfl
          · exact (HB.out.o0.lt _ e).2
          · exact (HB.out.o1.lt _ e).2
          · exact (HB.out.o2.lt _ e).2
        have hgq : q < wr.heap.size := HB.out.lt
        obtain ⟨g, hg⟩ : ∃ y, wr.heap.size = y := ⟨_, rfl⟩
        rw [hg] at HG hgb hgq ⊢
        clear e0 e1 hg HO HE1 HB hb1 hp3 hpl9
        obtain ⟨np, hnp⟩ : ∃ y : Int, lnPg dl = y := ⟨_, rfl⟩
        have hn0 : ((dl : Int) + 255) / 256 = np := hnp
        have hn1 : 0 ≤ np := by omega
        have hn2 : np ≤ 16 := by omega
        have hq1 : ((dl : Int) + 255).tdiv 256 = np := by rw [Int.tdiv_eq_ediv_of_nonneg (by omega)]; exact hn0
        have HQ1 := hid hq1
        have HNP := hid hnp
        clear hnp hn0 hq1
        have hcx := HB1.out.c0
        have hqx := HB1.out.lt
        have hg0 := HG.out.range 0 _ rfl
        have hg1 := HG.out.range 1 _ rfl
        have hgl := HG.out.lt
        simp only [Nat.zero_add] at hg1
        go_upto_region 10 with (at_builtin; refine wpList_plain rfl fun K hK => ?_; go_loud (refine wp_app_row sp_len (by decide) sp_one Try.underlying42 info_sp (.tmp 25) (.tmp 35) rfl base vc T.C.length (rowF SpF T.C) rfl (HB1.out.o0.ext ((Ext.refl _).alloc _)) (some ⟨W1.heap.size, 0, none⟩) 1 1 [⟨256 * T.pg, 256 * T.pg + dl⟩] rfl rfl (rdF_row0 (f := SpF) (z := ⟨256 * T.pg, 256 * T.pg + dl⟩) (Row.new W1 _ _)) (by have := HLN.out; unfold maxLen; omega) (by have := HLN.out; omega) (by rw [World.size_alloc]; have := HB1.out.bs; omega) ?_); intro v6 w6 hown hgrow hat; obtain ⟨A6, c6, rfl, _, _⟩ := hown.shape; have HT6 := hid (grownOnly (S := fun i => vc.ownBlock = some i) hgrow fun g hg => hg); have HBA := hid (HB1.out.ext ((Ext.refl W1).alloc (.cells #[.int .i64 (256 * T.pg), .int .i64 (256 * T.pg + dl)] 51))); have HP := hid (LayB.put0 HBA.out HT6.out (z := ⟨256 * T.pg, 256 * T.pg + dl⟩) (by rw [rowF_append, List.length_append]; exact hown) (fun g e => hat.elim (fun h => .inl (h ▸ e)) (fun ⟨g2, e2, h2⟩ => .inr (by rw [e] at e2; cases e2; exact h2)))); have hl6 := Nat.lt_of_lt_of_le HBA.out.lt HT6.out.size; have hn6 : ¬ vc.ownBlock = some q := (fun e => by have := (HB1.out.o0.lt q e).1; have := HB1.out.qb; omega); have hc6 := (HT6.out.cells q 0 HBA.out.lt hn6).trans HBA.out.c0; have hf6 := (HT6.out.frozens q 0 HBA.out.lt hn6).trans (HBA.out.fz 0 (by decide)); clear hn6; refine hK _ _ ?_; clear hK K hown hgrow hat)
        refine wp_gen (fun W => (∃ v6 : Value, Hid (LayB W q base v6 vd vh vs ⟨T.C ++ [⟨256 * T.pg, 256 * T.pg + dl⟩], T.D, T.H, T.S, 0⟩)) ∧ Hid (Only (fun i => q ≤ i) V W) ∧ Hid (Row W g 0 [.slice d.A dl d.ca, .int .i64 d.data])) ⟨⟨_, HP⟩, hid (Only.setCell (S := fun i => q ≤ i) (Only.trans (HO1.out.alloc _) HT6.out (fun i hi => .inl (by have := (HB1.out.o0.lt i hi).1; have := HB1.out.qb; omega))) (.inl (Nat.le_refl _)) _), hid ?_⟩ ?_
        · exact ((HG.out.ext ((Ext.refl _).alloc _)).only HT6.out (fun e => absurd (hgb _ (by simp) g e) (Nat.lt_irrefl _))).only (Only.setCell (S := fun i => i = q) (Only.refl (fun i => i = q) _) (.inl rfl) _) (by omega)
        clear HP HT6 HBA hl6 hc6 hf6 hcx hqx HB1 HO1
        rintro W2 ⟨⟨vc, HB2⟩, HO2, HG⟩
        have hg0 := HG.out.range 0 _ rfl
        have hg1 := HG.out.range 1 _ rfl
        have hgl := HG.out.lt
        simp only [Nat.zero_add] at hg1
        have HQ2 := HQ1.out
        have hw1 : wrap64 np = np := by unfold wrap64; omega
        go_upto_region 11 with (fail)
        clear hg0 hg1 hgl HQ2 hw1
        obtain ⟨P1, hP1⟩ : ∃ y, T.pg + np = y := ⟨_, rfl⟩
        have HP1 := hid hP1
        have p10 : 1 ≤ P1 := by omega
        have p11 : P1 ≤ 1016 := by omega
        rw [hP1]
        clear hP1
        have hcx := HB2.out.c1
        have hqx := HB2.out.lt
        have hg0 := HG.out.range 0 _ rfl
        have hg1 := HG.out.range 1 _ rfl
        have hgl := HG.out.lt
        simp only [Nat.zero_add] at hg1
        go_upto_region 12 with (at_builtin; refine wpList_plain rfl fun K hK => ?_; go_loud (refine wp_app_row sp_len (by decide) sp_one Try.underlying42 info_sp (.tmp 46) (.tmp 55) rfl base vd T.D.length (rowF SpF T.D) rfl (HB2.out.o1.ext ((Ext.refl _).alloc _)) (some ⟨W2.heap.size, 0, none⟩) 1 1 [⟨256 * P1, 256 * (P1 + d.data)⟩] rfl rfl (rdF_row0 (f := SpF) (z := ⟨256 * P1, 256 * (P1 + d.data)⟩) (Row.new W2 _ _)) (by have := HLN.out; unfold maxLen; omega) (by have := HLN.out; omega) (by rw [World.size_alloc]; have := HB2.out.bs; omega) ?_); intro v6 w6 hown hgrow hat; obtain ⟨A6, c6, rfl, _, _⟩ := hown.shape; have HT6 := hid (grownOnly (S := fun i => vd.ownBlock = some i) hgrow fun g hg => hg); have HBA := hid (HB2.out.ext ((Ext.refl W2).alloc (.cells #[.int .i64 (256 * P1), .int .i64 (256 * (P1 + d.data))] 51))); have HP := hid (LayB.put1 HBA.out HT6.out (z := ⟨256 * P1, 256 * (P1 + d.data)⟩) (by rw [rowF_append, List.length_append]; exact hown) (fun g e => hat.elim (fun h => .inl (h ▸ e)) (fun ⟨g2, e2, h2⟩ => .inr (by rw [e] at e2; cases e2; exact h2)))); have hl6 := Nat.lt_of_lt_of_le HBA.out.lt HT6.out.size; have hn6 : ¬ vd.ownBlock = some q := (fun e => by have := (HB2.out.o1.lt q e).1; have := HB2.out.qb; omega); have hc6 := (HT6.out.cells q 1 HBA.out.lt hn6).trans HBA.out.c1; have hf6 := (HT6.out.frozens q 1 HBA.out.lt hn6).trans (HBA.out.fz 1 (by decide)); clear hn6; refine hK _ _ ?_; clear hK K hown hgrow hat)
        refine wp_gen (fun W => (∃ v6 : Value, Hid (LayB W q base vc v6 vh vs ⟨T.C ++ [⟨256 * T.pg, 256 * T.pg + dl⟩], T.D ++ [⟨256 * P1, 256 * (P1 + d.data)⟩], T.H, T.S, 0⟩)) ∧ Hid (Only (fun i => q ≤ i) V W) ∧ Hid (Row W g 0 [.slice d.A dl d.ca, .int .i64 d.data])) ⟨⟨_, HP⟩, hid (Only.setCell (S := fun i => q ≤ i) (Only.trans (HO2.out.alloc _) HT6.out (fun i hi => .inl (by have := (HB2.out.o1.lt i hi).1; have := HB2.out.qb; omega))) (.inl (Nat.le_refl _)) _), hid ?_⟩ ?_
        · exact ((HG.out.ext ((Ext.refl _).alloc _)).only HT6.out (fun e => absurd (hgb _ (by simp) g e) (Nat.lt_irrefl _))).only (Only.setCell (S := fun i => i = q) (Only.refl (fun i => i = q) _) (.inl rfl) _) (by omega)
        clear HP HT6 HBA hl6 hc6 hf6 hcx hqx HB2 HO2
        rintro W4 ⟨⟨vd, HB4⟩, HO4, HG⟩
        have hg0 := HG.out.range 0 _ rfl
        have hg1 := HG.out.range 1 _ rfl
        have hgl := HG.out.lt
        simp only [Nat.zero_add] at hg1
        go_upto_region 13 with (fail)
        clear hg0 hg1 hgl
        obtain ⟨P2, hP2⟩ : ∃ y, P1 + d.data = y := ⟨_, rfl⟩
        have HP2 := hid hP2
        have p20 : 1 ≤ P2 := by omega
        have p21 : P2 ≤ 1024 := by omega
        rw [hP2]
        clear hP2 HG
        have hcx := HB4.out.c2
        have hqx := HB4.out.lt
        have hpl9 := Nat.lt_of_lt_of_le hpl HO4.out.size
        have hp1 := (HO4.out.cells p 1 hpl (by omega)).trans (HR0.out.range 1 _ rfl)
        go_upto_region 14 with (at_builtin; refine wpList_plain rfl fun K hK => ?_; go_loud (refine wp_app_row sp_len (by decide) sp_one Try.underlying42 info_sp (.tmp 63) (.tmp 72) rfl base vh T.H.length (rowF SpF T.H) rfl (HB4.out.o2.ext ((Ext.refl _).alloc _)) (some ⟨W4.heap.size, 0, none⟩) 1 1 [⟨256 * P2, 256 * (P2 + hp)⟩] rfl rfl (rdF_row0 (f := SpF) (z := ⟨256 * P2, 256 * (P2 + hp)⟩) (Row.new W4 _ _)) (by have := HLN.out; unfold maxLen; omega) (by have := HLN.out; omega) (by rw [World.size_alloc]; have := HB4.out.bs; omega) ?_); intro v6 w6 hown hgrow hat; obtain ⟨A6, c6, rfl, _, _⟩ := hown.shape; have HT6 := hid (grownOnly (S := fun i => vh.ownBlock = some i) hgrow fun g hg => hg); have HBA := hid (HB4.out.ext ((Ext.refl W4).alloc (.cells #[.int .i64 (256 * P2), .int .i64 (256 * (P2 + hp))] 51))); have HP := hid (LayB.put2 HBA.out HT6.out (z := ⟨256 * P2, 256 * (P2 + hp)⟩) (by rw [rowF_append, List.length_append]; exact hown) (fun g e => hat.elim (fun h => .inl (h ▸ e)) (fun ⟨g2, e2, h2⟩ => .inr (by rw [e] at e2; cases e2; exact h2)))); have hl6 := Nat.lt_of_lt_of_le HBA.out.lt HT6.out.size; have hn6 : ¬ vh.ownBlock = some q := (fun e => by have := (HB4.out.o2.lt q e).1; have := HB4.out.qb; omega); have hc6 := (HT6.out.cells q 2 HBA.out.lt hn6).trans HBA.out.c2; have hf6 := (HT6.out.frozens q 2 HBA.out.lt hn6).trans (HBA.out.fz 2 (by decide)); clear hn6; refine hK _ _ ?_; clear hK K hown hgrow hat)
        refine wp_gen (fun W => (∃ v6 : Value, Hid (LayB W q base vc vd v6 vs ⟨T.C ++ [⟨256 * T.pg, 256 * T.pg + dl⟩], T.D ++ [⟨256 * P1, 256 * (P1 + d.data)⟩], T.H ++ [⟨256 * P2, 256 * (P2 + hp)⟩], T.S, 0⟩)) ∧ Hid (Only (fun i => q ≤ i) V W)) ⟨⟨_, HP⟩, hid (Only.setCell (S := fun i => q ≤ i) (Only.trans (HO4.out.alloc _) HT6.out (fun i hi => .inl (by have := (HB4.out.o2.lt i hi).1; have := HB4.out.qb; omega))) (.inl (Nat.le_refl _)) _)⟩ ?_
        clear HP HT6 HBA hl6 hc6 hf6 hcx hqx HB4 HO4
        rintro W6 ⟨⟨vh, HB6⟩, HO6⟩
        have hpl9 := Nat.lt_of_lt_of_le hpl HO6.out.size
        have hp1 := (HO6.out.cells p 1 hpl (by omega)).trans (HR0.out.range 1 _ rfl)
        have HT3 := hid (show layK hp (x.comps.take (k + 1)) = ⟨T.C ++ [⟨256 * T.pg, 256 * T.pg + dl⟩], T.D ++ [⟨256 * P1, 256 * (P1 + d.data)⟩], T.H ++ [⟨256 * P2, 256 * (P2 + hp)⟩], T.S, P2 + hp⟩ by
          rw [HT2.out]
          unfold stp
          rw [hdl, HNP.out, HP1.out, HP2.out]
          simp only [Int.mul_comm _ (256 : Int)])
        go_wp2
        go_roundw
        case rel => exact ⟨k + 1, _, _, _, _, layK hp (x.comps.take (k + 1)), by omega, by go_num, by rw [HT3.out], hid rfl, by rw [HT3.out]; exact HB6, HO6⟩
        case measure => simp [intOf]; omega
      · obtain rfl : m = k := by omega
        have hk1 : ¬ (m : Int) < (m : Int) := by omega
        rw [show x.comps.take m = x.comps from List.take_of_length_le (by rw [HM.out]; exact Nat.le_refl _)] at HT
        obtain ⟨t1, t2, t3, t4, t5, t6⟩ := layK_len hh1 hh2 x.comps HCR.out
        rw [← HT.out] at HLV t4 t5 t6
        replace t6 : T.pg ≤ 500 := by have := HM.out; omega
        have HLS0 := hid (show T.S.length = 0 by rw [t4]; rfl)
        clear t1 t2 t3 t4
        obtain ⟨T0, hT0⟩ : ∃ y, T = y := ⟨_, rfl⟩
        rw [hT0] at HB HLV t5 t6 HLS0 ⊢
        clear hT0 HT
        have hpl9 := Nat.lt_of_lt_of_le hpl HO.out.size
        have hp3 := (HO.out.cells p 3 hpl (by omega)).trans (HR0.out.range 3 _ rfl)
        go_wp2
        clear hp3 hpl9
        go_loopw [4, 7] (fun pg i wr => ∃ (j : Nat) (vs : Value) (T : LayS), j ≤ ms ∧ i = .int .i64 j ∧ pg = .int .i64 T.pg ∧ Hid (T = layS T0 j) ∧ Hid (LayB wr q base vc vd vh vs ⟨T.C, T.D, T.H, T.S, 0⟩) ∧ Hid (Only (fun i => q ≤ i) V wr)) (fun _ i _ => ms - (intOf i).toNat)
        case atStart => exact ⟨0, _, T0, Nat.zero_le _, rfl, rfl, hid rfl, HB, HO⟩
        case round =>
          clear HB HO
          obtain ⟨j, vs, T, hj, rfl, rfl, HT, HB, HO⟩ := hrel
          obtain ⟨l1, l2, _⟩ := layS_len T0 j
          rw [← HT.out] at l1 l2
          have HLS := hid (show T.S.length ≤ 4 by have := HLS0.out; omega)
          have p1 : 0 ≤ T.pg := by omega
          have p2 : T.pg ≤ 1000 := by omega
          clear l1 l2
          have hpl9 := Nat.lt_of_lt_of_le hpl HO.out.size
          have hp5 := (HO.out.cells p 5 hpl (by omega)).trans (HR0.out.range 5 _ rfl)
          by_cases hlt : j < ms
          · have hj1 : (j : Int) < (ms : Int) := by omega
            have hj0 : (0 : Int) ≤ (j : Int) := by omega
            have HT3 := hid (show layS T0 (j + 1) = ⟨T.C, T.D, T.H, T.S ++ [256 * T.pg], T.pg + 1⟩ by rw [HT.out]; show stpS _ = _; unfold stpS; rw [Int.mul_comm _ 256])
            go_upto_region 18 with (fail)
            clear hp5 hpl9
            have hcx := HB.out.c3
            have hqx := HB.out.lt
            go_upto_region 19 with (at_builtin; refine wpList_plain rfl fun K hK => ?_; go_loud (refine wp_app_row int_len (by decide) int_one Try.underlying43 info_intN (.tmp 87) (.tmp 90) rfl base vs T.S.length (rowF intF T.S) rfl (HB.out.o3.ext ((Ext.refl _).alloc _)) (some ⟨wr.heap.size, 0, none⟩) 1 1 [256 * T.pg] rfl rfl (rdF_row0 (f := intF) (z := 256 * T.pg) (Row.new wr _ _)) (by have := HLS.out; unfold maxLen; omega) (by have := HLS.out; omega) (by rw [World.size_alloc]; have := HB.out.bs; omega) ?_); intro v6 w6 hown hgrow hat; obtain ⟨A6, c6, rfl, _, _⟩ := hown.shape; have HT6 := hid (grownOnly (S := fun i => vs.ownBlock = some i) hgrow fun g hg => hg); have HBA := hid (HB.out.ext ((Ext.refl wr).alloc (.cells #[.int .i64 (256 * T.pg)] 3))); have HP := hid (LayB.put3 HBA.out HT6.out (z := 256 * T.pg) (by rw [rowF_append, List.length_append]; exact hown) (fun g e => hat.elim (fun h => .inl (h ▸ e)) (fun ⟨g2, e2, h2⟩ => .inr (by rw [e] at e2; cases e2; exact h2)))); have hl6 := Nat.lt_of_lt_of_le HBA.out.lt HT6.out.size; have hn6 : ¬ vs.ownBlock = some q := (fun e => by have := (HB.out.o3.lt q e).1; have := HB.out.qb; omega); have hc6 := (HT6.out.cells q 3 HBA.out.lt hn6).trans HBA.out.c3; have hf6 := (HT6.out.frozens q 3 HBA.out.lt hn6).trans (HBA.out.fz 3 (by decide)); clear hn6; refine hK _ _ ?_; clear hK K hown hgrow hat)
            refine wp_gen (fun W => (∃ v6 : Value, Hid (LayB W q base vc vd vh v6 ⟨T.C, T.D, T.H, T.S ++ [256 * T.pg], 0⟩)) ∧ Hid (Only (fun i => q ≤ i) V W)) ⟨⟨_, HP⟩, hid (Only.setCell (S := fun i => q ≤ i) (Only.trans (HO.out.alloc _) HT6.out (fun i hi => .inl (by have := (HB.out.o3.lt i hi).1; have := HB.out.qb; omega))) (.inl (Nat.le_refl _)) _)⟩ ?_
            clear HP HT6 HBA hl6 hc6 hf6 hcx hqx HB HO
            rintro W2 ⟨⟨vs, HB2⟩, HO2⟩
            go_wp2
            go_roundw
            case rel => exact ⟨j + 1, _, layS T0 (j + 1), by omega, by go_num, by rw [HT3.out], hid rfl, by rw [HT3.out]; exact HB2, HO2⟩
            case measure => simp [intOf]; omega
          · obtain rfl : j = ms := by omega
            have hj1 : ¬ (j : Int) < (j : Int) := by omega
            obtain ⟨B0, b0, rfl, _, _⟩ := HB.out.o0.shape
            obtain ⟨B1, b1, rfl, _, _⟩ := HB.out.o1.shape
            obtain ⟨B2, b2, rfl, _, _⟩ := HB.out.o2.shape
            obtain ⟨B3, b3, rfl, _, _⟩ := HB.out.o3.shape
            go_upto_region 20 with (fail)
            clear hp5 hpl9
            have x4 := HB.out.c4
            have xl := HB.out.lt
            have xf := HB.out.fz 4 (by decide)
            go_upto_region 21 with (fail)
            refine wp_gen (fun W => Hid (LayB W q base (.slice B0 T.C.length b0) (.slice B1 T.D.length b1) (.slice B2 T.H.length b2) (.slice B3 T.S.length b3) T) ∧ Hid (Only (fun i => q ≤ i) V W)) ⟨hid (HB.out.setPg T.pg), hid (Only.setCell HO.out (.inl (Nat.le_refl _)) _)⟩ ?_
            clear HB HO x4 xl xf
            rintro W9 ⟨HB, HO⟩
            have x0 := HB.out.c0
            have x1 := HB.out.c1
            have x2 := HB.out.c2
            have x3 := HB.out.c3
            have x4 := HB.out.c4
            have xl := HB.out.lt
            have hr1 := HR1.out.only HO.out (by omega)
            have hr1l := hr1.lt
            have y0 := hr1.range 0 _ rfl
            have z0 := hr1.free 0 (by decide)
            have y1 := hr1.range 1 _ rfl
            have z1 := hr1.free 1 (by decide)
            have y2 := hr1.range 2 _ rfl
            have z2 := hr1.free 2 (by decide)
            have y3 := hr1.range 3 _ rfl
            have z3 := hr1.free 3 (by decide)
            have y4 := hr1.range 4 _ rfl
            have z4 := hr1.free 4 (by decide)
            simp only [Nat.zero_add] at y1 y2 y3 y4 z1 z2 z3 z4
            clear hr1
            go_wp2
            refine bodyPost_ret (v := .agg #[.slice B0 T.C.length b0, .slice B1 T.D.length b1, .slice B2 T.H.length b2, .slice B3 T.S.length b3, .int .i64 T.pg]) (by simp [results, Try.results23, go_sem, hr1l, y0, y1, y2, y3, y4]) rfl ?_
            have hLT : LV = T := HLV.out.trans HT.out.symm
            have HX := hid (Only.setCell (S := fun i => i = s1) (Only.setCell (S := fun i => i = s1) (Only.setCell (S := fun i => i = s1) (Only.setCell (S := fun i => i = s1) (Only.setCell (S := fun i => i = s1) (Only.refl (fun i => i = s1) W9) (.inl rfl) (o := 0) (.slice B0 T.C.length b0)) (.inl rfl) (o := 1) (.slice B1 T.D.length b1)) (.inl rfl) (o := 2) (.slice B2 T.H.length b2)) (.inl rfl) (o := 3) (.slice B3 T.S.length b3)) (.inl rfl) (o := 4) (.int .i64 T.pg))
            refine ⟨⟨⟨q, base, _, _, _, _⟩, by rw [hLT], hid ?_⟩, hid ?_⟩
            · rw [hLT]
              exact HB.out.only HX.out (by omega) (fun g e _ e2 => by have := HB.out.qb; omega)
            · exact Ext.only (Ext.only HV.out HO.out (fun i hi => by omega)) HX.out (fun i hi => by omega)

end Go.Proofs.Ytgldlkoohfclpaa
