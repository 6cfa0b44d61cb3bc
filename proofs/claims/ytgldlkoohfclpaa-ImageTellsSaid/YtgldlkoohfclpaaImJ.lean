/- Layer 17: layout. -/
import Derived.Test.YtgldlkoohfclpaaImI
import Derived.Deep.DeepCutAuto
namespace Go.Proofs.Ytgldlkoohfclpaa
set_option linter.unusedSimpArgs false
set_option linter.unusedVariables false
open Go.RowKit

theorem rdF_row0 {α : Type} {f : α → List Value} {z : α} {w : World} {b : Nat} (h : Row w b 0 (f z)) : RdF f w (some ⟨b, 0, none⟩) [z] := fun _ => by
  refine ⟨b, 0, rfl, h.lt, fun j u hj => ?_⟩
  rw [rowF_one] at hj
  exact h.range j u hj
theorem idx2_0 (a b : Int) (w : World) : (Instr.index 51 (.agg #[.int .i64 a, .int .i64 b]) (.int .i64 0)).run Try.prog w = .ok (.int .i64 a) w := by kernel_rfl
attribute [local go_sem] idx2_0
def lnPg (n : Nat) : Int := ((n : Int) + 255) / 256
def stp (hp : Int) (t : LayS) (c : Cmp) : LayS := ⟨t.C ++ [⟨t.pg * 256, t.pg * 256 + c.bl.length⟩], t.D ++ [⟨(t.pg + lnPg c.bl.length) * 256, (t.pg + lnPg c.bl.length + c.data) * 256⟩], t.H ++ [⟨(t.pg + lnPg c.bl.length + c.data) * 256, (t.pg + lnPg c.bl.length + c.data + hp) * 256⟩], t.S, t.pg + lnPg c.bl.length + c.data + hp⟩
def stpS (t : LayS) : LayS := { t with S := t.S ++ [t.pg * 256], pg := t.pg + 1 }
def lay0 : LayS := ⟨[], [], [], [], 1⟩
def layK (hp : Int) (cs : List Cmp) : LayS := cs.foldl (stp hp) lay0
def layS (t : LayS) : Nat → LayS
  | 0 => t
  | n + 1 => stpS (layS t n)
def layV (x : Img) : LayS := layS (layK x.heap x.comps) x.shares.length
theorem layK_snoc (hp : Int) (cs : List Cmp) (c : Cmp) : layK hp (cs ++ [c]) = stp hp (layK hp cs) c := by simp [layK]
def CmR (c : Cmp) : Prop := 4 ≤ c.bl.length ∧ c.bl.length ≤ 4096 ∧ 1 ≤ c.data ∧ c.data ≤ 8
theorem List.reverseRecOn' {α : Type} {p : List α → Prop} (l : List α) (h0 : p []) (h1 : ∀ l a, p l → p (l ++ [a])) : p l := by
  suffices h : ∀ l : List α, p l.reverse by have := h l.reverse; rwa [List.reverse_reverse] at this
  intro l
  induction l with
  | nil => exact h0
  | cons a l ih => rw [List.reverse_cons]; exact h1 _ _ ih
theorem layK_len {hp : Int} (h1 : 1 ≤ hp) (h2 : hp ≤ 64) : ∀ cs : List Cmp, (∀ c ∈ cs, CmR c) → (layK hp cs).C.length = cs.length ∧ (layK hp cs).D.length = cs.length ∧ (layK hp cs).H.length = cs.length ∧ (layK hp cs).S = [] ∧ 1 ≤ (layK hp cs).pg ∧ (layK hp cs).pg ≤ 1 + 100 * cs.length := by
  intro cs
  refine List.reverseRecOn' (p := fun cs => (∀ c ∈ cs, CmR c) → (layK hp cs).C.length = cs.length ∧ (layK hp cs).D.length = cs.length ∧ (layK hp cs).H.length = cs.length ∧ (layK hp cs).S = [] ∧ 1 ≤ (layK hp cs).pg ∧ (layK hp cs).pg ≤ 1 + 100 * cs.length) cs ?_ ?_
  · intro _
    refine ⟨rfl, rfl, rfl, rfl, ?_, ?_⟩ <;> simp [layK, lay0]
  · intro cs c ih hc
    obtain ⟨i1, i2, i3, i4, i5, i6⟩ := ih fun d hd => hc d (by simp [hd])
    obtain ⟨h3, h4, h5, h6⟩ := hc c (by simp)
    rw [layK_snoc]
    unfold stp lnPg
    simp only [List.length_append, List.length_cons, List.length_nil]
    refine ⟨by omega, by omega, by omega, i4, by omega, by omega⟩
theorem layS_len (t : LayS) : ∀ n, (layS t n).S.length = t.S.length + n ∧ (layS t n).pg = t.pg + n ∧ (layS t n).C = t.C ∧ (layS t n).D = t.D ∧ (layS t n).H = t.H
  | 0 => by simp [layS]
  | n + 1 => by
    obtain ⟨a, b, c, d, e⟩ := layS_len t n
    simp only [layS, stpS, List.length_append, List.length_cons, List.length_nil]
    refine ⟨by omega, by omega, c, d, e⟩
set_option maxRecDepth 100000 in
set_option maxHeartbeats 4000000 in
theorem layout_ (x : Img) (w : World) (h : ImgAt w x) (hh : 1 ≤ x.heap ∧ x.heap ≤ 64) (hc : ∀ c ∈ x.comps, CmR c) (hn : x.comps.length ≤ 4) (hs : x.shares.length ≤ 4) : Calls Try.prog 47 #[.agg #[.bool x.strict, .int .i64 x.heap, .int .i64 x.full, .slice x.C x.comps.length x.cc, .slice x.L x.links.length x.lc, .slice x.S x.shares.length x.sc]] w fun e w' => ∃ q base vc vd vh vs, e = .returned (.agg #[vc, vd, vh, vs, .int .i64 (layV x).pg]) ∧ Hid (LayB w' q base vc vd vh vs (layV x)) ∧ Hid (Ext w w') ∧ w.heap.size < q := by
  have HI := hid h
  have HCR := hid hc
  obtain ⟨m, hm⟩ : ∃ y, x.comps.length = y := ⟨_, rfl⟩
  obtain ⟨ms, hms⟩ : ∃ y, x.shares.length = y := ⟨_, rfl⟩
  have HLV := hid (show layV x = layS (layK x.heap x.comps) ms by unfold layV; rw [hms])
  obtain ⟨LV, hLV⟩ : ∃ y, layV x = y := ⟨_, rfl⟩
  obtain ⟨hp, hhp⟩ : ∃ y, x.heap = y := ⟨_, rfl⟩
  have HM := hid hm
  rw [hLV] at HLV ⊢
  rw [hhp] at hh HLV
  rw [hm] at hn
  rw [hms] at hs
  obtain ⟨Ca, hCa⟩ : ∃ y, x.C = y := ⟨_, rfl⟩
  have HCC := hid (show RdF Cmp.cells w Ca x.comps by rw [← hCa]; exact h.c)
  rw [hm, hms, hhp, hCa]
  obtain ⟨hh1, hh2⟩ := hh
  clear hCa
  clear h hc hLV hm hms
  go_enter Try.func47, Try.ntmps47
  go_upto_region 3 with (fail)
  refine wp_gen (fun V => Hid (Ext w V) ∧ Hid (LayB V (w.heap.size + 1 + 1) (w.heap.size + 1 + 1 + 1) (.slice none 0 0) (.slice none 0 0) (.slice none 0 0) (.slice none 0 0) lay0) ∧ Hid (Row V w.heap.size 0 [.bool x.strict, .int .i64 hp, .int .i64 x.full, .slice Ca m x.cc, .slice x.L x.links.length x.lc, .slice x.S ms x.sc]) ∧ Hid (Row V (w.heap.size + 1) 0 [.slice none 0 0, .slice none 0 0, .slice none 0 0, .slice none 0 0, .int .i64 0])) ⟨hid (by repeat (first | (with_reducible exact Ext.refl _) | (with_reducible refine Ext.undrew ?_) | (with_reducible refine Ext.grow ?_ _) | (with_reducible refine Ext.drew ?_) | (with_reducible refine Ext.drewN ?_ _) | (with_reducible refine Ext.alloc ?_ _) | (with_reducible assumption) | ((with_reducible refine Ext.setCell ?_ ?_ _); rotate_left; (first | exact Nat.le_refl _ | ((try dsimp only); (try simp only [World.size_alloc, grow_size, World.size_setCell]); omega))))), hid ?_, hid ?_, hid ?_⟩ ?_
  · exact { lt := by simp, qb := by omega, bs := by simp, c0 := by simp [go_sem], c1 := by simp [go_sem], c2 := by simp [go_sem], c3 := by simp [go_sem], c4 := by simp [go_sem, lay0], fz := fun k hk => by simp [go_sem], o0 := ownsAt_nil _ _ _ _, o1 := ownsAt_nil _ _ _ _, o2 := ownsAt_nil _ _ _ _, o3 := ownsAt_nil _ _ _ _, a01 := fun g e => by simp [Value.ownBlock] at e, a02 := fun g e => by simp [Value.ownBlock] at e, a03 := fun g e => by simp [Value.ownBlock] at e, a12 := fun g e => by simp [Value.ownBlock] at e, a13 := fun g e => by simp [Value.ownBlock] at e, a23 := fun g e => by simp [Value.ownBlock] at e }
  · exact (Row.new w _ _).ext (Ext.trans ((Ext.refl _).alloc _) ((Ext.refl _).alloc _))
  · have h9 := Row.new (w.alloc (.cells #[.bool x.strict, .int .i64 hp, .int .i64 x.full, .slice Ca m x.cc, .slice x.L x.links.length x.lc, .slice x.S ms x.sc] 26)) #[.slice none 0 0, .slice none 0 0, .slice none 0 0, .slice none 0 0, .int .i64 0] 45
    rw [World.size_alloc] at h9
    exact h9.ext ((Ext.refl _).alloc _)
  rintro V ⟨HV, HB0, HR0, HR1⟩
  obtain ⟨p, hp0⟩ : ∃ y, w.heap.size = y := ⟨_, rfl⟩
  rw [hp0] at HB0 HR0 HR1 ⊢
  obtain ⟨q, hq⟩ : ∃ y, p + 1 + 1 = y := ⟨_, rfl⟩
  have hpq : p + 1 < q := by omega
  rw [hq] at HB0 ⊢
  obtain ⟨base, hbase⟩ : ∃ y, q + 1 = y := ⟨_, rfl⟩
  rw [hbase] at HB0
  have hwq : w.heap.size < q := by omega
  have hwp : w.heap.size ≤ p := by omega
  clear hq hp0 hbase
  have h1 := HR0.out.range 1 _ rfl
  have h3 := HR0.out.range 3 _ rfl
  have hpl := HR0.out.lt
  simp only [Nat.zero_add] at h1 h3
  go_wp2
  clear h1 h3
  go_loopw [13] (fun i wr => ∃ (k : Nat) (vc vd vh vs : Value) (T : LayS), k ≤ m ∧ i = .int .i64 k ∧ Hid (T = layK hp (x.comps.take k)) ∧ Hid (LayB wr q base vc vd vh vs T) ∧ Hid (Only (fun i => q ≤ i) V wr)) (fun i _ => m - (intOf i).toNat)
  case atStart => exact ⟨0, _, _, _, _, _, Nat.zero_le _, rfl, hid rfl, HB0, hid (Only.refl _ _)⟩
  case round =>
    obtain ⟨k, vc, vd, vh, vs, T, hk, rfl, HT, HB, HO⟩ := hrel
    have HEW := hid (Ext.only HV.out HO.out (fun i hi => by omega))
    have hl := HO.out.size
    by_cases hlt : k < m
    · have hk1 : (k : Int) < (m : Int) := by omega
      have hk0 : (0 : Int) ≤ (k : Int) := by omega
      have hkl : k < x.comps.length := by rw [HM.out]; exact hlt
      obtain ⟨d, hd⟩ : ∃ d, x.comps[k] = d := ⟨_, rfl⟩
      have HT2 := hid (show layK hp (x.comps.take (k + 1)) = stp hp T d by rw [List.take_succ_eq_append_getElem hkl, hd, layK_snoc, HT.out])
      obtain ⟨g1, g2, g3, g4⟩ := HCR.out d (hd ▸ List.getElem_mem _)
      obtain ⟨t1, t2, t3, t4, t5, t6⟩ := layK_len hh1 hh2 (x.comps.take k) (fun c hc => HCR.out c (List.mem_of_mem_take hc))
      rw [← HT.out, List.length_take] at t1 t2 t3 t6
      rw [← HT.out] at t4 t5
      have HLN := hid (show T.C.length ≤ 4 ∧ T.D.length ≤ 4 ∧ T.H.length ≤ 4 by omega)
      replace t6 : T.pg ≤ 1000 := by omega
      obtain ⟨b', o', eA, hb1, hrg⟩ := (HCC.out.ext HEW.out).elem cmp_len hkl d hd
      have e0 := hrg 0 _ rfl
      have e1 := hrg 1 _ rfl
      simp only [Nat.add_zero] at e0
      subst eA
      clear hd hrg t1 t2 t3 t4
      obtain ⟨dl, hdl⟩ : ∃ y, d.bl.length = y := ⟨_, rfl⟩
      rw [hdl] at e0 g1 g2
      go_upto_region 6 with (fail)
      refine wp_gen (fun W => Hid (Ext wr W) ∧ Hid (LayB W q base vc vd vh vs T) ∧ wr.heap.size < W.heap.size ∧ W.cell? ⟨wr.heap.size, 0, none⟩ = some (.slice d.A dl d.ca) ∧ W.cell? ⟨wr.heap.size, 1, none⟩ = some (.int .i64 d.data)) ⟨hid (by repeat (first | (with_reducible exact Ext.refl _) | (with_reducible refine Ext.undrew ?_) | (with_reducible refine Ext.grow ?_ _) | (with_reducible refine Ext.drew ?_) | (with_reducible refine Ext.drewN ?_ _) | (with_reducible refine Ext.alloc ?_ _) | (with_reducible assumption) | ((with_reducible refine Ext.setCell ?_ ?_ _); rotate_left; (first | exact Nat.le_refl _ | ((try dsimp only); (try simp only [World.size_alloc, grow_size, World.size_setCell]); omega))))), hid (HB.out.ext ((Ext.refl _).alloc _)), by simp, by simp [go_sem], by simp [go_sem]⟩ ?_
      rintro W1 ⟨HE1, HB1, hgl, hg0, hg1⟩
      have HNO := hid (show ∀ v', v' = vc ∨ v' = vd ∨ v' = vh → v'.ownBlock ≠ some wr.heap.size from fun v' hv e => by
        rcases hv with rfl | rfl | rfl
        · have := (HB.out.o0.lt _ e).2; omega
        · have := (HB.out.o1.lt _ e).2; omega
        · have := (HB.out.o2.lt _ e).2; omega)
      have HO1 := hid (HO.out.transExt HE1.out)
      have hgq : q < wr.heap.size := HB.out.lt
      obtain ⟨g, hg⟩ : ∃ y, wr.heap.size = y := ⟨_, rfl⟩
      rw [hg] at hgl hg0 hg1 HNO hgq ⊢
      have HGX := hid (show g = wr.heap.size from hg.symm)
      clear e0 e1 hg HO HE1
      obtain ⟨np, hnp⟩ : ∃ y : Int, lnPg dl = y := ⟨_, rfl⟩
      have hn0 : ((dl : Int) + 255) / 256 = np := hnp
      have hn1 : 0 ≤ np := by omega
      have hn2 : np ≤ 16 := by omega
      have HTK := hid (take_ W1 q base vc vd vh vs T np HB1.out (by omega) (by omega) hn1 (by omega))
      rw [show (Value.int .i64 np) = .int .i64 (((dl : Int) + 256 - 1) / 256) by rw [show ((dl : Int) + 256 - 1) / 256 = np by rw [← hn0]; congr 1; omega]] at HTK
      have HNP := hid hnp
      clear hnp hn0
      go_wp2_with fail
      refine HTK.out.mono ?_
      rintro e V2 ⟨rfl, HB2, HT2⟩
      have hq0 := (HT2.out.cells g 0 hgl (by omega)).trans hg0
      have hq1 := (HT2.out.cells g 1 hgl (by omega)).trans hg1
      have hql := Nat.lt_of_lt_of_le hgl HT2.out.size
      have HO2 := hid (Only.trans HO1.out HT2.out (fun i hi => .inl (by omega)))
      have hc2 := HB2.out.c0
      go_upto_region 8 with (at_builtin; refine wpList_plain rfl fun K hK => ?_; go_loud (refine wp_app_row sp_len (by decide) sp_one Try.underlying42 info_sp (.tmp 27) (.tmp 35) rfl base vc T.C.length (rowF SpF T.C) rfl (HB2.out.o0.ext ((Ext.refl _).alloc _)) (some ⟨V2.heap.size, 0, none⟩) 1 1 [⟨T.pg * 256, T.pg * 256 + dl⟩] rfl rfl (rdF_row0 (f := SpF) (z := ⟨T.pg * 256, T.pg * 256 + dl⟩) (Row.new V2 _ _)) (by have := HLN.out; unfold maxLen; omega) (by have := HLN.out; omega) (by rw [World.size_alloc]; have := HB2.out.bs; omega) ?_); intro v6 w6 hown hgrow hat; obtain ⟨A6, c6, rfl, _, _⟩ := hown.shape; have HT6 := hid (grownOnly (S := fun i => vc.ownBlock = some i) hgrow fun g hg => hg); have HB2A := hid (HB2.out.ext ((Ext.refl V2).alloc (.cells #[.int .i64 (T.pg * 256), .int .i64 (T.pg * 256 + dl)] 51))); have HP := hid (LayB.put0 HB2A.out HT6.out (z := ⟨T.pg * 256, T.pg * 256 + dl⟩) (by rw [rowF_append, List.length_append]; exact hown) (fun g e => hat.elim (fun h => .inl (h ▸ e)) (fun ⟨g2, e2, h2⟩ => .inr (by rw [e] at e2; cases e2; exact h2)))); have hl6 := Nat.lt_of_lt_of_le HB2A.out.lt HT6.out.size; have hn6 : ¬ vc.ownBlock = some q := (fun e => by have := (HB2.out.o0.lt q e).1; have := HB2.out.qb; omega); have hc6 := (HT6.out.cells q 0 HB2A.out.lt hn6).trans HB2A.out.c0; have hf6 := (HT6.out.frozens q 0 HB2A.out.lt hn6).trans (HB2A.out.fz 0 (by decide)); clear hn6; refine hK _ _ ?_; clear hK K hown hgrow hat)
      refine wp_gen (fun W => Hid (LayB W q base (.slice A6 (T.C.length + 1) c6) vd vh vs ⟨T.C ++ [⟨T.pg * 256, T.pg * 256 + dl⟩], T.D, T.H, T.S, T.pg + np⟩) ∧ Hid (Only (fun i => q ≤ i) V W) ∧ g < W.heap.size ∧ W.cell? ⟨g, 0, none⟩ = some (.slice d.A dl d.ca) ∧ W.cell? ⟨g, 1, none⟩ = some (.int .i64 d.data)) ⟨HP, hid (Only.setCell (S := fun i => q ≤ i) (Only.trans (HO2.out.alloc _) HT6.out (fun i hi => .inl (by have := (HB2.out.o0.lt i hi).1; have := HB2.out.qb; omega))) (.inl (Nat.le_refl _)) _), ?_, ?_, ?_⟩ ?_
      · rw [World.size_setCell]; exact Nat.lt_of_lt_of_le (by rw [World.size_alloc]; omega) HT6.out.size
      · have hx := (HT6.out.cells g 0 (by rw [World.size_alloc]; omega) (HNO.out vc (.inl rfl))).trans ((((Ext.refl V2).alloc _).cells g 0 hql).trans hq0)
        have hne : ¬ q = g := by omega
        simp [go_sem, hx, hne]
      · have hx := (HT6.out.cells g 1 (by rw [World.size_alloc]; omega) (HNO.out vc (.inl rfl))).trans ((((Ext.refl V2).alloc _).cells g 1 hql).trans hq1)
        have hne : ¬ q = g := by omega
        simp [go_sem, hx, hne]
      rintro W4 ⟨HB4, HO4, hl4, hg40, hg41⟩
      clear HP HT6 HB2A hl6 hc6 hf6 hq0 hq1 hql HO2 hc2 HB2 HT2 HTK HB1 HO1 hgl hg0 hg1
      go_cut [] (fun wx => ∃ v6 : Value, Hid (LayB wx q base (.slice A6 (T.C.length + 1) c6) v6 vh vs ⟨T.C ++ [⟨T.pg * 256, T.pg * 256 + dl⟩], T.D ++ [⟨(T.pg + np) * 256, (T.pg + np + d.data) * 256⟩], T.H, T.S, T.pg + np + d.data⟩) ∧ Hid (Only (fun i => q ≤ i) V wx))
      case first =>
        refine wp_region_only (S := (fun i => i = q ∨ vd.ownBlock = some i)) (.rd 0 (.rd 2 (.rd 3 (.rd 4 (.br 1 (.ac 5 (.ac 6 (.ac 7 (.rd 8 (.ac 9 .done))))) 5 (.br 1 (.ac 6 (.ac 7 (.rd 8 (.ac 9 .done)))) 6 (.ac 1 (.ac 7 (.rd 8 (.ac 9 .done)))))))))) (by kernel_rfl) (by kernel_rfl) (fun _ _ d _ _ h => by cases d <;> exact h) (by simp only [Ord.map, nthOp, List.append]; rfl) ?_
        intro d1
        have HBg := hid (HB4.out.ext (Ext.grow (Ext.refl W4) d1))
        have HOg := hid (HO4.out.grow d1)
        have hlg := Nat.lt_of_lt_of_le hl4 (Ext.grow (Ext.refl W4) d1).size
        have hgg := ((Ext.grow (Ext.refl W4) d1).cells g 1 hl4).trans hg41
        generalize Go.Proofs.Ytgldlkoohfclpaa.grow W4 d1 = W5 at HBg HOg hlg hgg ⊢
        have HS0 := hid (Only.refl (fun i => i = q ∨ vd.ownBlock = some i) W5)
        refine only_read (by rfl) (fun K hK => ?_)
        refine quiet_runD 38 rfl (.pointer (some ⟨q, 1, none⟩)) (fun w => by kernel_rfl) ?_
        refine hK _ ?_
        clear hK K
        simp only [Act.put, List.setIfInBounds_toArray, List.set_cons_zero, List.set_cons_succ]
        refine only_read (by rfl) (fun K hK => ?_)
        go_big_quiet_op
        refine hK _ ?_
        clear hK K
        refine only_read (by rfl) (fun K hK => ?_)
        refine quiet_runD 41 rfl (.pointer (some ⟨g, 1, none⟩)) (fun w => by kernel_rfl) ?_
        refine hK _ ?_
        clear hK K
        simp only [Act.put, List.setIfInBounds_toArray, List.set_cons_zero, List.set_cons_succ]
        refine only_read (by rfl) (fun K hK => ?_)
        refine quiet_load1 3 (.tmp 41) rfl (g) (1) rfl (.int .i64 d.data) _ (fun w' hw' => (hw'.cells g 1 hlg (fun e => e.elim (fun e => by omega) (HNO.out vd (.inr (.inl rfl))))).trans hgg) Try.underlying3 rfl ?_
        refine hK _ ?_
        clear hK K
        simp only [Act.put, List.setIfInBounds_toArray, List.set_cons_zero, List.set_cons_succ]
        refine only_br ?_ ?_
        · refine only_act (by rfl) (fun K hK => ?_)
          have hcx := HBg.out.c1
          go_wp2_with fail
          refine ⟨_, Only.refl _ _, HS0.out, ?_⟩
          clear hcx
          refine only_act (by rfl) (fun K hK => ?_)
          go_wp2_with (go_at_call 76; refine (take_ W5 q base _ _ _ _ _ d.data HBg.out (by show _ ≤ T.pg + np; omega) (by show T.pg + np ≤ _; omega) (by omega) (by omega)).mono ?_; rintro e V1 ⟨rfl, HB1, HT1⟩)
          have HS1 := hid (Only.trans HS0.out HT1.out (fun i hi => .inl (.inl hi)))
          refine ⟨_, Only.refl _ _, HS1.out, ?_⟩
          refine only_act (by rfl) (fun K hK => ?_)
          refine wp_build1 42 51 (.tmp 43) rfl #[.int .i64 ((T.pg + np) * 256), .int .i64 ((T.pg + np + d.data) * 256)] 2 rfl rfl (by omega) (by omega) Try.underlying42 (by kernel_rfl) (by kernel_rfl) ?_
          refine hK _ _ ⟨_, Only.refl _ _, Only.alloc HS1.out _, ?_⟩
          refine only_gen (fun W => Hid (Ext V1 W) ∧ Hid (Row W V1.heap.size 0 [.int .i64 ((T.pg + np) * 256), .int .i64 ((T.pg + np + d.data) * 256)])) ⟨hid ((Ext.refl _).alloc _), hid (Row.new V1 _ _)⟩ ?_
          rintro V2 ⟨hE2, hR2⟩
          have HB2 := hid (HB1.out.ext hE2.out)
          have HS2 := hid (HS1.out.transExt hE2.out)
          refine only_act (by rfl) (fun K hK => ?_)
          refine wp_app_row sp_len (by decide) sp_one Try.underlying42 info_sp (.tmp 39) (.tmp 44) rfl base vd T.D.length (rowF SpF T.D) rfl HB2.out.o1 (some ⟨V1.heap.size, 0, none⟩) 1 1 [⟨(T.pg + np) * 256, (T.pg + np + d.data) * 256⟩] rfl rfl (rdF_row0 (f := SpF) (z := ⟨(T.pg + np) * 256, (T.pg + np + d.data) * 256⟩) hR2.out) (by have := HLN.out; unfold maxLen; omega) (by have := HLN.out; omega) HB2.out.bs ?_
          intro v6 w6 hown6 hgrow hat
          obtain ⟨A6, c6, hv6, _, _⟩ := hown6.shape
          subst hv6
          have HT6 : Hid (Only (fun i => vd.ownBlock = some i) V2 w6) := hid (grownOnly hgrow fun g hg => hg)
          have HS6 := hid (Only.trans HS2.out HT6.out (fun i hi => .inl (.inr hi)))
          have HPUT := hid (LayB.put1 HB2.out HT6.out (z := ⟨(T.pg + np) * 256, (T.pg + np + d.data) * 256⟩) (by rw [rowF_append, List.length_append]; exact hown6) (fun g e => hat.elim (fun h => .inl (h ▸ e)) (fun ⟨g2, e2, h2⟩ => .inr (by rw [e] at e2; cases e2; exact h2))))
          have hc6 := (HT6.out.cells q 1 HB2.out.lt (fun e => by have := (HB2.out.o1.lt q e).1; have := HB2.out.qb; omega)).trans HB2.out.c1
          have hf6 := (HT6.out.frozens q 1 HB2.out.lt (fun e => by have := (HB2.out.o1.lt q e).1; have := HB2.out.qb; omega)).trans (HB2.out.fz 1 (by decide))
          have hl6 := Nat.lt_of_lt_of_le HB2.out.lt HT6.out.size
          refine hK _ _ ⟨_, Only.refl _ _, HS6.out, ?_⟩
          clear hK K hgrow hat hown6
          simp only [Act.put, List.setIfInBounds_toArray, List.set_cons_zero, List.set_cons_succ]
          refine only_read (by rfl) (fun K hK => ?_)
          refine quiet_runD 46 rfl (.pointer (some ⟨q, 1, none⟩)) (fun w => by kernel_rfl) ?_
          refine hK _ ?_
          clear hK K
          simp only [Act.put, List.setIfInBounds_toArray, List.set_cons_zero, List.set_cons_succ]
          refine only_act (by rfl) (fun K hK => ?_)
          go_wp2_with fail
          refine ⟨_, Only.refl _ _, Only.setCell HS6.out (.inl (.inl rfl)) _, ?_⟩
          refine only_nil ?_
          go_wp2_with fail
          go_meet
          exact ⟨_, HPUT, hid (Only.setCell (S := fun i => q ≤ i) (Only.trans HOg.out HS6.out (fun i hi => .inl (by rcases hi with rfl | hi; exact Nat.le_refl _; have := (HBg.out.o1.lt i hi).1; have := HBg.out.qb; omega))) (.inl (Nat.le_refl _)) _)⟩
        · refine only_act (by rfl) (fun K hK => ?_)
          go_wp2_with (go_at_call 76; refine (take_ W5 q base _ _ _ _ _ d.data HBg.out (by show _ ≤ T.pg + np; omega) (by show T.pg + np ≤ _; omega) (by omega) (by omega)).mono ?_; rintro e V1 ⟨rfl, HB1, HT1⟩)
          have HS1 := hid (Only.trans HS0.out HT1.out (fun i hi => .inl (.inl hi)))
          refine ⟨_, Only.refl _ _, HS1.out, ?_⟩
          refine only_br ?_ ?_
          · refine only_act (by rfl) (fun K hK => ?_)
            have hcx := HB1.out.c1
            go_wp2_with fail
            refine ⟨_, Only.refl _ _, HS1.out, ?_⟩
            clear hcx
            refine only_act (by rfl) (fun K hK => ?_)
            refine wp_build1 42 51 (.tmp 43) rfl #[.int .i64 ((T.pg + np) * 256), .int .i64 ((T.pg + np + d.data) * 256)] 2 rfl rfl (by omega) (by omega) Try.underlying42 (by kernel_rfl) (by kernel_rfl) ?_
            refine hK _ _ ⟨_, Only.refl _ _, Only.alloc HS1.out _, ?_⟩
            refine only_gen (fun W => Hid (Ext V1 W) ∧ Hid (Row W V1.heap.size 0 [.int .i64 ((T.pg + np) * 256), .int .i64 ((T.pg + np + d.data) * 256)])) ⟨hid ((Ext.refl _).alloc _), hid (Row.new V1 _ _)⟩ ?_
            rintro V2 ⟨hE2, hR2⟩
            have HB2 := hid (HB1.out.ext hE2.out)
            have HS2 := hid (HS1.out.transExt hE2.out)
            refine only_act (by rfl) (fun K hK => ?_)
            refine wp_app_row sp_len (by decide) sp_one Try.underlying42 info_sp (.tmp 39) (.tmp 44) rfl base vd T.D.length (rowF SpF T.D) rfl HB2.out.o1 (some ⟨V1.heap.size, 0, none⟩) 1 1 [⟨(T.pg + np) * 256, (T.pg + np + d.data) * 256⟩] rfl rfl (rdF_row0 (f := SpF) (z := ⟨(T.pg + np) * 256, (T.pg + np + d.data) * 256⟩) hR2.out) (by have := HLN.out; unfold maxLen; omega) (by have := HLN.out; omega) HB2.out.bs ?_
            intro v6 w6 hown6 hgrow hat
            obtain ⟨A6, c6, hv6, _, _⟩ := hown6.shape
            subst hv6
            have HT6 : Hid (Only (fun i => vd.ownBlock = some i) V2 w6) := hid (grownOnly hgrow fun g hg => hg)
            have HS6 := hid (Only.trans HS2.out HT6.out (fun i hi => .inl (.inr hi)))
            have HPUT := hid (LayB.put1 HB2.out HT6.out (z := ⟨(T.pg + np) * 256, (T.pg + np + d.data) * 256⟩) (by rw [rowF_append, List.length_append]; exact hown6) (fun g e => hat.elim (fun h => .inl (h ▸ e)) (fun ⟨g2, e2, h2⟩ => .inr (by rw [e] at e2; cases e2; exact h2))))
            have hc6 := (HT6.out.cells q 1 HB2.out.lt (fun e => by have := (HB2.out.o1.lt q e).1; have := HB2.out.qb; omega)).trans HB2.out.c1
            have hf6 := (HT6.out.frozens q 1 HB2.out.lt (fun e => by have := (HB2.out.o1.lt q e).1; have := HB2.out.qb; omega)).trans (HB2.out.fz 1 (by decide))
            have hl6 := Nat.lt_of_lt_of_le HB2.out.lt HT6.out.size
            refine hK _ _ ⟨_, Only.refl _ _, HS6.out, ?_⟩
            clear hK K hgrow hat hown6
            simp only [Act.put, List.setIfInBounds_toArray, List.set_cons_zero, List.set_cons_succ]
            refine only_read (by rfl) (fun K hK => ?_)
            refine quiet_runD 46 rfl (.pointer (some ⟨q, 1, none⟩)) (fun w => by kernel_rfl) ?_
            refine hK _ ?_
            clear hK K
            simp only [Act.put, List.setIfInBounds_toArray, List.set_cons_zero, List.set_cons_succ]
            refine only_act (by rfl) (fun K hK => ?_)
            go_wp2_with fail
            refine ⟨_, Only.refl _ _, Only.setCell HS6.out (.inl (.inl rfl)) _, ?_⟩
            refine only_nil ?_
            go_wp2_with fail
            go_meet
            exact ⟨_, HPUT, hid (Only.setCell (S := fun i => q ≤ i) (Only.trans HOg.out HS6.out (fun i hi => .inl (by rcases hi with rfl | hi; exact Nat.le_refl _; have := (HBg.out.o1.lt i hi).1; have := HBg.out.qb; omega))) (.inl (Nat.le_refl _)) _)⟩
          · refine only_act (by rfl) (fun K hK => ?_)
            refine wp_build1 42 51 (.tmp 43) rfl #[.int .i64 ((T.pg + np) * 256), .int .i64 ((T.pg + np + d.data) * 256)] 2 rfl rfl (by omega) (by omega) Try.underlying42 (by kernel_rfl) (by kernel_rfl) ?_
            refine hK _ _ ⟨_, Only.refl _ _, Only.alloc HS1.out _, ?_⟩
            refine only_gen (fun W => Hid (Ext V1 W) ∧ Hid (Row W V1.heap.size 0 [.int .i64 ((T.pg + np) * 256), .int .i64 ((T.pg + np + d.data) * 256)])) ⟨hid ((Ext.refl _).alloc _), hid (Row.new V1 _ _)⟩ ?_
            rintro V2 ⟨hE2, hR2⟩
            have HB2 := hid (HB1.out.ext hE2.out)
            have HS2 := hid (HS1.out.transExt hE2.out)
            refine only_act (by rfl) (fun K hK => ?_)
            have hcx := HB2.out.c1
            go_wp2_with fail
            refine ⟨_, Only.refl _ _, HS2.out, ?_⟩
            clear hcx
            refine only_act (by rfl) (fun K hK => ?_)
            refine wp_app_row sp_len (by decide) sp_one Try.underlying42 info_sp (.tmp 39) (.tmp 44) rfl base vd T.D.length (rowF SpF T.D) rfl HB2.out.o1 (some ⟨V1.heap.size, 0, none⟩) 1 1 [⟨(T.pg + np) * 256, (T.pg + np + d.data) * 256⟩] rfl rfl (rdF_row0 (f := SpF) (z := ⟨(T.pg + np) * 256, (T.pg + np + d.data) * 256⟩) hR2.out) (by have := HLN.out; unfold maxLen; omega) (by have := HLN.out; omega) HB2.out.bs ?_
            intro v6 w6 hown6 hgrow hat
            obtain ⟨A6, c6, hv6, _, _⟩ := hown6.shape
            subst hv6
            have HT6 : Hid (Only (fun i => vd.ownBlock = some i) V2 w6) := hid (grownOnly hgrow fun g hg => hg)
            have HS6 := hid (Only.trans HS2.out HT6.out (fun i hi => .inl (.inr hi)))
            have HPUT := hid (LayB.put1 HB2.out HT6.out (z := ⟨(T.pg + np) * 256, (T.pg + np + d.data) * 256⟩) (by rw [rowF_append, List.length_append]; exact hown6) (fun g e => hat.elim (fun h => .inl (h ▸ e)) (fun ⟨g2, e2, h2⟩ => .inr (by rw [e] at e2; cases e2; exact h2))))
            have hc6 := (HT6.out.cells q 1 HB2.out.lt (fun e => by have := (HB2.out.o1.lt q e).1; have := HB2.out.qb; omega)).trans HB2.out.c1
            have hf6 := (HT6.out.frozens q 1 HB2.out.lt (fun e => by have := (HB2.out.o1.lt q e).1; have := HB2.out.qb; omega)).trans (HB2.out.fz 1 (by decide))
            have hl6 := Nat.lt_of_lt_of_le HB2.out.lt HT6.out.size
            refine hK _ _ ⟨_, Only.refl _ _, HS6.out, ?_⟩
            clear hK K hgrow hat hown6
            simp only [Act.put, List.setIfInBounds_toArray, List.set_cons_zero, List.set_cons_succ]
            refine only_read (by rfl) (fun K hK => ?_)
            refine quiet_runD 46 rfl (.pointer (some ⟨q, 1, none⟩)) (fun w => by kernel_rfl) ?_
            refine hK _ ?_
            clear hK K
            simp only [Act.put, List.setIfInBounds_toArray, List.set_cons_zero, List.set_cons_succ]
            refine only_act (by rfl) (fun K hK => ?_)
            go_wp2_with fail
            refine ⟨_, Only.refl _ _, Only.setCell HS6.out (.inl (.inl rfl)) _, ?_⟩
            refine only_nil ?_
            go_wp2_with fail
            go_meet
            exact ⟨_, HPUT, hid (Only.setCell (S := fun i => q ≤ i) (Only.trans HOg.out HS6.out (fun i hi => .inl (by rcases hi with rfl | hi; exact Nat.le_refl _; have := (HBg.out.o1.lt i hi).1; have := HBg.out.qb; omega))) (.inl (Nat.le_refl _)) _)⟩
      case rest =>
        obtain ⟨v7, HB5, HO5⟩ := hcut
        have hl5 := Nat.lt_of_lt_of_le hpl HO5.out.size
        have hg51 := (HO5.out.cells p 1 hpl (by omega)).trans (HR0.out.range 1 _ rfl)
        go_upto_region 9 with (fail)
        have HT3 := hid (show layK hp (x.comps.take (k + 1)) = ⟨T.C ++ [⟨T.pg * 256, T.pg * 256 + dl⟩], T.D ++ [⟨(T.pg + np) * 256, (T.pg + np + d.data) * 256⟩], T.H ++ [⟨(T.pg + np + d.data) * 256, (T.pg + np + d.data + hp) * 256⟩], T.S, T.pg + np + d.data + hp⟩ by rw [HT2.out]; unfold stp; rw [hdl, HNP.out])
        clear HB4 HO4 hl4 hg40 hg41
        refine wp_region_only (S := (fun i => i = q ∨ vh.ownBlock = some i)) (.rd 0 (.rd 2 (.rd 3 (.rd 4 (.br 1 (.ac 5 (.ac 6 (.ac 7 (.rd 8 (.ac 9 .done))))) 5 (.br 1 (.ac 6 (.ac 7 (.rd 8 (.ac 9 .done)))) 6 (.ac 1 (.ac 7 (.rd 8 (.ac 9 .done)))))))))) (by kernel_rfl) (by kernel_rfl) (fun _ _ d _ _ h => by cases d <;> exact h) (by simp only [Ord.map, nthOp, List.append]; rfl) ?_
        intro d1
        have HBg := hid (HB5.out.ext (Ext.grow (Ext.refl wc) d1))
        have HOg := hid (HO5.out.grow d1)
        have hlg := Nat.lt_of_lt_of_le hl5 (Ext.grow (Ext.refl wc) d1).size
        have hgg := ((Ext.grow (Ext.refl wc) d1).cells p 1 hl5).trans hg51
        generalize Go.Proofs.Ytgldlkoohfclpaa.grow wc d1 = W5 at HBg HOg hlg hgg ⊢
        have HS0 := hid (Only.refl (fun i => i = q ∨ vh.ownBlock = some i) W5)
        refine only_read (by rfl) (fun K hK => ?_)
        refine quiet_runD 47 rfl (.pointer (some ⟨q, 2, none⟩)) (fun w => by kernel_rfl) ?_
        refine hK _ ?_
        clear hK K
        simp only [Act.put, List.setIfInBounds_toArray, List.set_cons_zero, List.set_cons_succ]
        refine only_read (by rfl) (fun K hK => ?_)
        go_big_quiet_op
        refine hK _ ?_
        clear hK K
        refine only_read (by rfl) (fun K hK => ?_)
        refine quiet_runD 50 rfl (.pointer (some ⟨p, 1, none⟩)) (fun w => by kernel_rfl) ?_
        refine hK _ ?_
        clear hK K
        simp only [Act.put, List.setIfInBounds_toArray, List.set_cons_zero, List.set_cons_succ]
        refine only_read (by rfl) (fun K hK => ?_)
        refine quiet_load1 3 (.tmp 50) rfl (p) (1) rfl (.int .i64 hp) _ (fun w' hw' => (hw'.cells p 1 hlg (fun e => e.elim (fun e => by omega) (fun e => by have := (HB5.out.o2.lt p e).1; have := HB5.out.qb; omega))).trans hgg) Try.underlying3 rfl ?_
        refine hK _ ?_
        clear hK K
        simp only [Act.put, List.setIfInBounds_toArray, List.set_cons_zero, List.set_cons_succ]
        refine only_br ?_ ?_
        · refine only_act (by rfl) (fun K hK => ?_)
          have hcx := HBg.out.c2
          go_wp2_with fail
          refine ⟨_, Only.refl _ _, HS0.out, ?_⟩
          clear hcx
          refine only_act (by rfl) (fun K hK => ?_)
          go_wp2_with (go_at_call 76; refine (take_ W5 q base _ _ _ _ _ hp HBg.out (by show _ ≤ T.pg + np + d.data; omega) (by show T.pg + np + d.data ≤ _; omega) (by omega) (by omega)).mono ?_; rintro e V1 ⟨rfl, HB1, HT1⟩)
          have HS1 := hid (Only.trans HS0.out HT1.out (fun i hi => .inl (.inl hi)))
          refine ⟨_, Only.refl _ _, HS1.out, ?_⟩
          refine only_act (by rfl) (fun K hK => ?_)
          refine wp_build1 42 51 (.tmp 52) rfl #[.int .i64 ((T.pg + np + d.data) * 256), .int .i64 ((T.pg + np + d.data + hp) * 256)] 2 rfl rfl (by omega) (by omega) Try.underlying42 (by kernel_rfl) (by kernel_rfl) ?_
          refine hK _ _ ⟨_, Only.refl _ _, Only.alloc HS1.out _, ?_⟩
          refine only_gen (fun W => Hid (Ext V1 W) ∧ Hid (Row W V1.heap.size 0 [.int .i64 ((T.pg + np + d.data) * 256), .int .i64 ((T.pg + np + d.data + hp) * 256)])) ⟨hid ((Ext.refl _).alloc _), hid (Row.new V1 _ _)⟩ ?_
          rintro V2 ⟨hE2, hR2⟩
          have HB2 := hid (HB1.out.ext hE2.out)
          have HS2 := hid (HS1.out.transExt hE2.out)
          refine only_act (by rfl) (fun K hK => ?_)
          refine wp_app_row sp_len (by decide) sp_one Try.underlying42 info_sp (.tmp 48) (.tmp 53) rfl base vh T.H.length (rowF SpF T.H) rfl HB2.out.o2 (some ⟨V1.heap.size, 0, none⟩) 1 1 [⟨(T.pg + np + d.data) * 256, (T.pg + np + d.data + hp) * 256⟩] rfl rfl (rdF_row0 (f := SpF) (z := ⟨(T.pg + np + d.data) * 256, (T.pg + np + d.data + hp) * 256⟩) hR2.out) (by have := HLN.out; unfold maxLen; omega) (by have := HLN.out; omega) HB2.out.bs ?_
          intro v6 w6 hown6 hgrow hat
          obtain ⟨A6, c6, hv6, _, _⟩ := hown6.shape
          subst hv6
          have HT6 : Hid (Only (fun i => vh.ownBlock = some i) V2 w6) := hid (grownOnly hgrow fun g hg => hg)
          have HS6 := hid (Only.trans HS2.out HT6.out (fun i hi => .inl (.inr hi)))
          have HPUT := hid (LayB.put2 HB2.out HT6.out (z := ⟨(T.pg + np + d.data) * 256, (T.pg + np + d.data + hp) * 256⟩) (by rw [rowF_append, List.length_append]; exact hown6) (fun g e => hat.elim (fun h => .inl (h ▸ e)) (fun ⟨g2, e2, h2⟩ => .inr (by rw [e] at e2; cases e2; exact h2))))
          have hc6 := (HT6.out.cells q 2 HB2.out.lt (fun e => by have := (HB2.out.o2.lt q e).1; have := HB2.out.qb; omega)).trans HB2.out.c2
          have hf6 := (HT6.out.frozens q 2 HB2.out.lt (fun e => by have := (HB2.out.o2.lt q e).1; have := HB2.out.qb; omega)).trans (HB2.out.fz 2 (by decide))
          have hl6 := Nat.lt_of_lt_of_le HB2.out.lt HT6.out.size
          refine hK _ _ ⟨_, Only.refl _ _, HS6.out, ?_⟩
          clear hK K hgrow hat hown6
          simp only [Act.put, List.setIfInBounds_toArray, List.set_cons_zero, List.set_cons_succ]
          refine only_read (by rfl) (fun K hK => ?_)
          refine quiet_runD 55 rfl (.pointer (some ⟨q, 2, none⟩)) (fun w => by kernel_rfl) ?_
          refine hK _ ?_
          clear hK K
          simp only [Act.put, List.setIfInBounds_toArray, List.set_cons_zero, List.set_cons_succ]
          refine only_act (by rfl) (fun K hK => ?_)
          go_wp2_with fail
          refine ⟨_, Only.refl _ _, Only.setCell HS6.out (.inl (.inl rfl)) _, ?_⟩
          refine only_nil ?_
          go_wp2
          go_roundw
          case rel => exact ⟨k + 1, _, _, _, _, _, by omega, by go_num, hid rfl, by rw [HT3.out]; exact HPUT, hid (Only.setCell (S := fun i => q ≤ i) (Only.trans HOg.out HS6.out (fun i hi => .inl (by rcases hi with rfl | hi; exact Nat.le_refl _; have := (HBg.out.o2.lt i hi).1; have := HBg.out.qb; omega))) (.inl (Nat.le_refl _)) _)⟩
          case measure => simp [intOf]; omega
        · refine only_act (by rfl) (fun K hK => ?_)
          go_wp2_with (go_at_call 76; refine (take_ W5 q base _ _ _ _ _ hp HBg.out (by show _ ≤ T.pg + np + d.data; omega) (by show T.pg + np + d.data ≤ _; omega) (by omega) (by omega)).mono ?_; rintro e V1 ⟨rfl, HB1, HT1⟩)
          have HS1 := hid (Only.trans HS0.out HT1.out (fun i hi => .inl (.inl hi)))
          refine ⟨_, Only.refl _ _, HS1.out, ?_⟩
          refine only_br ?_ ?_
          · refine only_act (by rfl) (fun K hK => ?_)
            have hcx := HB1.out.c2
            go_wp2_with fail
            refine ⟨_, Only.refl _ _, HS1.out, ?_⟩
            clear hcx
            refine only_act (by rfl) (fun K hK => ?_)
            refine wp_build1 42 51 (.tmp 52) rfl #[.int .i64 ((T.pg + np + d.data) * 256), .int .i64 ((T.pg + np + d.data + hp) * 256)] 2 rfl rfl (by omega) (by omega) Try.underlying42 (by kernel_rfl) (by kernel_rfl) ?_
            refine hK _ _ ⟨_, Only.refl _ _, Only.alloc HS1.out _, ?_⟩
            refine only_gen (fun W => Hid (Ext V1 W) ∧ Hid (Row W V1.heap.size 0 [.int .i64 ((T.pg + np + d.data) * 256), .int .i64 ((T.pg + np + d.data + hp) * 256)])) ⟨hid ((Ext.refl _).alloc _), hid (Row.new V1 _ _)⟩ ?_
            rintro V2 ⟨hE2, hR2⟩
            have HB2 := hid (HB1.out.ext hE2.out)
            have HS2 := hid (HS1.out.transExt hE2.out)
            refine only_act (by rfl) (fun K hK => ?_)
            refine wp_app_row sp_len (by decide) sp_one Try.underlying42 info_sp (.tmp 48) (.tmp 53) rfl base vh T.H.length (rowF SpF T.H) rfl HB2.out.o2 (some ⟨V1.heap.size, 0, none⟩) 1 1 [⟨(T.pg + np + d.data) * 256, (T.pg + np + d.data + hp) * 256⟩] rfl rfl (rdF_row0 (f := SpF) (z := ⟨(T.pg + np + d.data) * 256, (T.pg + np + d.data + hp) * 256⟩) hR2.out) (by have := HLN.out; unfold maxLen; omega) (by have := HLN.out; omega) HB2.out.bs ?_
            intro v6 w6 hown6 hgrow hat
            obtain ⟨A6, c6, hv6, _, _⟩ := hown6.shape
            subst hv6
            have HT6 : Hid (Only (fun i => vh.ownBlock = some i) V2 w6) := hid (grownOnly hgrow fun g hg => hg)
            have HS6 := hid (Only.trans HS2.out HT6.out (fun i hi => .inl (.inr hi)))
            have HPUT := hid (LayB.put2 HB2.out HT6.out (z := ⟨(T.pg + np + d.data) * 256, (T.pg + np + d.data + hp) * 256⟩) (by rw [rowF_append, List.length_append]; exact hown6) (fun g e => hat.elim (fun h => .inl (h ▸ e)) (fun ⟨g2, e2, h2⟩ => .inr (by rw [e] at e2; cases e2; exact h2))))
            have hc6 := (HT6.out.cells q 2 HB2.out.lt (fun e => by have := (HB2.out.o2.lt q e).1; have := HB2.out.qb; omega)).trans HB2.out.c2
            have hf6 := (HT6.out.frozens q 2 HB2.out.lt (fun e => by have := (HB2.out.o2.lt q e).1; have := HB2.out.qb; omega)).trans (HB2.out.fz 2 (by decide))
            have hl6 := Nat.lt_of_lt_of_le HB2.out.lt HT6.out.size
            refine hK _ _ ⟨_, Only.refl _ _, HS6.out, ?_⟩
            clear hK K hgrow hat hown6
            simp only [Act.put, List.setIfInBounds_toArray, List.set_cons_zero, List.set_cons_succ]
            refine only_read (by rfl) (fun K hK => ?_)
            refine quiet_runD 55 rfl (.pointer (some ⟨q, 2, none⟩)) (fun w => by kernel_rfl) ?_
            refine hK _ ?_
            clear hK K
            simp only [Act.put, List.setIfInBounds_toArray, List.set_cons_zero, List.set_cons_succ]
            refine only_act (by rfl) (fun K hK => ?_)
            go_wp2_with fail
            refine ⟨_, Only.refl _ _, Only.setCell HS6.out (.inl (.inl rfl)) _, ?_⟩
            refine only_nil ?_
            go_wp2
            go_roundw
            case rel => exact ⟨k + 1, _, _, _, _, _, by omega, by go_num, hid rfl, by rw [HT3.out]; exact HPUT, hid (Only.setCell (S := fun i => q ≤ i) (Only.trans HOg.out HS6.out (fun i hi => .inl (by rcases hi with rfl | hi; exact Nat.le_refl _; have := (HBg.out.o2.lt i hi).1; have := HBg.out.qb; omega))) (.inl (Nat.le_refl _)) _)⟩
            case measure => simp [intOf]; omega
          · refine only_act (by rfl) (fun K hK => ?_)
            refine wp_build1 42 51 (.tmp 52) rfl #[.int .i64 ((T.pg + np + d.data) * 256), .int .i64 ((T.pg + np + d.data + hp) * 256)] 2 rfl rfl (by omega) (by omega) Try.underlying42 (by kernel_rfl) (by kernel_rfl) ?_
            refine hK _ _ ⟨_, Only.refl _ _, Only.alloc HS1.out _, ?_⟩
            refine only_gen (fun W => Hid (Ext V1 W) ∧ Hid (Row W V1.heap.size 0 [.int .i64 ((T.pg + np + d.data) * 256), .int .i64 ((T.pg + np + d.data + hp) * 256)])) ⟨hid ((Ext.refl _).alloc _), hid (Row.new V1 _ _)⟩ ?_
            rintro V2 ⟨hE2, hR2⟩
            have HB2 := hid (HB1.out.ext hE2.out)
            have HS2 := hid (HS1.out.transExt hE2.out)
            refine only_act (by rfl) (fun K hK => ?_)
            have hcx := HB2.out.c2
            go_wp2_with fail
            refine ⟨_, Only.refl _ _, HS2.out, ?_⟩
            clear hcx
            refine only_act (by rfl) (fun K hK => ?_)
            refine wp_app_row sp_len (by decide) sp_one Try.underlying42 info_sp (.tmp 48) (.tmp 53) rfl base vh T.H.length (rowF SpF T.H) rfl HB2.out.o2 (some ⟨V1.heap.size, 0, none⟩) 1 1 [⟨(T.pg + np + d.data) * 256, (T.pg + np + d.data + hp) * 256⟩] rfl rfl (rdF_row0 (f := SpF) (z := ⟨(T.pg + np + d.data) * 256, (T.pg + np + d.data + hp) * 256⟩) hR2.out) (by have := HLN.out; unfold maxLen; omega) (by have := HLN.out; omega) HB2.out.bs ?_
            intro v6 w6 hown6 hgrow hat
            obtain ⟨A6, c6, hv6, _, _⟩ := hown6.shape
            subst hv6
            have HT6 : Hid (Only (fun i => vh.ownBlock = some i) V2 w6) := hid (grownOnly hgrow fun g hg => hg)
            have HS6 := hid (Only.trans HS2.out HT6.out (fun i hi => .inl (.inr hi)))
            have HPUT := hid (LayB.put2 HB2.out HT6.out (z := ⟨(T.pg + np + d.data) * 256, (T.pg + np + d.data + hp) * 256⟩) (by rw [rowF_append, List.length_append]; exact hown6) (fun g e => hat.elim (fun h => .inl (h ▸ e)) (fun ⟨g2, e2, h2⟩ => .inr (by rw [e] at e2; cases e2; exact h2))))
            have hc6 := (HT6.out.cells q 2 HB2.out.lt (fun e => by have := (HB2.out.o2.lt q e).1; have := HB2.out.qb; omega)).trans HB2.out.c2
            have hf6 := (HT6.out.frozens q 2 HB2.out.lt (fun e => by have := (HB2.out.o2.lt q e).1; have := HB2.out.qb; omega)).trans (HB2.out.fz 2 (by decide))
            have hl6 := Nat.lt_of_lt_of_le HB2.out.lt HT6.out.size
            refine hK _ _ ⟨_, Only.refl _ _, HS6.out, ?_⟩
            clear hK K hgrow hat hown6
            simp only [Act.put, List.setIfInBounds_toArray, List.set_cons_zero, List.set_cons_succ]
            refine only_read (by rfl) (fun K hK => ?_)
            refine quiet_runD 55 rfl (.pointer (some ⟨q, 2, none⟩)) (fun w => by kernel_rfl) ?_
            refine hK _ ?_
            clear hK K
            simp only [Act.put, List.setIfInBounds_toArray, List.set_cons_zero, List.set_cons_succ]
            refine only_act (by rfl) (fun K hK => ?_)
            go_wp2_with fail
            refine ⟨_, Only.refl _ _, Only.setCell HS6.out (.inl (.inl rfl)) _, ?_⟩
            refine only_nil ?_
            go_wp2
            go_roundw
            case rel => exact ⟨k + 1, _, _, _, _, _, by omega, by go_num, hid rfl, by rw [HT3.out]; exact HPUT, hid (Only.setCell (S := fun i => q ≤ i) (Only.trans HOg.out HS6.out (fun i hi => .inl (by rcases hi with rfl | hi; exact Nat.le_refl _; have := (HBg.out.o2.lt i hi).1; have := HBg.out.qb; omega))) (.inl (Nat.le_refl _)) _)⟩
            case measure => simp [intOf]; omega
    · obtain rfl : m = k := by omega
      have hk1 : ¬ (m : Int) < (m : Int) := by omega
      rw [show x.comps.take m = x.comps from List.take_of_length_le (by rw [HM.out]; exact Nat.le_refl _)] at HT
      obtain ⟨t1, t2, t3, t4, t5, t6⟩ := layK_len hh1 hh2 x.comps HCR.out
      rw [← HT.out] at HLV t4 t5 t6
      replace t6 : T.pg ≤ 500 := by have := HM.out; omega
      have HLS0 := hid (show T.S.length = 0 by rw [t4]; rfl)
      clear t1 t2 t3 t4
      obtain ⟨T0, hT0⟩ : ∃ y, T = y := ⟨_, rfl⟩
      rw [hT0] at HB HLV t5 t6 HLS0
      clear hT0 HT
      have hbx := (HO.out.cells p 5 hpl (by omega)).trans (HR0.out.range 5 _ rfl)
      have hbl := Nat.lt_of_lt_of_le hpl HO.out.size
      go_wp2
      clear hbx hbl
      go_loopw [60] (fun i wr2 => ∃ (j : Nat) (vs : Value) (T : LayS), j ≤ ms ∧ i = .int .i64 j ∧ Hid (T = layS T0 j) ∧ Hid (LayB wr2 q base vc vd vh vs T) ∧ Hid (Only (fun i => q ≤ i) V wr2)) (fun i _ => ms - (intOf i).toNat)
      case atStart => exact ⟨0, _, _, Nat.zero_le _, rfl, hid rfl, HB, HO⟩
      case round =>
        clear HB HO
        obtain ⟨j, vs, T, hj, rfl, HT, HB, HO⟩ := hrel
        obtain ⟨l1, l2, _⟩ := layS_len T0 j
        rw [← HT.out] at l1 l2
        have HLS := hid (show T.S.length ≤ 4 by have := HLS0.out; omega)
        have p1 : 0 ≤ T.pg := by omega
        have p2 : T.pg ≤ 1000 := by omega
        clear l1 l2
        by_cases hlt : j < ms
        · have hj1 : (j : Int) < (ms : Int) := by omega
          have hj0 : (0 : Int) ≤ (j : Int) := by omega
          go_upto_region 13 with (fail)
          have HT3 := hid (show layS T0 (j + 1) = ⟨T.C, T.D, T.H, T.S ++ [T.pg * 256], T.pg + 1⟩ by rw [HT.out]; rfl)
          refine wp_region_only (S := (fun i => i = q ∨ vs.ownBlock = some i)) (.rd 0 (.rd 2 (.br 1 (.ac 3 (.rd 4 (.ac 5 (.ac 6 (.rd 7 (.ac 8 .done)))))) 3 (.rd 4 (.br 1 (.ac 5 (.ac 6 (.rd 7 (.ac 8 .done)))) 5 (.ac 1 (.ac 6 (.rd 7 (.ac 8 .done))))))))) (by kernel_rfl) (by kernel_rfl) (fun _ _ d _ _ h => by cases d <;> exact h) (by simp only [Ord.map, nthOp, List.append]; rfl) ?_
          intro d1
          have HBg := hid (HB.out.ext (Ext.grow (Ext.refl wr) d1))
          have HOg := hid (HO.out.grow d1)
          generalize Go.Proofs.Ytgldlkoohfclpaa.grow wr d1 = W5 at HBg HOg ⊢
          have HS0 := hid (Only.refl (fun i => i = q ∨ vs.ownBlock = some i) W5)
          refine only_read (by rfl) (fun K hK => ?_)
          refine quiet_runD 62 rfl (.pointer (some ⟨q, 3, none⟩)) (fun w => by kernel_rfl) ?_
          refine hK _ ?_
          clear hK K
          simp only [Act.put, List.setIfInBounds_toArray, List.set_cons_zero, List.set_cons_succ]
          refine only_read (by rfl) (fun K hK => ?_)
          go_big_quiet_op
          refine hK _ ?_
          clear hK K
          refine only_br ?_ ?_
          · refine only_act (by rfl) (fun K hK => ?_)
            have hcx := HBg.out.c3
            go_wp2_with fail
            refine ⟨_, Only.refl _ _, HS0.out, ?_⟩
            clear hcx
            refine only_act (by rfl) (fun K hK => ?_)
            go_wp2_with (go_at_call 76; refine (take_ W5 q base _ _ _ _ _ 1 HBg.out (by omega) (by omega) (by omega) (by omega)).mono ?_; rintro e V1 ⟨rfl, HB1, HT1⟩)
            have HS1 := hid (Only.trans HS0.out HT1.out (fun i hi => .inl (.inl hi)))
            refine ⟨_, Only.refl _ _, HS1.out, ?_⟩
            refine only_read (by rfl) (fun K hK => ?_)
            refine quiet_runD 66 rfl (.int .i64 (T.pg * 256)) (fun w => by go_simp) ?_
            refine hK _ ?_
            clear hK K
            simp only [Act.put, List.setIfInBounds_toArray, List.set_cons_zero, List.set_cons_succ]
            refine only_act (by rfl) (fun K hK => ?_)
            go_wp2_with fail
            refine ⟨_, Only.refl _ _, Only.alloc HS1.out _, ?_⟩
            refine only_gen (fun W => Hid (Ext V1 W) ∧ Hid (Row W V1.heap.size 0 [.int .i64 (T.pg * 256)])) ⟨hid ((Ext.refl _).alloc _), hid (Row.new V1 _ _)⟩ ?_
            rintro V2 ⟨hE2, hR2⟩
            have HB2 := hid (HB1.out.ext hE2.out)
            have HS2 := hid (HS1.out.transExt hE2.out)
            refine only_act (by rfl) (fun K hK => ?_)
            refine wp_app_row int_len (by decide) int_one Try.underlying43 info_intN (.tmp 63) (.tmp 67) rfl base vs T.S.length (rowF intF T.S) rfl HB2.out.o3 (some ⟨V1.heap.size, 0, none⟩) 1 1 [T.pg * 256] rfl rfl (rdF_row0 (f := intF) (z := T.pg * 256) hR2.out) (by have := HLS.out; unfold maxLen; omega) (by have := HLS.out; omega) HB2.out.bs ?_
            intro v6 w6 hown6 hgrow hat
            obtain ⟨A6, c6, hv6, _, _⟩ := hown6.shape
            subst hv6
            have HT6 : Hid (Only (fun i => vs.ownBlock = some i) V2 w6) := hid (grownOnly hgrow fun g hg => hg)
            have HS6 := hid (Only.trans HS2.out HT6.out (fun i hi => .inl (.inr hi)))
            have HPUT := hid (LayB.put3 HB2.out HT6.out (z := T.pg * 256) (by rw [rowF_append, List.length_append]; exact hown6) (fun g e => hat.elim (fun h => .inl (h ▸ e)) (fun ⟨g2, e2, h2⟩ => .inr (by rw [e] at e2; cases e2; exact h2))))
            have hc6 := (HT6.out.cells q 3 HB2.out.lt (fun e => by have := (HB2.out.o3.lt q e).1; have := HB2.out.qb; omega)).trans HB2.out.c3
            have hf6 := (HT6.out.frozens q 3 HB2.out.lt (fun e => by have := (HB2.out.o3.lt q e).1; have := HB2.out.qb; omega)).trans (HB2.out.fz 3 (by decide))
            have hl6 := Nat.lt_of_lt_of_le HB2.out.lt HT6.out.size
            refine hK _ _ ⟨_, Only.refl _ _, HS6.out, ?_⟩
            clear hK K hgrow hat hown6
            simp only [Act.put, List.setIfInBounds_toArray, List.set_cons_zero, List.set_cons_succ]
            refine only_read (by rfl) (fun K hK => ?_)
            refine quiet_runD 69 rfl (.pointer (some ⟨q, 3, none⟩)) (fun w => by kernel_rfl) ?_
            refine hK _ ?_
            clear hK K
            simp only [Act.put, List.setIfInBounds_toArray, List.set_cons_zero, List.set_cons_succ]
            refine only_act (by rfl) (fun K hK => ?_)
            go_wp2_with fail
            refine ⟨_, Only.refl _ _, Only.setCell HS6.out (.inl (.inl rfl)) _, ?_⟩
            refine only_nil ?_
            go_wp2
            go_roundw
            case rel => exact ⟨j + 1, _, _, by omega, by go_num, hid rfl, by rw [HT3.out]; exact HPUT, hid (Only.setCell (S := fun i => q ≤ i) (Only.trans HOg.out HS6.out (fun i hi => .inl (by rcases hi with rfl | hi; exact Nat.le_refl _; have := (HBg.out.o3.lt i hi).1; have := HBg.out.qb; omega))) (.inl (Nat.le_refl _)) _)⟩
            case measure => simp [intOf]; omega
          · refine only_act (by rfl) (fun K hK => ?_)
            go_wp2_with (go_at_call 76; refine (take_ W5 q base _ _ _ _ _ 1 HBg.out (by omega) (by omega) (by omega) (by omega)).mono ?_; rintro e V1 ⟨rfl, HB1, HT1⟩)
            have HS1 := hid (Only.trans HS0.out HT1.out (fun i hi => .inl (.inl hi)))
            refine ⟨_, Only.refl _ _, HS1.out, ?_⟩
            refine only_read (by rfl) (fun K hK => ?_)
            refine quiet_runD 66 rfl (.int .i64 (T.pg * 256)) (fun w => by go_simp) ?_
            refine hK _ ?_
            clear hK K
            simp only [Act.put, List.setIfInBounds_toArray, List.set_cons_zero, List.set_cons_succ]
            refine only_br ?_ ?_
            · refine only_act (by rfl) (fun K hK => ?_)
              have hcx := HB1.out.c3
              go_wp2_with fail
              refine ⟨_, Only.refl _ _, HS1.out, ?_⟩
              clear hcx
              refine only_act (by rfl) (fun K hK => ?_)
              go_wp2_with fail
              refine ⟨_, Only.refl _ _, Only.alloc HS1.out _, ?_⟩
              refine only_gen (fun W => Hid (Ext V1 W) ∧ Hid (Row W V1.heap.size 0 [.int .i64 (T.pg * 256)])) ⟨hid ((Ext.refl _).alloc _), hid (Row.new V1 _ _)⟩ ?_
              rintro V2 ⟨hE2, hR2⟩
              have HB2 := hid (HB1.out.ext hE2.out)
              have HS2 := hid (HS1.out.transExt hE2.out)
              refine only_act (by rfl) (fun K hK => ?_)
              refine wp_app_row int_len (by decide) int_one Try.underlying43 info_intN (.tmp 63) (.tmp 67) rfl base vs T.S.length (rowF intF T.S) rfl HB2.out.o3 (some ⟨V1.heap.size, 0, none⟩) 1 1 [T.pg * 256] rfl rfl (rdF_row0 (f := intF) (z := T.pg * 256) hR2.out) (by have := HLS.out; unfold maxLen; omega) (by have := HLS.out; omega) HB2.out.bs ?_
              intro v6 w6 hown6 hgrow hat
              obtain ⟨A6, c6, hv6, _, _⟩ := hown6.shape
              subst hv6
              have HT6 : Hid (Only (fun i => vs.ownBlock = some i) V2 w6) := hid (grownOnly hgrow fun g hg => hg)
              have HS6 := hid (Only.trans HS2.out HT6.out (fun i hi => .inl (.inr hi)))
              have HPUT := hid (LayB.put3 HB2.out HT6.out (z := T.pg * 256) (by rw [rowF_append, List.length_append]; exact hown6) (fun g e => hat.elim (fun h => .inl (h ▸ e)) (fun ⟨g2, e2, h2⟩ => .inr (by rw [e] at e2; cases e2; exact h2))))
              have hc6 := (HT6.out.cells q 3 HB2.out.lt (fun e => by have := (HB2.out.o3.lt q e).1; have := HB2.out.qb; omega)).trans HB2.out.c3
              have hf6 := (HT6.out.frozens q 3 HB2.out.lt (fun e => by have := (HB2.out.o3.lt q e).1; have := HB2.out.qb; omega)).trans (HB2.out.fz 3 (by decide))
              have hl6 := Nat.lt_of_lt_of_le HB2.out.lt HT6.out.size
              refine hK _ _ ⟨_, Only.refl _ _, HS6.out, ?_⟩
              clear hK K hgrow hat hown6
              simp only [Act.put, List.setIfInBounds_toArray, List.set_cons_zero, List.set_cons_succ]
              refine only_read (by rfl) (fun K hK => ?_)
              refine quiet_runD 69 rfl (.pointer (some ⟨q, 3, none⟩)) (fun w => by kernel_rfl) ?_
              refine hK _ ?_
              clear hK K
              simp only [Act.put, List.setIfInBounds_toArray, List.set_cons_zero, List.set_cons_succ]
              refine only_act (by rfl) (fun K hK => ?_)
              go_wp2_with fail
              refine ⟨_, Only.refl _ _, Only.setCell HS6.out (.inl (.inl rfl)) _, ?_⟩
              refine only_nil ?_
              go_wp2
              go_roundw
              case rel => exact ⟨j + 1, _, _, by omega, by go_num, hid rfl, by rw [HT3.out]; exact HPUT, hid (Only.setCell (S := fun i => q ≤ i) (Only.trans HOg.out HS6.out (fun i hi => .inl (by rcases hi with rfl | hi; exact Nat.le_refl _; have := (HBg.out.o3.lt i hi).1; have := HBg.out.qb; omega))) (.inl (Nat.le_refl _)) _)⟩
              case measure => simp [intOf]; omega
            · refine only_act (by rfl) (fun K hK => ?_)
              go_wp2_with fail
              refine ⟨_, Only.refl _ _, Only.alloc HS1.out _, ?_⟩
              refine only_gen (fun W => Hid (Ext V1 W) ∧ Hid (Row W V1.heap.size 0 [.int .i64 (T.pg * 256)])) ⟨hid ((Ext.refl _).alloc _), hid (Row.new V1 _ _)⟩ ?_
              rintro V2 ⟨hE2, hR2⟩
              have HB2 := hid (HB1.out.ext hE2.out)
              have HS2 := hid (HS1.out.transExt hE2.out)
              refine only_act (by rfl) (fun K hK => ?_)
              have hcx := HB2.out.c3
              go_wp2_with fail
              refine ⟨_, Only.refl _ _, HS2.out, ?_⟩
              clear hcx
              refine only_act (by rfl) (fun K hK => ?_)
              refine wp_app_row int_len (by decide) int_one Try.underlying43 info_intN (.tmp 63) (.tmp 67) rfl base vs T.S.length (rowF intF T.S) rfl HB2.out.o3 (some ⟨V1.heap.size, 0, none⟩) 1 1 [T.pg * 256] rfl rfl (rdF_row0 (f := intF) (z := T.pg * 256) hR2.out) (by have := HLS.out; unfold maxLen; omega) (by have := HLS.out; omega) HB2.out.bs ?_
              intro v6 w6 hown6 hgrow hat
              obtain ⟨A6, c6, hv6, _, _⟩ := hown6.shape
              subst hv6
              have HT6 : Hid (Only (fun i => vs.ownBlock = some i) V2 w6) := hid (grownOnly hgrow fun g hg => hg)
              have HS6 := hid (Only.trans HS2.out HT6.out (fun i hi => .inl (.inr hi)))
              have HPUT := hid (LayB.put3 HB2.out HT6.out (z := T.pg * 256) (by rw [rowF_append, List.length_append]; exact hown6) (fun g e => hat.elim (fun h => .inl (h ▸ e)) (fun ⟨g2, e2, h2⟩ => .inr (by rw [e] at e2; cases e2; exact h2))))
              have hc6 := (HT6.out.cells q 3 HB2.out.lt (fun e => by have := (HB2.out.o3.lt q e).1; have := HB2.out.qb; omega)).trans HB2.out.c3
              have hf6 := (HT6.out.frozens q 3 HB2.out.lt (fun e => by have := (HB2.out.o3.lt q e).1; have := HB2.out.qb; omega)).trans (HB2.out.fz 3 (by decide))
              have hl6 := Nat.lt_of_lt_of_le HB2.out.lt HT6.out.size
              refine hK _ _ ⟨_, Only.refl _ _, HS6.out, ?_⟩
              clear hK K hgrow hat hown6
              simp only [Act.put, List.setIfInBounds_toArray, List.set_cons_zero, List.set_cons_succ]
              refine only_read (by rfl) (fun K hK => ?_)
              refine quiet_runD 69 rfl (.pointer (some ⟨q, 3, none⟩)) (fun w => by kernel_rfl) ?_
              refine hK _ ?_
              clear hK K
              simp only [Act.put, List.setIfInBounds_toArray, List.set_cons_zero, List.set_cons_succ]
              refine only_act (by rfl) (fun K hK => ?_)
              go_wp2_with fail
              refine ⟨_, Only.refl _ _, Only.setCell HS6.out (.inl (.inl rfl)) _, ?_⟩
              refine only_nil ?_
              go_wp2
              go_roundw
              case rel => exact ⟨j + 1, _, _, by omega, by go_num, hid rfl, by rw [HT3.out]; exact HPUT, hid (Only.setCell (S := fun i => q ≤ i) (Only.trans HOg.out HS6.out (fun i hi => .inl (by rcases hi with rfl | hi; exact Nat.le_refl _; have := (HBg.out.o3.lt i hi).1; have := HBg.out.qb; omega))) (.inl (Nat.le_refl _)) _)⟩
              case measure => simp [intOf]; omega
        · obtain rfl : j = ms := by omega
          have hj1 : ¬ (j : Int) < (j : Int) := by omega
          obtain ⟨B0, b0, rfl, _, _⟩ := HB.out.o0.shape
          obtain ⟨B1, b1, rfl, _, _⟩ := HB.out.o1.shape
          obtain ⟨B2, b2, rfl, _, _⟩ := HB.out.o2.shape
          obtain ⟨B3, b3, rfl, _, _⟩ := HB.out.o3.shape
          have x0 := HB.out.c0
          have x1 := HB.out.c1
          have x2 := HB.out.c2
          have x3 := HB.out.c3
          have x4 := HB.out.c4
          have hr1 := HR1.out.only HO.out (by omega)
          have hr1l := hr1.lt
          have y0 := hr1.range 0 _ rfl
          have y1 := hr1.range 1 _ rfl
          have y2 := hr1.range 2 _ rfl
          have y3 := hr1.range 3 _ rfl
          have y4 := hr1.range 4 _ rfl
          have z0 := hr1.free 0 (by decide)
          have z1 := hr1.free 1 (by decide)
          have z2 := hr1.free 2 (by decide)
          have z3 := hr1.free 3 (by decide)
          have z4 := hr1.free 4 (by decide)
          simp only [Nat.zero_add] at y0 y1 y2 y3 y4 z0 z1 z2 z3 z4
          clear hr1
          go_wp2
          refine bodyPost_ret (v := .agg #[.slice B0 T.C.length b0, .slice B1 T.D.length b1, .slice B2 T.H.length b2, .slice B3 T.S.length b3, .int .i64 T.pg]) (by simp [results, Try.results47, go_sem, hr1l, y0, y1, y2, y3, y4]) rfl ?_
          have hLT : LV = T := HLV.out.trans HT.out.symm
          have HX := hid (Only.setCell (S := fun i => i = p + 1) (Only.setCell (S := fun i => i = p + 1) (Only.setCell (S := fun i => i = p + 1) (Only.setCell (S := fun i => i = p + 1) (Only.setCell (S := fun i => i = p + 1) (Only.refl (fun i => i = p + 1) wr) (.inl rfl) (o := 0) (.slice B0 T.C.length b0)) (.inl rfl) (o := 1) (.slice B1 T.D.length b1)) (.inl rfl) (o := 2) (.slice B2 T.H.length b2)) (.inl rfl) (o := 3) (.slice B3 T.S.length b3)) (.inl rfl) (o := 4) (.int .i64 T.pg))
          refine ⟨q, base, _, _, _, _, by rw [hLT], hid ?_, hid ?_, hwq⟩
          · rw [hLT]
            exact HB.out.only HX.out (by omega) (fun g e _ e2 => by have := HB.out.qb; omega)
          · exact Ext.only (Ext.only HV.out HO.out (fun i hi => by omega)) HX.out (fun i hi => by omega)

end Go.Proofs.Ytgldlkoohfclpaa
