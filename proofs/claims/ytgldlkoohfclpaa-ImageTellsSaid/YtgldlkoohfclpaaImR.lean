/- Layer 17: several. -/
import Derived.Test.YtgldlkoohfclpaaImD
namespace Go.Proofs.Ytgldlkoohfclpaa
set_option linter.unusedSimpArgs false
set_option linter.unusedVariables false
open Go.RowKit

theorem cmp_one : ∀ d : Cmp, ∀ u ∈ d.cells, u.oneCell' = true := by
  intro d u hu
  simp only [Cmp.cells, List.mem_cons, List.not_mem_nil, or_false] at hu
  rcases hu with rfl | rfl <;> rfl
theorem shr_one : ∀ d : Shr, ∀ u ∈ d.cells, u.oneCell' = true := by
  intro d u hu
  simp only [Shr.cells, List.mem_cons, List.not_mem_nil, or_false] at hu
  rcases hu with rfl | rfl <;> rfl
theorem info_cmpN : InfoN Try.prog 53 2 32 := infoN_of (by kernel_rfl)
theorem info_shrN : InfoN Try.prog 70 2 16 := infoN_of (by kernel_rfl)
theorem map_range_succ {α : Type} (f : Nat → α) (n : Nat) : (List.range (n + 1)).map f = (List.range n).map f ++ [f n] := by rw [List.range_succ, List.map_append]; rfl
theorem rdF_row1 {α : Type} {f : α → List Value} {z : α} {w : World} {b : Nat} (h : Row w b 0 (f z)) : RdF f w (some ⟨b, 0, none⟩) [z] := fun _ => by
  refine ⟨b, 0, rfl, h.lt, fun j u hj => ?_⟩
  rw [rowF_one] at hj
  exact h.range j u hj
set_option maxRecDepth 100000 in
set_option maxHeartbeats 4000000 in
theorem sevCmp_ (F : FuncId) (P1 P2 : Value) (n : Nat) (hn : n ≤ 1000) (vals : Nat → Cmp) (Inv : Nat → Value → World → Prop) (Tn : Value → Nat → Prop) (s0 : Value) (w : World) (h0 : Inv 0 s0 w)
    (hfn : ∀ args w', Sem.run Try.prog (callFunc F args) w' = .ok (.enter F args) w')
    (hcall : ∀ k, k < n → ∀ s W, Inv k s W → Calls Try.prog F #[P1, P2] W fun e W' => ∃ s', e = .returned (.agg #[.slice (vals k).A (vals k).bl.length (vals k).ca, .int .i64 (vals k).data]) ∧ Hid (Inv (k + 1) s' W') ∧ Hid (Only (Tn s) W W') ∧ Hid (∀ i, Tn s' i → Tn s i ∨ W.heap.size ≤ i))
    (hTn : ∀ k s W, Inv k s W → ∀ i, Tn s i → i < W.heap.size)
    (hkeep : ∀ k s W W' (S : Nat → Prop), Inv k s W → Only S W W' → (∀ i, S i → ¬ Tn s i ∧ w.heap.size ≤ i) → Inv k s W') :
    Calls Try.prog 56 #[.int .i64 (n : Int), .func (.func F) #[] #[P1, P2]] w fun e w' => ∃ A c, e = .returned (.slice A n c) ∧ Hid (ownsAt w' w.heap.size 53 2 (.slice A n c) n (rowF Cmp.cells ((List.range n).map vals))) ∧ ∃ s', Hid (Inv n s' w') ∧ Hid (Only (Tn s0) w w') ∧ Hid (∀ i, Tn s' i → Tn s0 i ∨ w.heap.size ≤ i) ∧ Hid (∀ g, (Value.slice A n c).ownBlock = some g → ¬ Tn s' g) := by
  have HCALL := hid hcall
  have HTN := hid hTn
  have HKEEP := hid hkeep
  have H0 := hid h0
  obtain ⟨base, hbase⟩ : ∃ y, w.heap.size = y := ⟨_, rfl⟩
  rw [hbase] at HKEEP ⊢
  have HB0 := hid hbase
  clear hcall hTn hkeep h0 hbase
  go_enter Try.func56, Try.ntmps56
  go_wp2
  go_loopw [5, 7] (fun v i wr => ∃ (k : Nat) (A : Option Addr) (c : Nat) (s : Value), k ≤ n ∧ i = .int .i64 k ∧ v = .slice A k c ∧ Hid (Inv k s wr) ∧ Hid (ownsAt wr base 53 2 (.slice A k c) k (rowF Cmp.cells ((List.range k).map vals))) ∧ Hid (Only (Tn s0) w wr) ∧ Hid (∀ i, Tn s i → Tn s0 i ∨ base ≤ i) ∧ Hid (∀ g, (Value.slice A k c).ownBlock = some g → ¬ Tn s g)) (fun _ i _ => n - (intOf i).toNat)
  case atStart => exact ⟨0, _, _, s0, Nat.zero_le _, rfl, rfl, H0, hid (ownsAt_nil _ _ _ _), hid (Only.refl _ _), hid (fun i hi => .inl hi), hid (fun g e => by simp [Value.ownBlock] at e)⟩
  case round =>
    obtain ⟨k, A, c, s, hk, rfl, rfl, HI, HOW, HO, HT, HAP⟩ := hrel
    by_cases hlt : k < n
    · have hk1 : (k : Int) < (n : Int) := by omega
      have hk0 : (0 : Int) ≤ (k : Int) := by omega
      have HCK := hid (HCALL.out k hlt s wr HI.out)
      obtain ⟨d, hd⟩ : ∃ d, vals k = d := ⟨_, rfl⟩
      rw [hd] at HCK
      have HMR := hid (show rowF Cmp.cells ((List.range (k + 1)).map vals) = rowF Cmp.cells ((List.range k).map vals) ++ rowF Cmp.cells [d] by rw [map_range_succ, rowF_append, hd])
      clear hd
      go_wp2_with fail
      refine HCK.out.mono ?_
      rintro e W1 ⟨s', rfl, HI1, HO1, HT1⟩
      have HLT := hid HOW.out.lt
      have HNT := hid (show ∀ g, (Value.slice A k c).ownBlock = some g → ¬ Tn s' g from fun g e ht => by
        rcases HT1.out g ht with h | h
        · exact HAP.out g e h
        · have := (HLT.out g e).2; omega)
      replace HOW := hid (HOW.out.only HO1.out HAP.out)
      have HBS := hid (show base ≤ W1.heap.size by have := HB0.out; have := HO.out.size; have := HO1.out.size; omega)
      have HSW := hid (show base ≤ wr.heap.size by have := HB0.out; have := HO.out.size; omega)
      clear HCK
      go_upto_region 5 with (at_builtin; refine wpList_plain rfl fun K hK => ?_; go_loud (refine wp_app_row cmp_len (by decide) cmp_one Try.underlying22 info_cmpN (.tmp 9) (.tmp 12) rfl base (.slice A k c) k (rowF Cmp.cells ((List.range k).map vals)) rfl (HOW.out.ext ((Ext.refl _).alloc _)) (some ⟨W1.heap.size, 0, none⟩) 1 1 [d] rfl rfl (rdF_row1 (f := Cmp.cells) (z := d) (Row.new W1 _ _)) (by unfold maxLen; omega) (by omega) (by rw [World.size_alloc]; have := HBS.out; omega) ?_); intro v6 w6 hown hgrow hat; obtain ⟨A6, c6, rfl, _, _⟩ := hown.shape; refine hK _ _ ?_; clear hK K)
      have HS6 := hid (Only.trans' (Only.alloc (Only.refl (fun i => (Value.slice A k c).ownBlock = some i) W1) _) (grownOnly (S := fun i => (Value.slice A k c).ownBlock = some i) hgrow (fun g e => e)))
      have HI6 := hid (HKEEP.out (k + 1) s' W1 w6 _ HI1.out HS6.out (fun i hi => ⟨HNT.out i hi, (HLT.out i hi).1⟩))
      have HO6 := hid (Only.trans (Only.trans HO.out HO1.out (fun i hi => (HT.out i hi).imp id (fun h => by rw [HB0.out]; exact h))) HS6.out (fun i hi => .inr (by rw [HB0.out]; exact (HLT.out i hi).1)))
      have HT6 := hid (show ∀ i, Tn s' i → Tn s0 i ∨ base ≤ i from fun i hi => (HT1.out i hi).elim (HT.out i) (fun h => .inr (by have := HSW.out; omega)))
      have HAP6 := hid (show ∀ g, (Value.slice A6 (k + 1) c6).ownBlock = some g → ¬ Tn s' g from fun g e => hat.elim (fun h => HNT.out g (h ▸ e)) (fun ⟨g2, e2, h2⟩ ht => by
        rw [e] at e2
        cases e2
        have := HTN.out (k + 1) s' W1 HI1.out g ht
        rw [World.size_alloc] at h2
        omega))
      have HOW6 := hid (show ownsAt w6 base 53 2 (.slice A6 (k + 1) c6) (k + 1) (rowF Cmp.cells ((List.range (k + 1)).map vals)) by rw [HMR.out]; exact hown)
      clear hown hgrow hat HS6 HI1 HO1 HT1 HNT HLT HOW HI HO HT HAP HMR
      go_wp2
      go_roundw
      case rel => exact ⟨k + 1, _, _, s', by omega, by go_num, rfl, HI6, HOW6, HO6, HT6, HAP6⟩
      case measure => simp [intOf]; omega
    · obtain rfl : k = n := by omega
      have hk1 : ¬ (k : Int) < (k : Int) := by omega
      go_wp2
      go_ret
      exact ⟨A, c, rfl, HOW, s, HI, HO, HT, HAP⟩
set_option maxRecDepth 100000 in
set_option maxHeartbeats 4000000 in
theorem sevLnk_ (F : FuncId) (P1 : Value) (n : Nat) (hn : n ≤ 1000) (vals : Nat → Lnk) (Inv : Nat → Value → World → Prop) (Tn : Value → Nat → Prop) (s0 : Value) (w : World) (h0 : Inv 0 s0 w)
    (hfn : ∀ args w', Sem.run Try.prog (callFunc F args) w' = .ok (.enter F args) w')
    (hcall : ∀ k, k < n → ∀ s W, Inv k s W → Calls Try.prog F #[P1] W fun e W' => ∃ s', e = .returned (.agg #[.int .i64 (vals k).fr, .int .i64 (vals k).to_, .int .i64 (vals k).at_]) ∧ Hid (Inv (k + 1) s' W') ∧ Hid (Only (Tn s) W W') ∧ Hid (∀ i, Tn s' i → Tn s i ∨ W.heap.size ≤ i))
    (hTn : ∀ k s W, Inv k s W → ∀ i, Tn s i → i < W.heap.size)
    (hkeep : ∀ k s W W' (S : Nat → Prop), Inv k s W → Only S W W' → (∀ i, S i → ¬ Tn s i ∧ w.heap.size ≤ i) → Inv k s W') :
    Calls Try.prog 58 #[.int .i64 (n : Int), .func (.func F) #[] #[P1]] w fun e w' => ∃ A c, e = .returned (.slice A n c) ∧ Hid (ownsAt w' w.heap.size 68 3 (.slice A n c) n (rowF Lnk.cells ((List.range n).map vals))) ∧ ∃ s', Hid (Inv n s' w') ∧ Hid (Only (Tn s0) w w') ∧ Hid (∀ i, Tn s' i → Tn s0 i ∨ w.heap.size ≤ i) ∧ Hid (∀ g, (Value.slice A n c).ownBlock = some g → ¬ Tn s' g) := by
  have HCALL := hid hcall
  have HTN := hid hTn
  have HKEEP := hid hkeep
  have H0 := hid h0
  obtain ⟨base, hbase⟩ : ∃ y, w.heap.size = y := ⟨_, rfl⟩
  rw [hbase] at HKEEP ⊢
  have HB0 := hid hbase
  clear hcall hTn hkeep h0 hbase
  go_enter Try.func58, Try.ntmps58
  go_wp2
  go_loopw [5, 7] (fun v i wr => ∃ (k : Nat) (A : Option Addr) (c : Nat) (s : Value), k ≤ n ∧ i = .int .i64 k ∧ v = .slice A k c ∧ Hid (Inv k s wr) ∧ Hid (ownsAt wr base 68 3 (.slice A k c) k (rowF Lnk.cells ((List.range k).map vals))) ∧ Hid (Only (Tn s0) w wr) ∧ Hid (∀ i, Tn s i → Tn s0 i ∨ base ≤ i) ∧ Hid (∀ g, (Value.slice A k c).ownBlock = some g → ¬ Tn s g)) (fun _ i _ => n - (intOf i).toNat)
  case atStart => exact ⟨0, _, _, s0, Nat.zero_le _, rfl, rfl, H0, hid (ownsAt_nil _ _ _ _), hid (Only.refl _ _), hid (fun i hi => .inl hi), hid (fun g e => by simp [Value.ownBlock] at e)⟩
  case round =>
    obtain ⟨k, A, c, s, hk, rfl, rfl, HI, HOW, HO, HT, HAP⟩ := hrel
    by_cases hlt : k < n
    · have hk1 : (k : Int) < (n : Int) := by omega
      have hk0 : (0 : Int) ≤ (k : Int) := by omega
      have HCK := hid (HCALL.out k hlt s wr HI.out)
      obtain ⟨d, hd⟩ : ∃ d, vals k = d := ⟨_, rfl⟩
      rw [hd] at HCK
      have HMR := hid (show rowF Lnk.cells ((List.range (k + 1)).map vals) = rowF Lnk.cells ((List.range k).map vals) ++ rowF Lnk.cells [d] by rw [map_range_succ, rowF_append, hd])
      clear hd
      go_wp2_with fail
      refine HCK.out.mono ?_
      rintro e W1 ⟨s', rfl, HI1, HO1, HT1⟩
      have HLT := hid HOW.out.lt
      have HNT := hid (show ∀ g, (Value.slice A k c).ownBlock = some g → ¬ Tn s' g from fun g e ht => by
        rcases HT1.out g ht with h | h
        · exact HAP.out g e h
        · have := (HLT.out g e).2; omega)
      replace HOW := hid (HOW.out.only HO1.out HAP.out)
      have HBS := hid (show base ≤ W1.heap.size by have := HB0.out; have := HO.out.size; have := HO1.out.size; omega)
      have HSW := hid (show base ≤ wr.heap.size by have := HB0.out; have := HO.out.size; omega)
      clear HCK
      go_upto_region 5 with (at_builtin; refine wpList_plain rfl fun K hK => ?_; go_loud (refine wp_app_row lnk_len (by decide) lnk_one Try.underlying23 info_lnkN (.tmp 9) (.tmp 12) rfl base (.slice A k c) k (rowF Lnk.cells ((List.range k).map vals)) rfl (HOW.out.ext ((Ext.refl _).alloc _)) (some ⟨W1.heap.size, 0, none⟩) 1 1 [d] rfl rfl (rdF_row1 (f := Lnk.cells) (z := d) (Row.new W1 _ _)) (by unfold maxLen; omega) (by omega) (by rw [World.size_alloc]; have := HBS.out; omega) ?_); intro v6 w6 hown hgrow hat; obtain ⟨A6, c6, rfl, _, _⟩ := hown.shape; refine hK _ _ ?_; clear hK K)
      have HS6 := hid (Only.trans' (Only.alloc (Only.refl (fun i => (Value.slice A k c).ownBlock = some i) W1) _) (grownOnly (S := fun i => (Value.slice A k c).ownBlock = some i) hgrow (fun g e => e)))
      have HI6 := hid (HKEEP.out (k + 1) s' W1 w6 _ HI1.out HS6.out (fun i hi => ⟨HNT.out i hi, (HLT.out i hi).1⟩))
      have HO6 := hid (Only.trans (Only.trans HO.out HO1.out (fun i hi => (HT.out i hi).imp id (fun h => by rw [HB0.out]; exact h))) HS6.out (fun i hi => .inr (by rw [HB0.out]; exact (HLT.out i hi).1)))
      have HT6 := hid (show ∀ i, Tn s' i → Tn s0 i ∨ base ≤ i from fun i hi => (HT1.out i hi).elim (HT.out i) (fun h => .inr (by have := HSW.out; omega)))
      have HAP6 := hid (show ∀ g, (Value.slice A6 (k + 1) c6).ownBlock = some g → ¬ Tn s' g from fun g e => hat.elim (fun h => HNT.out g (h ▸ e)) (fun ⟨g2, e2, h2⟩ ht => by
        rw [e] at e2
        cases e2
        have := HTN.out (k + 1) s' W1 HI1.out g ht
        rw [World.size_alloc] at h2
        omega))
      have HOW6 := hid (show ownsAt w6 base 68 3 (.slice A6 (k + 1) c6) (k + 1) (rowF Lnk.cells ((List.range (k + 1)).map vals)) by rw [HMR.out]; exact hown)
      clear hown hgrow hat HS6 HI1 HO1 HT1 HNT HLT HOW HI HO HT HAP HMR
      go_wp2
      go_roundw
      case rel => exact ⟨k + 1, _, _, s', by omega, by go_num, rfl, HI6, HOW6, HO6, HT6, HAP6⟩
      case measure => simp [intOf]; omega
    · obtain rfl : k = n := by omega
      have hk1 : ¬ (k : Int) < (k : Int) := by omega
      go_wp2
      go_ret
      exact ⟨A, c, rfl, HOW, s, HI, HO, HT, HAP⟩
set_option maxRecDepth 100000 in
set_option maxHeartbeats 4000000 in
theorem sevShr_ (F : FuncId) (P1 : Value) (n : Nat) (hn : n ≤ 1000) (vals : Nat → Shr) (Inv : Nat → Value → World → Prop) (Tn : Value → Nat → Prop) (s0 : Value) (w : World) (h0 : Inv 0 s0 w)
    (hfn : ∀ args w', Sem.run Try.prog (callFunc F args) w' = .ok (.enter F args) w')
    (hcall : ∀ k, k < n → ∀ s W, Inv k s W → Calls Try.prog F #[P1] W fun e W' => ∃ s', e = .returned (.agg #[.int .i64 (vals k).rd, .int .i64 (vals k).wr_]) ∧ Hid (Inv (k + 1) s' W') ∧ Hid (Only (Tn s) W W') ∧ Hid (∀ i, Tn s' i → Tn s i ∨ W.heap.size ≤ i))
    (hTn : ∀ k s W, Inv k s W → ∀ i, Tn s i → i < W.heap.size)
    (hkeep : ∀ k s W W' (S : Nat → Prop), Inv k s W → Only S W W' → (∀ i, S i → ¬ Tn s i ∧ w.heap.size ≤ i) → Inv k s W') :
    Calls Try.prog 60 #[.int .i64 (n : Int), .func (.func F) #[] #[P1]] w fun e w' => ∃ A c, e = .returned (.slice A n c) ∧ Hid (ownsAt w' w.heap.size 70 2 (.slice A n c) n (rowF Shr.cells ((List.range n).map vals))) ∧ ∃ s', Hid (Inv n s' w') ∧ Hid (Only (Tn s0) w w') ∧ Hid (∀ i, Tn s' i → Tn s0 i ∨ w.heap.size ≤ i) ∧ Hid (∀ g, (Value.slice A n c).ownBlock = some g → ¬ Tn s' g) := by
  have HCALL := hid hcall
  have HTN := hid hTn
  have HKEEP := hid hkeep
  have H0 := hid h0
  obtain ⟨base, hbase⟩ : ∃ y, w.heap.size = y := ⟨_, rfl⟩
  rw [hbase] at HKEEP ⊢
  have HB0 := hid hbase
  clear hcall hTn hkeep h0 hbase
  go_enter Try.func60, Try.ntmps60
  go_wp2
  go_loopw [5, 7] (fun v i wr => ∃ (k : Nat) (A : Option Addr) (c : Nat) (s : Value), k ≤ n ∧ i = .int .i64 k ∧ v = .slice A k c ∧ Hid (Inv k s wr) ∧ Hid (ownsAt wr base 70 2 (.slice A k c) k (rowF Shr.cells ((List.range k).map vals))) ∧ Hid (Only (Tn s0) w wr) ∧ Hid (∀ i, Tn s i → Tn s0 i ∨ base ≤ i) ∧ Hid (∀ g, (Value.slice A k c).ownBlock = some g → ¬ Tn s g)) (fun _ i _ => n - (intOf i).toNat)
  case atStart => exact ⟨0, _, _, s0, Nat.zero_le _, rfl, rfl, H0, hid (ownsAt_nil _ _ _ _), hid (Only.refl _ _), hid (fun i hi => .inl hi), hid (fun g e => by simp [Value.ownBlock] at e)⟩
  case round =>
    obtain ⟨k, A, c, s, hk, rfl, rfl, HI, HOW, HO, HT, HAP⟩ := hrel
    by_cases hlt : k < n
    · have hk1 : (k : Int) < (n : Int) := by omega
      have hk0 : (0 : Int) ≤ (k : Int) := by omega
      have HCK := hid (HCALL.out k hlt s wr HI.out)
      obtain ⟨d, hd⟩ : ∃ d, vals k = d := ⟨_, rfl⟩
      rw [hd] at HCK
      have HMR := hid (show rowF Shr.cells ((List.range (k + 1)).map vals) = rowF Shr.cells ((List.range k).map vals) ++ rowF Shr.cells [d] by rw [map_range_succ, rowF_append, hd])
      clear hd
      go_wp2_with fail
      refine HCK.out.mono ?_
      rintro e W1 ⟨s', rfl, HI1, HO1, HT1⟩
      have HLT := hid HOW.out.lt
      have HNT := hid (show ∀ g, (Value.slice A k c).ownBlock = some g → ¬ Tn s' g from fun g e ht => by
        rcases HT1.out g ht with h | h
        · exact HAP.out g e h
        · have := (HLT.out g e).2; omega)
      replace HOW := hid (HOW.out.only HO1.out HAP.out)
      have HBS := hid (show base ≤ W1.heap.size by have := HB0.out; have := HO.out.size; have := HO1.out.size; omega)
      have HSW := hid (show base ≤ wr.heap.size by have := HB0.out; have := HO.out.size; omega)
      clear HCK
      go_upto_region 5 with (at_builtin; refine wpList_plain rfl fun K hK => ?_; go_loud (refine wp_app_row shr_len (by decide) shr_one Try.underlying24 info_shrN (.tmp 9) (.tmp 12) rfl base (.slice A k c) k (rowF Shr.cells ((List.range k).map vals)) rfl (HOW.out.ext ((Ext.refl _).alloc _)) (some ⟨W1.heap.size, 0, none⟩) 1 1 [d] rfl rfl (rdF_row1 (f := Shr.cells) (z := d) (Row.new W1 _ _)) (by unfold maxLen; omega) (by omega) (by rw [World.size_alloc]; have := HBS.out; omega) ?_); intro v6 w6 hown hgrow hat; obtain ⟨A6, c6, rfl, _, _⟩ := hown.shape; refine hK _ _ ?_; clear hK K)
      have HS6 := hid (Only.trans' (Only.alloc (Only.refl (fun i => (Value.slice A k c).ownBlock = some i) W1) _) (grownOnly (S := fun i => (Value.slice A k c).ownBlock = some i) hgrow (fun g e => e)))
      have HI6 := hid (HKEEP.out (k + 1) s' W1 w6 _ HI1.out HS6.out (fun i hi => ⟨HNT.out i hi, (HLT.out i hi).1⟩))
      have HO6 := hid (Only.trans (Only.trans HO.out HO1.out (fun i hi => (HT.out i hi).imp id (fun h => by rw [HB0.out]; exact h))) HS6.out (fun i hi => .inr (by rw [HB0.out]; exact (HLT.out i hi).1)))
      have HT6 := hid (show ∀ i, Tn s' i → Tn s0 i ∨ base ≤ i from fun i hi => (HT1.out i hi).elim (HT.out i) (fun h => .inr (by have := HSW.out; omega)))
      have HAP6 := hid (show ∀ g, (Value.slice A6 (k + 1) c6).ownBlock = some g → ¬ Tn s' g from fun g e => hat.elim (fun h => HNT.out g (h ▸ e)) (fun ⟨g2, e2, h2⟩ ht => by
        rw [e] at e2
        cases e2
        have := HTN.out (k + 1) s' W1 HI1.out g ht
        rw [World.size_alloc] at h2
        omega))
      have HOW6 := hid (show ownsAt w6 base 70 2 (.slice A6 (k + 1) c6) (k + 1) (rowF Shr.cells ((List.range (k + 1)).map vals)) by rw [HMR.out]; exact hown)
      clear hown hgrow hat HS6 HI1 HO1 HT1 HNT HLT HOW HI HO HT HAP HMR
      go_wp2
      go_roundw
      case rel => exact ⟨k + 1, _, _, s', by omega, by go_num, rfl, HI6, HOW6, HO6, HT6, HAP6⟩
      case measure => simp [intOf]; omega
    · obtain rfl : k = n := by omega
      have hk1 : ¬ (k : Int) < (k : Int) := by omega
      go_wp2
      go_ret
      exact ⟨A, c, rfl, HOW, s, HI, HO, HT, HAP⟩

end Go.Proofs.Ytgldlkoohfclpaa
