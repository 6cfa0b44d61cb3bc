/- Layer 10: Begin, Barrier. -/
import Derived.Test.YthamfkbopjagdaaSweB
namespace Go.Proofs.Ythamfkbopjagdaa
set_option linter.unusedSimpArgs false
set_option linter.unusedVariables false
open Go.RowKit

set_option maxRecDepth 100000 in
set_option maxHeartbeats 4000000 in
theorem tdirty2_ (q g n : Nat) (B : Nat → Int) (T D : Nat → Bool) (w : World) (h : Mm w q g n B T D) : Calls Try.prog 35 #[.pointer (some ⟨q, 0, none⟩)] w fun e w' => ∃ A ca, e = .returned (.slice A (whichN D n).length ca) ∧ Hid (RdN w' A (whichN D n)) ∧ Hid (Ext w w') ∧ Hid ((whichN D n).length ≤ ca ∧ (A = none → ca = 0) ∧ ∀ b o, A = some ⟨b, o, none⟩ → w.heap.size ≤ b ∧ b < w'.heap.size) := by
  obtain ⟨i0, hi0, hz0, hz1, hz2⟩ := info_parts info_int
  have c0 := h.c0
  have hlq := h.ltq
  have hlg := h.ltg
  have hbd := h.bd
  have HH := hid h
  clear h
  go_enter Try.func35, Try.ntmps35
  go_wp2
  clear c0 hlq hlg
  go_loopw [3, 10] (fun v i wr => ∃ k : Nat, k ≤ n ∧ i = .int .i64 k ∧ Hid (ownsAt wr w.heap.size 3 1 v (whichN D k).length (ints (whichN D k))) ∧ Hid (Ext w wr)) (fun _ i _ => n - (intOf i).toNat)
  case atStart => exact ⟨0, Nat.zero_le _, rfl, hid (ownsAt_nil _ _ _ _), hid (Ext.refl _)⟩
  case round =>
    obtain ⟨k, hk, rfl, HO, HE⟩ := hrel
    have hk0 : (0 : Int) ≤ (k : Int) := by omega
    by_cases hlt : k < n
    · have hk1 : (k : Int) < (n : Int) := by omega
      have HM := hid (HH.out.ext HE.out)
      have c0 := HM.out.c0
      have hlq := HM.out.ltq
      have hlg := HM.out.ltg
      have hdt := HM.out.dt k hlt
      have hwl := whichN_len D k
      cases hD : D k with
      | false =>
        rw [hD] at hdt
        have HW := hid (whichN_no hD)
        clear hD
        go_wp2
        go_roundw
        case rel => exact ⟨k + 1, by omega, by go_num, by rw [HW.out]; exact HO, HE⟩
        case measure => simp [intOf]; omega
      | true =>
        rw [hD] at hdt
        have HW := hid (whichN_yes hD)
        clear hD
        go_wp2_with (at_builtin; refine wpList_plain rfl fun K hK => ?_; refine wp_append_at _ _ _ 52 rfl w.heap.size 3 i0 _ 1 8 Try.underlying52 hi0 hz0 hz1 hz2 rfl (by decide) _ _ _ rfl (HO.out.ext (Ext.alloc (Ext.refl _) _)) ⟨wr.heap.size, 0, none⟩ 1 1 [.int .i64 (k : Int)] rfl rfl (fun j u hj => by rw [Addr.add_lit]; exact (Row.new wr #[.int .i64 (k : Int)] _).range j u hj) (fun u hu => by obtain rfl : u = _ := List.mem_singleton.1 hu; rfl) (by unfold maxLen; omega) (by omega) (by have := HE.out.size; simp; omega) (by omega) ?_; intro v5 w5 hown5 hgrow5 hat5; refine hK _ _ ?_; clear hK K)
        have HO5 : Hid (ownsAt w5 w.heap.size 3 1 v5 (whichN D (k + 1)).length (ints (whichN D (k + 1)))) := hid (by
          rw [HW.out, ints_append, List.length_append]
          exact hown5)
        have HE5 : Hid (Ext w w5) := hid (Ext.only (HE.out.trans (Ext.alloc (Ext.refl _) _)) (grownOnly (S := fun i => w.heap.size ≤ i) hgrow5 (fun g e => (HO.out.lt g e).1)) (fun i hi => hi))
        clear hown5 hgrow5 hat5
        go_roundw
        case rel => exact ⟨k + 1, by omega, by go_num, HO5, HE5⟩
        case measure => simp [intOf]; omega
    · obtain rfl : k = n := by omega
      have hk1 : ¬ (k : Int) < (k : Int) := by omega
      obtain ⟨A, ca, rfl, hsh1, hsh2⟩ := HO.out.shape
      have HSH := hid (And.intro hsh1 hsh2)
      clear hsh1 hsh2
      go_wp2
      go_ret
      exact ⟨A, ca, rfl, hid (HO.out.rdN rfl), HE, hid ⟨HSH.out.1, HSH.out.2, fun b o e => HO.out.lt b (by rw [e]; rfl)⟩⟩
set_option maxRecDepth 100000 in
set_option maxHeartbeats 4000000 in
theorem begin_no (w W : World) (q g s p pq n mm : Nat) (B : Nat → Int) (T D P : Nat → Bool)  (A : Option Addr) (ca : Nat) (L : List Nat) (gone : Nat) (h : SWB w W q g s p pq n mm B T D P true A ca L gone) : Calls Try.prog 22 #[.pointer (some ⟨s, 0, none⟩)] W fun e W' => e = .returned (.bool false) ∧ W = W' := by
  have c2 := h.h3.c2
  have hlt := h.h3.lt
  clear h
  go_enter Try.func22, Try.ntmps22
  go_wp2
  go_ret
  exact ⟨rfl, rfl⟩
set_option maxRecDepth 100000 in
set_option maxHeartbeats 4000000 in
theorem begin_ (w W : World) (q g s p pq n mm : Nat) (B : Nat → Int) (T D P : Nat → Bool)  (A : Option Addr) (ca : Nat) (L : List Nat) (gone : Nat) (h : SWB w W q g s p pq n mm B T D P false A ca L gone) : Calls Try.prog 22 #[.pointer (some ⟨s, 0, none⟩)] W fun e W' => ∃ A' ca', e = .returned (.bool true) ∧ Hid (SWB w W' q g s p pq n mm B T D P true A' ca' (whichN D n) gone) ∧ Hid (Only (Gs g s) W W') := by
  have HS := hid h
  have c0 := h.h3.c0
  have c2 := h.h3.c2
  have hlt := h.h3.lt
  clear h
  go_enter Try.func22, Try.ntmps22
  go_wp2_with (go_at_call 35; refine (tdirty2_ q g n B T D _ HS.out.h1.1).mono ?_; rintro e W1 ⟨A1, ca1, rfl, HR1, HX1, HL1⟩; have HS1 := hid (HS.out.ext HX1.out); have d2 := HS1.out.h3.c2; have d3 := HS1.out.h3.c3; have f2 := HS1.out.h3.fz 2; have f3 := HS1.out.h3.fz 3; have hl1 := HS1.out.h3.lt)
  go_ret
  have hlow := HL1.out.2.2
  have hsz : s < W.heap.size ∧ g < W.heap.size ∧ pq < W.heap.size := ⟨HS.out.h3.lt, HS.out.h1.1.ltg, HS.out.h2.ltq⟩
  have x1 : Only (· = s) W1 (W1.setCell ⟨s, 2, none⟩ (.bool true)) := Only.setCell (S := (· = s)) (Only.refl _ _) (.inl rfl) _
  have s1 := HS1.out.h3.setRuns true
  have hr2 : RdN (W1.setCell ⟨s, 2, none⟩ (.bool true)) A1 (whichN D n) := HR1.out.set (fun b o e => by have := (hlow b o e).1; omega)
  have s2 := s1.setLeft (A' := A1) (ca' := ca1) (L' := whichN D n) rfl hr2 ⟨HL1.out.1, HL1.out.2.1⟩ (fun b o e => by have := (hlow b o e).1; omega) (fun b o e => by rw [World.size_setCell]; exact (hlow b o e).2)
  have x2 : Only (· = s) W1 ((W1.setCell ⟨s, 2, none⟩ (.bool true)).setCell ⟨s, 3, none⟩ (.slice A1 (whichN D n).length ca1)) := Only.setCell x1 (.inl rfl) _
  refine ⟨A1, ca1, rfl, hid (HS1.out.own s2 x2 (fun b o e => by have := (hlow b o e).1; omega) (fun x hx => (whichN_mem.1 hx).1)), hid ((Only.ofExt HX1.out).trans x2 (fun i e => .inl (.inr e)))⟩
theorem Row.set0 {w : World} {b : Nat} {u v : Value} {l : List Value} (h : Row w b 0 (u :: l)) : Row (w.setCell ⟨b, 0, none⟩ v) b 0 (v :: l) := by
  have h0 : w.cell? ⟨b, 0, none⟩ = some u := by have := h.at_ 0 u rfl; simpa using this
  refine ⟨by rw [World.size_setCell]; exact h.lt, fun j x hj => ?_, fun j hj => ?_⟩
  · rw [cell_set h0]
    by_cases e : j = 0
    · subst e
      rw [if_pos rfl]
      simpa using hj
    · rw [if_neg (by omega)]
      exact h.at_ j x (by rw [← hj]; cases j with | zero => exact absurd rfl e | succ j => rfl)
  · rw [World.frozen?_setCell]
    exact h.free j (by simpa using hj)
set_option maxRecDepth 100000 in
set_option maxHeartbeats 4000000 in
theorem barrier_ (w W : World) (q g s p pq n mm : Nat) (B : Nat → Int) (T D P : Nat → Bool) (runs : Bool) (A : Option Addr) (ca : Nat) (L : List Nat) (gone : Nat) (h : SWB w W q g s p pq n mm B T D P runs A ca L gone) (t : Bool) (b tp at_ pm ty : Int) (hb : b ≤ 9223372036854775807) : Calls Try.prog 37 #[.pointer (some ⟨s, 0, none⟩), .agg #[.bool t, .int .i64 b, .int .i64 tp, .int .i64 at_, .int .i64 pm, .int .i64 ty]] W fun e W' => e = .returned (.agg #[.bool (t && !hitsP mm P t b tp), .int .i64 b, .int .i64 tp, .int .i64 at_, .int .i64 pm, .int .i64 ty]) ∧ Ext W W' := by
  have HS := hid h
  clear h
  obtain ⟨hv, hhv⟩ : ∃ x, hitsP mm P t b tp = x := ⟨_, rfl⟩
  have HHV := hid hhv
  rw [hhv]
  clear hhv
  go_enter Try.func37, Try.ntmps37
  go_upto_region 1 with (fail)
  refine wp_gen (fun V => Hid (Ext W V) ∧ Hid (Row V W.heap.size 0 [.bool t, .int .i64 b, .int .i64 tp, .int .i64 at_, .int .i64 pm, .int .i64 ty]) ∧ Hid (Row V (W.heap.size + 1) 0 [.bool false, .int .i64 0, .int .i64 0, .int .i64 0, .int .i64 0, .int .i64 0])) ⟨hid (by repeat (first | (with_reducible exact Ext.refl _) | (with_reducible refine Ext.undrew ?_) | (with_reducible refine Ext.grow ?_ _) | (with_reducible refine Ext.drew ?_) | (with_reducible refine Ext.drewN ?_ _) | (with_reducible refine Ext.alloc ?_ _) | (with_reducible assumption) | ((with_reducible refine Ext.setCell ?_ ?_ _); rotate_left; (first | exact Nat.le_refl _ | ((try dsimp only); (try simp only [World.size_alloc, grow_size, World.size_setCell]); omega))))), hid ((Row.new W _ _).ext (Ext.alloc (Ext.refl _) _)), hid (by have := Row.new (W.alloc (.cells #[.bool t, .int .i64 b, .int .i64 tp, .int .i64 at_, .int .i64 pm, .int .i64 ty] 24)) #[.bool false, .int .i64 0, .int .i64 0, .int .i64 0, .int .i64 0, .int .i64 0] 24; simpa using this)⟩ ?_
  rintro W0 ⟨HX0, HA0, HR0⟩
  obtain ⟨cb, hcb⟩ : ∃ x, W.heap.size = x := ⟨_, rfl⟩
  obtain ⟨rb, hrb⟩ : ∃ x, W.heap.size + 1 = x := ⟨_, rfl⟩
  have HCB : Hid (W.heap.size = cb ∧ W.heap.size + 1 = rb) := hid ⟨hcb, hrb⟩
  have HRC : Hid (¬ rb = cb) := hid (by omega)
  have HSL : Hid (s < cb ∧ p < cb ∧ pq < cb) := hid (by have := HS.out.h3.lt; have := HS.out.h2.ltp; have := HS.out.h2.ltq; omega)
  rw [hrb] at HR0 ⊢
  rw [hcb] at HA0 ⊢
  clear hcb hrb
  have HS0 := hid (HS.out.ext HX0.out)
  have c1 := HS0.out.h3.c1
  have hlt := HS0.out.h3.lt
  have nsc : ¬ s = cb := by have := HSL.out; omega
  have a0 : World.cell? W0 ⟨cb, 0, none⟩ = some (.bool t) := by have := HA0.out.at_ 0 _ rfl; simpa using this
  have af0 : World.frozen? W0 ⟨cb, 0, none⟩ = false := by have := HA0.out.free 0 (by simp); simpa using this
  have a1 : World.cell? W0 ⟨cb, 1, none⟩ = some (.int .i64 b) := by have := HA0.out.at_ 1 _ rfl; simpa using this
  have af1 : World.frozen? W0 ⟨cb, 1, none⟩ = false := by have := HA0.out.free 1 (by simp); simpa using this
  have a2 : World.cell? W0 ⟨cb, 2, none⟩ = some (.int .i64 tp) := by have := HA0.out.at_ 2 _ rfl; simpa using this
  have af2 : World.frozen? W0 ⟨cb, 2, none⟩ = false := by have := HA0.out.free 2 (by simp); simpa using this
  have a3 : World.cell? W0 ⟨cb, 3, none⟩ = some (.int .i64 at_) := by have := HA0.out.at_ 3 _ rfl; simpa using this
  have af3 : World.frozen? W0 ⟨cb, 3, none⟩ = false := by have := HA0.out.free 3 (by simp); simpa using this
  have a4 : World.cell? W0 ⟨cb, 4, none⟩ = some (.int .i64 pm) := by have := HA0.out.at_ 4 _ rfl; simpa using this
  have af4 : World.frozen? W0 ⟨cb, 4, none⟩ = false := by have := HA0.out.free 4 (by simp); simpa using this
  have a5 : World.cell? W0 ⟨cb, 5, none⟩ = some (.int .i64 ty) := by have := HA0.out.at_ 5 _ rfl; simpa using this
  have af5 : World.frozen? W0 ⟨cb, 5, none⟩ = false := by have := HA0.out.free 5 (by simp); simpa using this
  have al := HA0.out.lt
  have r0 : World.cell? W0 ⟨rb, 0, none⟩ = some (.bool false) := by have := HR0.out.at_ 0 _ rfl; simpa using this
  have rf0 : World.frozen? W0 ⟨rb, 0, none⟩ = false := by have := HR0.out.free 0 (by simp); simpa using this
  have r1 : World.cell? W0 ⟨rb, 1, none⟩ = some (.int .i64 0) := by have := HR0.out.at_ 1 _ rfl; simpa using this
  have rf1 : World.frozen? W0 ⟨rb, 1, none⟩ = false := by have := HR0.out.free 1 (by simp); simpa using this
  have r2 : World.cell? W0 ⟨rb, 2, none⟩ = some (.int .i64 0) := by have := HR0.out.at_ 2 _ rfl; simpa using this
  have rf2 : World.frozen? W0 ⟨rb, 2, none⟩ = false := by have := HR0.out.free 2 (by simp); simpa using this
  have r3 : World.cell? W0 ⟨rb, 3, none⟩ = some (.int .i64 0) := by have := HR0.out.at_ 3 _ rfl; simpa using this
  have rf3 : World.frozen? W0 ⟨rb, 3, none⟩ = false := by have := HR0.out.free 3 (by simp); simpa using this
  have r4 : World.cell? W0 ⟨rb, 4, none⟩ = some (.int .i64 0) := by have := HR0.out.at_ 4 _ rfl; simpa using this
  have rf4 : World.frozen? W0 ⟨rb, 4, none⟩ = false := by have := HR0.out.free 4 (by simp); simpa using this
  have r5 : World.cell? W0 ⟨rb, 5, none⟩ = some (.int .i64 0) := by have := HR0.out.at_ 5 _ rfl; simpa using this
  have rf5 : World.frozen? W0 ⟨rb, 5, none⟩ = false := by have := HR0.out.free 5 (by simp); simpa using this
  have rl := HR0.out.lt
  cases t with
  | false =>
    refine wp_region_turn (q := cb) (.rd 0 (.ac 1 (.rd 2 (.rd 3 (.rd 4 (.rd 5 (.rd 6 (.rd 7 (.ac 8 (.ac 9 (.rd 10 (.rd 11 (.rd 12 (.ac 13 .done)))))))))))))) (by kernel_rfl) (by kernel_rfl) (fun _ _ d _ _ h => by cases d <;> exact h) (by simp only [Ord.map, nthOp, List.append]; rfl) ?_
    intro d0
    refine turn_read (by rfl) (fun K hK => ?_); go_big_quiet_op; refine hK _ ?_; clear hK K
    refine turn_act (by rfl) (fun K hK => ?_); go_wp2_with fail; refine ⟨_, Only.refl _ _, Only.refl _ _, ?_⟩
    refine turn_read (by rfl) (fun K hK => ?_); go_big_quiet_op; refine hK _ ?_; clear hK K
    refine turn_skip (by rfl) ?_; simp only [Act.put, List.setIfInBounds_toArray, List.set_cons_zero, List.set_cons_succ]
    refine turn_skip (by rfl) ?_; simp only [Act.put, List.setIfInBounds_toArray, List.set_cons_zero, List.set_cons_succ]
    refine turn_skip (by rfl) ?_; simp only [Act.put, List.setIfInBounds_toArray, List.set_cons_zero, List.set_cons_succ]
    refine turn_skip (by rfl) ?_; simp only [Act.put, List.setIfInBounds_toArray, List.set_cons_zero, List.set_cons_succ]
    refine turn_skip (by rfl) ?_; simp only [Act.put, List.setIfInBounds_toArray, List.set_cons_zero, List.set_cons_succ]
    refine turn_idle (by rfl) ?_; simp only [Act.put, List.setIfInBounds_toArray, List.set_cons_zero, List.set_cons_succ]
    refine turn_idle (by rfl) ?_; simp only [Act.put, List.setIfInBounds_toArray, List.set_cons_zero, List.set_cons_succ]
    refine turn_skip (by rfl) ?_; simp only [Act.put, List.setIfInBounds_toArray, List.set_cons_zero, List.set_cons_succ]
    refine turn_read (by rfl) (fun K hK => ?_); go_big_quiet_op; refine hK _ ?_; clear hK K
    refine turn_read (by rfl) (fun K hK => ?_); go_big_quiet_op; refine hK _ ?_; clear hK K
    refine turn_act (by rfl) (fun K hK => ?_); go_wp2_with fail
    refine ⟨_, Only.refl _ _, (by rw [← grow_setCell _ _ _ _ _ al]; exact Only.setCell (S := (· = cb)) (Only.refl _ _) (.inl rfl) _), ?_⟩
    refine turn_nil ?_
    go_upto_region 2 with (fail)
    clear c1 hlt a0 af0 a1 af1 a2 af2 a3 af3 a4 af4 a5 af5 r0 rf0 r1 rf1 r2 rf2 r3 rf3 r4 rf4 r5 rf5 al rl
    refine wp_gen (fun V => Hid (Ext W V) ∧ Hid (Row V cb 0 [.bool false, .int .i64 b, .int .i64 tp, .int .i64 at_, .int .i64 pm, .int .i64 ty]) ∧ Hid (Row V rb 0 [.bool false, .int .i64 0, .int .i64 0, .int .i64 0, .int .i64 0, .int .i64 0])) ⟨hid (Ext.only HX0.out ((Only.setCell (S := (· = cb)) (Only.refl _ _) (.inl rfl) _).transExt (Ext.grow (Ext.refl _) d0)) (fun i e => by have := HCB.out; omega)), hid ?pa, hid ?pb⟩ ?_
    case pa => exact (HA0.out.set0.ext (Ext.grow (Ext.refl _) d0))
    case pb => exact HR0.out.only ((Only.setCell (S := (· = cb)) (Only.refl _ _) (.inl rfl) _).transExt (Ext.grow (Ext.refl _) d0)) HRC.out
    rintro V ⟨HXV, HAV, HRV⟩
    have a0 : World.cell? V ⟨cb, 0, none⟩ = some (.bool false) := by have := HAV.out.at_ 0 _ rfl; simpa using this
    have af0 : World.frozen? V ⟨cb, 0, none⟩ = false := by have := HAV.out.free 0 (by simp); simpa using this
    have a1 : World.cell? V ⟨cb, 1, none⟩ = some (.int .i64 b) := by have := HAV.out.at_ 1 _ rfl; simpa using this
    have af1 : World.frozen? V ⟨cb, 1, none⟩ = false := by have := HAV.out.free 1 (by simp); simpa using this
    have a2 : World.cell? V ⟨cb, 2, none⟩ = some (.int .i64 tp) := by have := HAV.out.at_ 2 _ rfl; simpa using this
    have af2 : World.frozen? V ⟨cb, 2, none⟩ = false := by have := HAV.out.free 2 (by simp); simpa using this
    have a3 : World.cell? V ⟨cb, 3, none⟩ = some (.int .i64 at_) := by have := HAV.out.at_ 3 _ rfl; simpa using this
    have af3 : World.frozen? V ⟨cb, 3, none⟩ = false := by have := HAV.out.free 3 (by simp); simpa using this
    have a4 : World.cell? V ⟨cb, 4, none⟩ = some (.int .i64 pm) := by have := HAV.out.at_ 4 _ rfl; simpa using this
    have af4 : World.frozen? V ⟨cb, 4, none⟩ = false := by have := HAV.out.free 4 (by simp); simpa using this
    have a5 : World.cell? V ⟨cb, 5, none⟩ = some (.int .i64 ty) := by have := HAV.out.at_ 5 _ rfl; simpa using this
    have af5 : World.frozen? V ⟨cb, 5, none⟩ = false := by have := HAV.out.free 5 (by simp); simpa using this
    have al := HAV.out.lt
    have r0 : World.cell? V ⟨rb, 0, none⟩ = some (.bool false) := by have := HRV.out.at_ 0 _ rfl; simpa using this
    have rf0 : World.frozen? V ⟨rb, 0, none⟩ = false := by have := HRV.out.free 0 (by simp); simpa using this
    have r1 : World.cell? V ⟨rb, 1, none⟩ = some (.int .i64 0) := by have := HRV.out.at_ 1 _ rfl; simpa using this
    have rf1 : World.frozen? V ⟨rb, 1, none⟩ = false := by have := HRV.out.free 1 (by simp); simpa using this
    have r2 : World.cell? V ⟨rb, 2, none⟩ = some (.int .i64 0) := by have := HRV.out.at_ 2 _ rfl; simpa using this
    have rf2 : World.frozen? V ⟨rb, 2, none⟩ = false := by have := HRV.out.free 2 (by simp); simpa using this
    have r3 : World.cell? V ⟨rb, 3, none⟩ = some (.int .i64 0) := by have := HRV.out.at_ 3 _ rfl; simpa using this
    have rf3 : World.frozen? V ⟨rb, 3, none⟩ = false := by have := HRV.out.free 3 (by simp); simpa using this
    have r4 : World.cell? V ⟨rb, 4, none⟩ = some (.int .i64 0) := by have := HRV.out.at_ 4 _ rfl; simpa using this
    have rf4 : World.frozen? V ⟨rb, 4, none⟩ = false := by have := HRV.out.free 4 (by simp); simpa using this
    have r5 : World.cell? V ⟨rb, 5, none⟩ = some (.int .i64 0) := by have := HRV.out.at_ 5 _ rfl; simpa using this
    have rf5 : World.frozen? V ⟨rb, 5, none⟩ = false := by have := HRV.out.free 5 (by simp); simpa using this
    have rl := HRV.out.lt
    have HRCB : Hid (W.heap.size ≤ rb) := hid (by have := HCB.out; omega)
    go_wp2
    exact bodyPost_ret (v := .agg #[.bool (false), .int .i64 b, .int .i64 tp, .int .i64 at_, .int .i64 pm, .int .i64 ty]) (by simp [results, Try.results37, go_sem, *]) rfl ⟨rfl, (by repeat (first | (with_reducible exact HXV.out) | ((with_reducible refine Ext.setCell ?_ ?_ _); rotate_left; exact HRCB.out)))⟩
  | true =>
    refine wp_region_turn (q := cb) (.rd 0 (.ac 1 (.rd 2 (.rd 3 (.rd 4 (.rd 5 (.rd 6 (.rd 7 (.ac 8 (.ac 9 (.rd 10 (.rd 11 (.rd 12 (.ac 13 .done)))))))))))))) (by kernel_rfl) (by kernel_rfl) (fun _ _ d _ _ h => by cases d <;> exact h) (by simp only [Ord.map, nthOp, List.append]; rfl) ?_
    intro d0
    refine turn_read (by rfl) (fun K hK => ?_); go_big_quiet_op; refine hK _ ?_; clear hK K
    refine turn_act (by rfl) (fun K hK => ?_); go_wp2_with fail; refine ⟨_, Only.refl _ _, Only.refl _ _, ?_⟩
    refine turn_read (by rfl) (fun K hK => ?_); go_big_quiet_op; refine hK _ ?_; clear hK K
    refine turn_read (by rfl) (fun K hK => ?_); go_big_quiet_op; refine hK _ ?_; clear hK K
    refine turn_read (by rfl) (fun K hK => ?_); go_big_quiet_op; refine hK _ ?_; clear hK K
    refine turn_read (by rfl) (fun K hK => ?_); go_big_quiet_op; refine hK _ ?_; clear hK K
    refine turn_read (by rfl) (fun K hK => ?_); go_big_quiet_op; refine hK _ ?_; clear hK K
    refine turn_read (by rfl) (fun K hK => ?_); go_big_quiet_op; refine hK _ ?_; clear hK K
    refine turn_act (by rfl) (fun K hK => ?_); go_wp2_with fail; refine ⟨_, Only.refl _ _, Only.refl _ _, ?_⟩
    refine turn_act (by rfl) (fun K hK => ?_); go_wp2_with (go_at_call 43; refine (hits_ p pq mm P true b tp at_ pm ty _ (HS0.out.h2.ext (by repeat (first | (with_reducible exact Ext.refl _) | (with_reducible refine Ext.undrew ?_) | (with_reducible refine Ext.grow ?_ _) | (with_reducible refine Ext.drew ?_) | (with_reducible refine Ext.drewN ?_ _) | (with_reducible refine Ext.alloc ?_ _) | (with_reducible assumption) | ((with_reducible refine Ext.setCell ?_ ?_ _); rotate_left; (first | exact Nat.le_refl _ | ((try dsimp only); (try simp only [World.size_alloc, grow_size, World.size_setCell]); omega)))))) hb).mono ?_; rw [HHV.out]; rintro e W3 ⟨rfl, hx3⟩)
    refine ⟨W3, Only.ofExt hx3, Only.refl _ _, ?_⟩
    have hx03 : Ext W0 W3 := (Ext.grow (Ext.refl _) d0).trans hx3
    have g0 := (hx03.cells cb 0 al).trans a0
    have gf := (hx03.frozens cb 0 al).trans af0
    have gl := Nat.lt_of_lt_of_le al hx03.size
    refine turn_read (by rfl) (fun K hK => ?_); go_big_quiet_op; refine hK _ ?_; clear hK K
    refine turn_read (by rfl) (fun K hK => ?_); go_big_quiet_op; refine hK _ ?_; clear hK K
    refine turn_read (by rfl) (fun K hK => ?_); go_big_quiet_op; refine hK _ ?_; clear hK K
    refine turn_act (by rfl) (fun K hK => ?_); go_wp2_with fail
    refine ⟨_, Only.refl _ _, Only.setCell (S := (· = cb)) (Only.refl _ _) (.inl rfl) _, ?_⟩
    refine turn_nil ?_
    clear g0 gf gl
    go_upto_region 2 with (fail)
    clear c1 hlt a0 af0 a1 af1 a2 af2 a3 af3 a4 af4 a5 af5 r0 rf0 r1 rf1 r2 rf2 r3 rf3 r4 rf4 r5 rf5 al rl
    refine wp_gen (fun V => Hid (Ext W V) ∧ Hid (Row V cb 0 [.bool !hv, .int .i64 b, .int .i64 tp, .int .i64 at_, .int .i64 pm, .int .i64 ty]) ∧ Hid (Row V rb 0 [.bool false, .int .i64 0, .int .i64 0, .int .i64 0, .int .i64 0, .int .i64 0])) ⟨hid (Ext.only HX0.out (Only.setCell (S := (· = cb)) (Only.ofExt hx03) (.inl rfl) _) (fun i e => by have := HCB.out; omega)), hid ?pa, hid ?pb⟩ ?_
    case pa => exact ((HA0.out.ext hx03).set0)
    case pb => exact HR0.out.only (Only.setCell (S := (· = cb)) (Only.ofExt hx03) (.inl rfl) _) HRC.out
    rintro V ⟨HXV, HAV, HRV⟩
    have a0 : World.cell? V ⟨cb, 0, none⟩ = some (.bool !hv) := by have := HAV.out.at_ 0 _ rfl; simpa using this
    have af0 : World.frozen? V ⟨cb, 0, none⟩ = false := by have := HAV.out.free 0 (by simp); simpa using this
    have a1 : World.cell? V ⟨cb, 1, none⟩ = some (.int .i64 b) := by have := HAV.out.at_ 1 _ rfl; simpa using this
    have af1 : World.frozen? V ⟨cb, 1, none⟩ = false := by have := HAV.out.free 1 (by simp); simpa using this
    have a2 : World.cell? V ⟨cb, 2, none⟩ = some (.int .i64 tp) := by have := HAV.out.at_ 2 _ rfl; simpa using this
    have af2 : World.frozen? V ⟨cb, 2, none⟩ = false := by have := HAV.out.free 2 (by simp); simpa using this
    have a3 : World.cell? V ⟨cb, 3, none⟩ = some (.int .i64 at_) := by have := HAV.out.at_ 3 _ rfl; simpa using this
    have af3 : World.frozen? V ⟨cb, 3, none⟩ = false := by have := HAV.out.free 3 (by simp); simpa using this
    have a4 : World.cell? V ⟨cb, 4, none⟩ = some (.int .i64 pm) := by have := HAV.out.at_ 4 _ rfl; simpa using this
    have af4 : World.frozen? V ⟨cb, 4, none⟩ = false := by have := HAV.out.free 4 (by simp); simpa using this
    have a5 : World.cell? V ⟨cb, 5, none⟩ = some (.int .i64 ty) := by have := HAV.out.at_ 5 _ rfl; simpa using this
    have af5 : World.frozen? V ⟨cb, 5, none⟩ = false := by have := HAV.out.free 5 (by simp); simpa using this
    have al := HAV.out.lt
    have r0 : World.cell? V ⟨rb, 0, none⟩ = some (.bool false) := by have := HRV.out.at_ 0 _ rfl; simpa using this
    have rf0 : World.frozen? V ⟨rb, 0, none⟩ = false := by have := HRV.out.free 0 (by simp); simpa using this
    have r1 : World.cell? V ⟨rb, 1, none⟩ = some (.int .i64 0) := by have := HRV.out.at_ 1 _ rfl; simpa using this
    have rf1 : World.frozen? V ⟨rb, 1, none⟩ = false := by have := HRV.out.free 1 (by simp); simpa using this
    have r2 : World.cell? V ⟨rb, 2, none⟩ = some (.int .i64 0) := by have := HRV.out.at_ 2 _ rfl; simpa using this
    have rf2 : World.frozen? V ⟨rb, 2, none⟩ = false := by have := HRV.out.free 2 (by simp); simpa using this
    have r3 : World.cell? V ⟨rb, 3, none⟩ = some (.int .i64 0) := by have := HRV.out.at_ 3 _ rfl; simpa using this
    have rf3 : World.frozen? V ⟨rb, 3, none⟩ = false := by have := HRV.out.free 3 (by simp); simpa using this
    have r4 : World.cell? V ⟨rb, 4, none⟩ = some (.int .i64 0) := by have := HRV.out.at_ 4 _ rfl; simpa using this
    have rf4 : World.frozen? V ⟨rb, 4, none⟩ = false := by have := HRV.out.free 4 (by simp); simpa using this
    have r5 : World.cell? V ⟨rb, 5, none⟩ = some (.int .i64 0) := by have := HRV.out.at_ 5 _ rfl; simpa using this
    have rf5 : World.frozen? V ⟨rb, 5, none⟩ = false := by have := HRV.out.free 5 (by simp); simpa using this
    have rl := HRV.out.lt
    have HRCB : Hid (W.heap.size ≤ rb) := hid (by have := HCB.out; omega)
    go_wp2
    exact bodyPost_ret (v := .agg #[.bool (!hv), .int .i64 b, .int .i64 tp, .int .i64 at_, .int .i64 pm, .int .i64 ty]) (by simp [results, Try.results37, go_sem, *]) rfl ⟨rfl, (by repeat (first | (with_reducible exact HXV.out) | ((with_reducible refine Ext.setCell ?_ ?_ _); rotate_left; exact HRCB.out)))⟩

end Go.Proofs.Ythamfkbopjagdaa
