/- Layer 10: the document's Step, Barrier; great. -/
import Derived.Test.YthamfkbopjagdaaSweR
import Derived.Test.YthamfkbopjagdaaSweL
import Derived.Deep.Upon
import Derived.Deep.AppendSrc
namespace Go.Proofs.Ythamfkbopjagdaa
set_option linter.unusedSimpArgs false
set_option linter.unusedVariables false
open Go.RowKit

/-- Append of any row of numbers onto an own one. -/
theorem wp_app_ints {o : Oper} {a : Act} {w : World} {K : Act → World → Prop} {Q : Exit → Act → World → Prop} (s x : Operand)
    (ho : o.op = .call { callee := .builtin .append, args := #[s, x], argTypes := #[52, 52] })
    (bh : Nat) (v : Value) (n : Nat) (l : List Nat) (hs : a.eval s = v) (hown : ownsAt w bh 3 1 v n (ints l))
    (A : Option Addr) (k c : Nat) (lm : List Nat) (hx : a.eval x = .slice A k c) (hk : lm.length = k) (hr : RdN w A lm)
    (h63 : n + k ≤ 1000000) (hbase : bh ≤ w.heap.size)
    (h : ∀ v' w', ownsAt w' bh 3 1 v' (n + k) (ints (l ++ lm)) → w.grownBy w' v.ownBlock → K (a.put o.dst v') w') : o.wp Try.prog a w K Q := by
  obtain ⟨i0, hi0, hz0, hz1, hz2⟩ := info_parts info_int
  subst hk
  rcases Nat.eq_zero_or_pos lm.length with h0 | h0
  · have hl0 : lm = [] := List.eq_nil_of_length_eq_zero h0
    subst hl0
    obtain ⟨A', c', rfl, hc', _⟩ := hown.shape
    have hsrc : Src Try.prog i0.size 52 (.slice A 0 c) 0 [] w := by
      rcases A with _ | ad
      · exact Src.ofNil w Try.underlying52 c
      · exact Src.ofSlice w Try.underlying52 ad 0 c [] (by simp) (fun j u hj => by simp at hj) (fun _ h => nomatch h)
    have hrun := run_append_nothing (P := Try.prog) w 52 52 o.type 3 i0 Try.underlying52 hi0 A' n c' hc' (.slice A 0 c) hsrc
    unfold Oper.wp execOp
    simp only [ho, resolve, invoke, builtin, Sem.run_bind, Sem.run_pure, Result.andThen_ok, List.map_toArray, List.map_cons, List.map_nil, hs, hx, List.length_nil, hrun]
    exact h _ w (by rw [List.append_nil]; exact hown) ⟨rfl, rfl, rfl, Nat.le_refl _, fun _ _ _ => rfl⟩
  · obtain ⟨b, off, rfl, hb, hc⟩ := hr h0
    refine wp_append_at w s x 52 ho bh 3 i0 _ 1 8 Try.underlying52 hi0 hz0 hz1 hz2 rfl (by decide) v n (ints l) hs hown ⟨b, off, none⟩ lm.length c (ints lm) hx (by rw [ints_length, Nat.mul_one]) (fun j u hj => ?_) (fun u hu => ?_) (by unfold maxLen; omega) (by omega) hbase h0 ?_
    · rw [Addr.add_lit]
      have hjl : j < lm.length := by
        have := (List.getElem?_eq_some_iff.1 hj).1
        rwa [ints_length] at this
      rw [hc j hjl]
      have : (ints lm)[j]? = some (.int .i64 (lm[j] : Int)) := by simp [ints, hjl]
      rw [this] at hj
      exact hj
    · obtain ⟨y, _, rfl⟩ := List.mem_map.1 hu
      rfl
    · intro v' w' h1 h2 h3
      exact h v' w' (by rw [ints_append]; exact h1) h2
set_option maxRecDepth 100000 in
set_option maxHeartbeats 4000000 in
theorem rstep_no (w W : World) (r gb gt gp s p pq n nb nt mm : Nat) (B : Nat → Int) (T D P : Nat → Bool) (runs : Bool) (A : Option Addr) (ca : Nat) (L : List Nat) (gone : Nat) (h : SWR w W r gb gt gp s p pq n nb nt mm B T D P runs A ca L gone) (k : Int) (hc : runs = false ∨ k < 1) : Calls Try.prog 25 #[.pointer (some ⟨s, 0, none⟩), .int .i64 k] W fun e W' => e = .returned (.int .i64 0) ∧ W = W' := by
  have c2 := h.h3.c2
  have hlt := h.h3.lt
  clear h
  by_cases hr : runs = true
  · subst hr
    have hk : k < 1 := by rcases hc with e | e; cases e; exact e
    go_enter Try.func25, Try.ntmps25
    go_wp2
    go_ret
    exact ⟨rfl, rfl⟩
  · obtain rfl : runs = false := by cases runs; rfl; exact absurd rfl hr
    go_enter Try.func25, Try.ntmps25
    go_wp2
    go_ret
    exact ⟨rfl, rfl⟩
def RStIs (w W : World) (r gb gt gp s p pq n nb nt mm : Nat) (B : Nat → Int) (T D P : Nat → Bool) (gone : Nat) (L : List Nat) (nr : Nat) (rr : Bool) (e : Ending) (W' : World) : Prop :=
  ∃ A' ca', e = .returned (.int .i64 (nr : Int)) ∧ Hid (SWR w W' r gb gt gp s p pq n nb nt mm B (stS n mm P B (T, D, gone) (L.take nr)).1 (stS n mm P B (T, D, gone) (L.take nr)).2.1 P rr A' ca' (L.drop nr) (stS n mm P B (T, D, gone) (L.take nr)).2.2) ∧ Hid (Only (Qs gb gt gp s) W W') ∧ Hid (∀ b o, A' = some ⟨b, o, none⟩ → W.heap.size ≤ b)
set_option maxRecDepth 100000 in
set_option maxHeartbeats 4000000 in
theorem rstep_ (w W : World) (r gb gt gp s p pq n nb nt mm : Nat) (B : Nat → Int) (T D P : Nat → Bool)  (A : Option Addr) (ca : Nat) (L : List Nat) (gone : Nat) (h : SWR w W r gb gt gp s p pq n nb nt mm B T D P true A ca L gone) (nr m : Nat) (pages : Int) (hm : L.length = m) (hm1 : m ≤ 1000000) (hpg : 1 ≤ pages) (hr : nr ≤ m ∧ ((m : Int) ≤ pages ∧ nr = m ∨ pages ≤ (m : Int) ∧ (nr : Int) = pages)) (hgone : gone + 16 * m ≤ 4611686018427387904) (hB : ∀ y, 0 ≤ B y ∧ B y ≤ 255) :
    Calls Try.prog 25 #[.pointer (some ⟨s, 0, none⟩), .int .i64 pages] W fun e W' => RStIs w W r gb gt gp s p pq n nb nt mm B T D P gone L nr (decide (nr < m)) e W' := by
  obtain ⟨i0, hi0, hz0, hz1, hz2⟩ := info_parts info_int
  have HS := hid h
  have HM := hid hm
  have HM1 := hid hm1
  have HRM := hid hr.1
  have HGB := hid hgone
  have HBR := hid hB
  have HMIN : Hid (min pages (m : Int) = (nr : Int)) := hid (by rcases hr.2 with ⟨a, b⟩ | ⟨a, b⟩ <;> omega)
  have hpg' : ¬ pages < 1 := by omega
  have HLT : Hid (s < W.heap.size ∧ gb < W.heap.size ∧ gt < W.heap.size ∧ gp < W.heap.size ∧ pq < W.heap.size) := hid ⟨h.h3.lt, h.h1.lb, h.h1.lt, h.h1.lp, h.h2.ltq⟩
  obtain ⟨mr, hmr⟩ : ∃ x, m - nr = x := ⟨_, rfl⟩
  have HMR : Hid (m = nr + mr) := hid (by have := hr.1; omega)
  have HMR2 := hid hmr
  have HDL : Hid ((L.drop nr).length = mr) := hid (by rw [List.length_drop, hm]; exact hmr)
  have c2 := h.h3.c2
  have c3 := h.h3.c3
  rw [hm] at c3
  have hlt := h.h3.lt
  have hrb : nr ≤ 1000000 := by have := hr.1; omega
  have HAB : Hid (∀ b o, A = some ⟨b, o, none⟩ → b < W.heap.size) := hid h.h3.ab
  clear h hm hr hgone hB hmr
  go_enter Try.func25, Try.ntmps25
  go_upto_region 4 with fail
  rw [HMIN.out]
  clear c2 c3 hlt
  go_wp2
  go_loopw [6] (fun i wr => ∃ k : Nat, k ≤ nr ∧ i = .int .i64 k ∧ Hid (SWR w wr r gb gt gp s p pq n nb nt mm B (stS n mm P B (T, D, gone) (L.take k)).1 (stS n mm P B (T, D, gone) (L.take k)).2.1 P true A ca L (stS n mm P B (T, D, gone) (L.take k)).2.2) ∧ Hid (Only (Qs gb gt gp s) W wr)) (fun i _ => nr - (intOf i).toNat)
  case atStart => exact ⟨0, Nat.zero_le _, rfl, hid HS.out, hid (Only.refl _ _)⟩
  case round =>
    obtain ⟨k, hk, rfl, HA, HO⟩ := hrel
    have hk0 : (0 : Int) ≤ (k : Int) := by omega
    by_cases hlt : k < nr
    · have hk1 : (k : Int) < (nr : Int) := by omega
      have hkm : k < m := by have := HRM.out; omega
      obtain ⟨x, hx⟩ : ∃ x, L[k]'(by rw [HM.out]; exact hkm) = x := ⟨_, rfl⟩
      have hxn : x < n := by rw [← hx]; exact HS.out.lb _ (List.getElem_mem _)
      obtain ⟨b0, o0, rfl, hb0, hc0⟩ := HA.out.h3.rd (by rw [HM.out]; omega)
      have cx := hc0 k (by rw [HM.out]; exact hkm)
      rw [hx] at cx
      have HTK : Hid (L.take (k + 1) = L.take k ++ [x]) := hid (by rw [List.take_succ_eq_append_getElem (by rw [HM.out]; exact hkm), hx])
      have HGN : Hid ((stS n mm P B (T, D, gone) (L.take k)).2.2 ≤ 4611686018427387904) := hid (by
        have e1 := stS_le n mm P B (L.take k) (T, D, gone)
        have e2 := HGB.out
        have e3 : (L.take k).length ≤ k := by rw [List.length_take]; omega
        simp only at e1
        omega)
      have c3 := HA.out.h3.c3
      rw [HM.out] at c3
      have hlt3 := HA.out.h3.lt
      clear hc0 hx
      go_wp2_with (go_at_call 58; refine (rpage_ w _ r gb gt gp s p pq n nb nt mm B _ _ P true (some ⟨b0, o0, none⟩) ca L _ HA.out x hxn HGN.out HBR.out).mono ?_; rintro e W2 ⟨rfl, HA2, HO2⟩)
      have HA3 : Hid (SWR w W2 r gb gt gp s p pq n nb nt mm B (stS n mm P B (T, D, gone) (L.take (k + 1))).1 (stS n mm P B (T, D, gone) (L.take (k + 1))).2.1 P true (some ⟨b0, o0, none⟩) ca L (stS n mm P B (T, D, gone) (L.take (k + 1))).2.2) := hid (by
        rw [HTK.out, stS_snoc]
        exact HA2.out)
      have HO3 : Hid (Only (Qs gb gt gp s) W W2) := hid (HO.out.trans HO2.out (fun i e => .inl e))
      clear HA2 HO2 c3 hlt3 cx hb0
      go_roundw
      case rel => exact ⟨k + 1, by omega, by go_num, HA3, HO3⟩
      case measure => simp [intOf]; omega
    · obtain rfl : nr = k := by omega
      have hk1 : ¬ (nr : Int) < (nr : Int) := by omega
      have c3 := HA.out.h3.c3
      rw [HM.out] at c3
      have hlt3 := HA.out.h3.lt
      have hca : m ≤ ca := by have := HA.out.h3.lc.1; rw [HM.out] at this; exact this
      have hrm : nr ≤ m := HRM.out
      have hfz3 := HA.out.h3.fz 3
      have hfz2 := HA.out.h3.fz 2
      have c3 := HA.out.h3.c3
      rw [HM.out] at c3
      have hlt3 := HA.out.h3.lt
      have hca : m ≤ ca := by have := HA.out.h3.lc.1; rw [HM.out] at this; exact this
      have hrm : nr ≤ m := HRM.out
      have hfz3 := HA.out.h3.fz 3
      have hfz2 := HA.out.h3.fz 2
      by_cases hmr0 : mr = 0
      · have HND : Hid (∀ W A, RdN W A (L.drop nr)) := hid (fun W A h0 => by rw [HDL.out] at h0; omega)
        have HM0 : Hid (mr = 0) := hid hmr0
        have hrm0 : m - nr = 0 := by have := HMR2.out; omega
        clear hmr0
        rcases A with _ | ⟨b0, o0, x0⟩
        · skip
          have HEV : Hid (ownsAt (wr.alloc (.cells #[] 3)) W.heap.size 3 1 (.slice (some ⟨wr.heap.size, 0, none⟩) 0 0) 0 []) := hid (ownsAt_of ⟨rfl, Or.inr ⟨wr.heap.size, 0, #[], rfl, HO.out.size, heap_alloc_new wr _, by omega, by unfold maxLen; omega, by simp, by simp⟩⟩)
          go_upto_region 9 with (at_builtin; refine wpList_plain rfl fun K hK => ?_; go_loud (refine wp_app_ints _ _ rfl W.heap.size _ 0 [] rfl HEV.out _ 0 _ (L.drop nr) rfl (by rw [HDL.out, HM0.out]) (HND.out _ _) (by have := HMR.out; have := HM1.out; omega) (by have := HO.out.size; simp; omega) ?_); intro v5 W5 hown5 hgrow5; refine hK _ _ ?_; clear hK K; rw [List.nil_append, Nat.zero_add] at hown5; have HV5 : Hid (ownsAt W5 W.heap.size 3 1 v5 mr (ints (L.drop nr))) := hid (by first | exact hown5 | (rw [← HMR2.out]; exact hown5) | (rw [HM0.out]; exact hown5)); have HX5 : Hid (Only (fun i => W.heap.size ≤ i) wr W5) := hid ((Only.ofExt (Ext.alloc (Ext.refl _) _)).trans (grownOnly (S := fun i => W.heap.size ≤ i) hgrow5 (fun g e => (HEV.out.lt g e).1)) (fun i hi => .inl hi)); have HA5 := hid (HA.out.onlyS HX5.out (by have := HLT.out; have h2 := HS.out.h1.lr; have h3 := HS.out.h2.ltp; refine ⟨?_, ?_, ?_, ?_, ?_, ?_, ?_⟩ <;> omega) (fun b o e => by have := HAB.out b o e; omega) (fun i hi => Nat.le_trans HS.out.h0.size hi)); have HO5 : Hid (Only (Qs gb gt gp s) W W5) := hid (HO.out.trans HX5.out (fun i hi => .inr hi)); clear hown5 hgrow5 HEV HX5 HA HO c3 hlt3 hfz3 hfz2; have d3 := HA5.out.h3.c3; have d2 := HA5.out.h3.c2; have e3 := HA5.out.h3.fz 3; have e2 := HA5.out.h3.fz 2; have hlt5 := HA5.out.h3.lt; obtain ⟨A5, c5, rfl, hs5, hn5⟩ := HV5.out.shape; have HS5 := hid (And.intro hs5 hn5); clear hs5 hn5)
          have h1 := HA5.out.h3.setLeft (A' := A5) (ca' := c5) (L' := L.drop nr) (k := mr) HDL.out (HV5.out.rdN HDL.out) ⟨by rw [HDL.out]; exact HS5.out.1, HS5.out.2⟩ (fun b o e => by have := (HV5.out.lt b (by rw [e]; rfl)).1; have := HLT.out; omega) (fun b o e => (HV5.out.lt b (by rw [e]; rfl)).2)
          have h2 := h1.setRuns (decide (nr < m))
          have hx2 : Only (· = s) W5 ((W5.setCell ⟨s, 3, none⟩ (.slice A5 mr c5)).setCell ⟨s, 2, none⟩ (.bool (decide (nr < m)))) := Only.setCell (Only.setCell (S := (· = s)) (Only.refl _ _) (.inl rfl) _) (.inl rfl) _
          have HFIN : Hid (SWR w ((W5.setCell ⟨s, 3, none⟩ (.slice A5 mr c5)).setCell ⟨s, 2, none⟩ (.bool (decide (nr < m)))) r gb gt gp s p pq n nb nt mm B (stS n mm P B (T, D, gone) (L.take nr)).1 (stS n mm P B (T, D, gone) (L.take nr)).2.1 P (decide (nr < m)) A5 c5 (L.drop nr) (stS n mm P B (T, D, gone) (L.take nr)).2.2) := hid (HA5.out.own h2 hx2 (fun b o e => by have := (HV5.out.lt b (by rw [e]; rfl)).1; have := HLT.out; omega) (fun x hx => HS.out.lb x (List.mem_of_mem_drop hx)))
          have HOF := hid (HO5.out.trans hx2 (fun i e => .inl (.inr e)))
          have hmr0 : decide (0 < mr) = decide (nr < m) := decide_eq_decide.2 (by have := HMR.out; omega)
          clear h1 h2 hx2 HA5 HO5
          go_wp2
          go_ret
          exact ⟨A5, c5, rfl, hid (by first | exact HFIN.out | (rw [← hmr0]; exact HFIN.out) | (have h := HFIN.out; rw [HDEC.out] at h ⊢; exact h)), (by first | exact HOF | (rw [← hmr0] at HOF; exact HOF) | (have h := HOF.out; rw [HDEC.out] at h; exact hid h)), hid (fun b o e => (HV5.out.lt b (by rw [e]; rfl)).1)⟩
        · by_cases hcc : ca = nr
          · have hcc0 : ca - nr = 0 := by omega
            have HEV : Hid (ownsAt (wr.alloc (.cells #[] 3)) W.heap.size 3 1 (.slice (some ⟨wr.heap.size, 0, none⟩) 0 0) 0 []) := hid (ownsAt_of ⟨rfl, Or.inr ⟨wr.heap.size, 0, #[], rfl, HO.out.size, heap_alloc_new wr _, by omega, by unfold maxLen; omega, by simp, by simp⟩⟩)
            go_upto_region 9 with (at_builtin; refine wpList_plain rfl fun K hK => ?_; go_loud (refine wp_app_ints _ _ rfl W.heap.size _ 0 [] rfl HEV.out _ 0 _ (L.drop nr) rfl (by rw [HDL.out, HM0.out]) (HND.out _ _) (by have := HMR.out; have := HM1.out; omega) (by have := HO.out.size; simp; omega) ?_); intro v5 W5 hown5 hgrow5; refine hK _ _ ?_; clear hK K; rw [List.nil_append, Nat.zero_add] at hown5; have HV5 : Hid (ownsAt W5 W.heap.size 3 1 v5 mr (ints (L.drop nr))) := hid (by first | exact hown5 | (rw [← HMR2.out]; exact hown5) | (rw [HM0.out]; exact hown5)); have HX5 : Hid (Only (fun i => W.heap.size ≤ i) wr W5) := hid ((Only.ofExt (Ext.alloc (Ext.refl _) _)).trans (grownOnly (S := fun i => W.heap.size ≤ i) hgrow5 (fun g e => (HEV.out.lt g e).1)) (fun i hi => .inl hi)); have HA5 := hid (HA.out.onlyS HX5.out (by have := HLT.out; have h2 := HS.out.h1.lr; have h3 := HS.out.h2.ltp; refine ⟨?_, ?_, ?_, ?_, ?_, ?_, ?_⟩ <;> omega) (fun b o e => by have := HAB.out b o e; omega) (fun i hi => Nat.le_trans HS.out.h0.size hi)); have HO5 : Hid (Only (Qs gb gt gp s) W W5) := hid (HO.out.trans HX5.out (fun i hi => .inr hi)); clear hown5 hgrow5 HEV HX5 HA HO c3 hlt3 hfz3 hfz2; have d3 := HA5.out.h3.c3; have d2 := HA5.out.h3.c2; have e3 := HA5.out.h3.fz 3; have e2 := HA5.out.h3.fz 2; have hlt5 := HA5.out.h3.lt; obtain ⟨A5, c5, rfl, hs5, hn5⟩ := HV5.out.shape; have HS5 := hid (And.intro hs5 hn5); clear hs5 hn5)
            have h1 := HA5.out.h3.setLeft (A' := A5) (ca' := c5) (L' := L.drop nr) (k := mr) HDL.out (HV5.out.rdN HDL.out) ⟨by rw [HDL.out]; exact HS5.out.1, HS5.out.2⟩ (fun b o e => by have := (HV5.out.lt b (by rw [e]; rfl)).1; have := HLT.out; omega) (fun b o e => (HV5.out.lt b (by rw [e]; rfl)).2)
            have h2 := h1.setRuns (decide (nr < m))
            have hx2 : Only (· = s) W5 ((W5.setCell ⟨s, 3, none⟩ (.slice A5 mr c5)).setCell ⟨s, 2, none⟩ (.bool (decide (nr < m)))) := Only.setCell (Only.setCell (S := (· = s)) (Only.refl _ _) (.inl rfl) _) (.inl rfl) _
            have HFIN : Hid (SWR w ((W5.setCell ⟨s, 3, none⟩ (.slice A5 mr c5)).setCell ⟨s, 2, none⟩ (.bool (decide (nr < m)))) r gb gt gp s p pq n nb nt mm B (stS n mm P B (T, D, gone) (L.take nr)).1 (stS n mm P B (T, D, gone) (L.take nr)).2.1 P (decide (nr < m)) A5 c5 (L.drop nr) (stS n mm P B (T, D, gone) (L.take nr)).2.2) := hid (HA5.out.own h2 hx2 (fun b o e => by have := (HV5.out.lt b (by rw [e]; rfl)).1; have := HLT.out; omega) (fun x hx => HS.out.lb x (List.mem_of_mem_drop hx)))
            have HOF := hid (HO5.out.trans hx2 (fun i e => .inl (.inr e)))
            have hmr0 : decide (0 < mr) = decide (nr < m) := decide_eq_decide.2 (by have := HMR.out; omega)
            clear h1 h2 hx2 HA5 HO5
            go_wp2
            go_ret
            exact ⟨A5, c5, rfl, hid (by first | exact HFIN.out | (rw [← hmr0]; exact HFIN.out) | (have h := HFIN.out; rw [HDEC.out] at h ⊢; exact h)), (by first | exact HOF | (rw [← hmr0] at HOF; exact HOF) | (have h := HOF.out; rw [HDEC.out] at h; exact hid h)), hid (fun b o e => (HV5.out.lt b (by rw [e]; rfl)).1)⟩
          · have hcc0 : ¬ ca - nr = 0 := by omega
            have HEV : Hid (ownsAt (wr.alloc (.cells #[] 3)) W.heap.size 3 1 (.slice (some ⟨wr.heap.size, 0, none⟩) 0 0) 0 []) := hid (ownsAt_of ⟨rfl, Or.inr ⟨wr.heap.size, 0, #[], rfl, HO.out.size, heap_alloc_new wr _, by omega, by unfold maxLen; omega, by simp, by simp⟩⟩)
            go_upto_region 9 with (at_builtin; refine wpList_plain rfl fun K hK => ?_; go_loud (refine wp_app_ints _ _ rfl W.heap.size _ 0 [] rfl HEV.out _ 0 _ (L.drop nr) rfl (by rw [HDL.out, HM0.out]) (HND.out _ _) (by have := HMR.out; have := HM1.out; omega) (by have := HO.out.size; simp; omega) ?_); intro v5 W5 hown5 hgrow5; refine hK _ _ ?_; clear hK K; rw [List.nil_append, Nat.zero_add] at hown5; have HV5 : Hid (ownsAt W5 W.heap.size 3 1 v5 mr (ints (L.drop nr))) := hid (by first | exact hown5 | (rw [← HMR2.out]; exact hown5) | (rw [HM0.out]; exact hown5)); have HX5 : Hid (Only (fun i => W.heap.size ≤ i) wr W5) := hid ((Only.ofExt (Ext.alloc (Ext.refl _) _)).trans (grownOnly (S := fun i => W.heap.size ≤ i) hgrow5 (fun g e => (HEV.out.lt g e).1)) (fun i hi => .inl hi)); have HA5 := hid (HA.out.onlyS HX5.out (by have := HLT.out; have h2 := HS.out.h1.lr; have h3 := HS.out.h2.ltp; refine ⟨?_, ?_, ?_, ?_, ?_, ?_, ?_⟩ <;> omega) (fun b o e => by have := HAB.out b o e; omega) (fun i hi => Nat.le_trans HS.out.h0.size hi)); have HO5 : Hid (Only (Qs gb gt gp s) W W5) := hid (HO.out.trans HX5.out (fun i hi => .inr hi)); clear hown5 hgrow5 HEV HX5 HA HO c3 hlt3 hfz3 hfz2; have d3 := HA5.out.h3.c3; have d2 := HA5.out.h3.c2; have e3 := HA5.out.h3.fz 3; have e2 := HA5.out.h3.fz 2; have hlt5 := HA5.out.h3.lt; obtain ⟨A5, c5, rfl, hs5, hn5⟩ := HV5.out.shape; have HS5 := hid (And.intro hs5 hn5); clear hs5 hn5)
            have h1 := HA5.out.h3.setLeft (A' := A5) (ca' := c5) (L' := L.drop nr) (k := mr) HDL.out (HV5.out.rdN HDL.out) ⟨by rw [HDL.out]; exact HS5.out.1, HS5.out.2⟩ (fun b o e => by have := (HV5.out.lt b (by rw [e]; rfl)).1; have := HLT.out; omega) (fun b o e => (HV5.out.lt b (by rw [e]; rfl)).2)
            have h2 := h1.setRuns (decide (nr < m))
            have hx2 : Only (· = s) W5 ((W5.setCell ⟨s, 3, none⟩ (.slice A5 mr c5)).setCell ⟨s, 2, none⟩ (.bool (decide (nr < m)))) := Only.setCell (Only.setCell (S := (· = s)) (Only.refl _ _) (.inl rfl) _) (.inl rfl) _
            have HFIN : Hid (SWR w ((W5.setCell ⟨s, 3, none⟩ (.slice A5 mr c5)).setCell ⟨s, 2, none⟩ (.bool (decide (nr < m)))) r gb gt gp s p pq n nb nt mm B (stS n mm P B (T, D, gone) (L.take nr)).1 (stS n mm P B (T, D, gone) (L.take nr)).2.1 P (decide (nr < m)) A5 c5 (L.drop nr) (stS n mm P B (T, D, gone) (L.take nr)).2.2) := hid (HA5.out.own h2 hx2 (fun b o e => by have := (HV5.out.lt b (by rw [e]; rfl)).1; have := HLT.out; omega) (fun x hx => HS.out.lb x (List.mem_of_mem_drop hx)))
            have HOF := hid (HO5.out.trans hx2 (fun i e => .inl (.inr e)))
            have hmr0 : decide (0 < mr) = decide (nr < m) := decide_eq_decide.2 (by have := HMR.out; omega)
            clear h1 h2 hx2 HA5 HO5
            go_wp2
            go_ret
            exact ⟨A5, c5, rfl, hid (by first | exact HFIN.out | (rw [← hmr0]; exact HFIN.out) | (have h := HFIN.out; rw [HDEC.out] at h ⊢; exact h)), (by first | exact HOF | (rw [← hmr0] at HOF; exact HOF) | (have h := HOF.out; rw [HDEC.out] at h; exact hid h)), hid (fun b o e => (HV5.out.lt b (by rw [e]; rfl)).1)⟩
      · have hmr1 : 0 < mr := by omega
        have HDEC : Hid (decide (nr < m) = true) := hid (decide_eq_true (by have := HMR.out; omega))
        obtain ⟨b0, o0, rfl, hb0, hc0⟩ := HA.out.h3.rd (by rw [HM.out]; have := HMR.out; omega)
        have hcc : ¬ ca = nr := by have := HMR.out; omega
        have hcc0 : ¬ ca - nr = 0 := by omega
        have HRD : Hid (RdN (wr.alloc (.cells #[] 3)) (some ⟨b0, o0 + nr, none⟩) (L.drop nr)) := hid (fun _ => ⟨b0, o0 + nr, rfl, by simp; omega, fun j hj => by
          rw [List.length_drop] at hj
          have := hc0 (nr + j) (by omega)
          rw [List.getElem_drop, Nat.add_assoc]
          exact ((Ext.alloc (Ext.refl wr) (.cells #[] 3)).cells b0 _ hb0).trans this⟩)
        clear hc0
        have HEV : Hid (ownsAt (wr.alloc (.cells #[] 3)) W.heap.size 3 1 (.slice (some ⟨wr.heap.size, 0, none⟩) 0 0) 0 []) := hid (ownsAt_of ⟨rfl, Or.inr ⟨wr.heap.size, 0, #[], rfl, HO.out.size, heap_alloc_new wr _, by omega, by unfold maxLen; omega, by simp, by simp⟩⟩)
        go_upto_region 9 with (at_builtin; refine wpList_plain rfl fun K hK => ?_; go_loud (refine wp_app_ints _ _ rfl W.heap.size _ 0 [] rfl HEV.out (some ⟨b0, o0 + nr, none⟩) (m - nr) _ (L.drop nr) rfl (by rw [HDL.out, HMR2.out]) HRD.out (by have := HMR.out; have := HM1.out; omega) (by have := HO.out.size; simp; omega) ?_); intro v5 W5 hown5 hgrow5; refine hK _ _ ?_; clear hK K; rw [List.nil_append, Nat.zero_add] at hown5; have HV5 : Hid (ownsAt W5 W.heap.size 3 1 v5 mr (ints (L.drop nr))) := hid (by first | exact hown5 | (rw [← HMR2.out]; exact hown5) | (rw [HM0.out]; exact hown5)); have HX5 : Hid (Only (fun i => W.heap.size ≤ i) wr W5) := hid ((Only.ofExt (Ext.alloc (Ext.refl _) _)).trans (grownOnly (S := fun i => W.heap.size ≤ i) hgrow5 (fun g e => (HEV.out.lt g e).1)) (fun i hi => .inl hi)); have HA5 := hid (HA.out.onlyS HX5.out (by have := HLT.out; have h2 := HS.out.h1.lr; have h3 := HS.out.h2.ltp; refine ⟨?_, ?_, ?_, ?_, ?_, ?_, ?_⟩ <;> omega) (fun b o e => by have := HAB.out b o e; omega) (fun i hi => Nat.le_trans HS.out.h0.size hi)); have HO5 : Hid (Only (Qs gb gt gp s) W W5) := hid (HO.out.trans HX5.out (fun i hi => .inr hi)); clear hown5 hgrow5 HEV HX5 HA HO c3 hlt3 hfz3 hfz2; have d3 := HA5.out.h3.c3; have d2 := HA5.out.h3.c2; have e3 := HA5.out.h3.fz 3; have e2 := HA5.out.h3.fz 2; have hlt5 := HA5.out.h3.lt; obtain ⟨A5, c5, rfl, hs5, hn5⟩ := HV5.out.shape; have HS5 := hid (And.intro hs5 hn5); clear hs5 hn5)
        have h1 := HA5.out.h3.setLeft (A' := A5) (ca' := c5) (L' := L.drop nr) (k := mr) HDL.out (HV5.out.rdN HDL.out) ⟨by rw [HDL.out]; exact HS5.out.1, HS5.out.2⟩ (fun b o e => by have := (HV5.out.lt b (by rw [e]; rfl)).1; have := HLT.out; omega) (fun b o e => (HV5.out.lt b (by rw [e]; rfl)).2)
        have h2 := h1.setRuns (decide (nr < m))
        have hx2 : Only (· = s) W5 ((W5.setCell ⟨s, 3, none⟩ (.slice A5 mr c5)).setCell ⟨s, 2, none⟩ (.bool (decide (nr < m)))) := Only.setCell (Only.setCell (S := (· = s)) (Only.refl _ _) (.inl rfl) _) (.inl rfl) _
        have HFIN : Hid (SWR w ((W5.setCell ⟨s, 3, none⟩ (.slice A5 mr c5)).setCell ⟨s, 2, none⟩ (.bool (decide (nr < m)))) r gb gt gp s p pq n nb nt mm B (stS n mm P B (T, D, gone) (L.take nr)).1 (stS n mm P B (T, D, gone) (L.take nr)).2.1 P (decide (nr < m)) A5 c5 (L.drop nr) (stS n mm P B (T, D, gone) (L.take nr)).2.2) := hid (HA5.out.own h2 hx2 (fun b o e => by have := (HV5.out.lt b (by rw [e]; rfl)).1; have := HLT.out; omega) (fun x hx => HS.out.lb x (List.mem_of_mem_drop hx)))
        have HOF := hid (HO5.out.trans hx2 (fun i e => .inl (.inr e)))
        have hmr0 : decide (0 < mr) = decide (nr < m) := decide_eq_decide.2 (by have := HMR.out; omega)
        clear h1 h2 hx2 HA5 HO5
        go_wp2
        go_ret
        exact ⟨A5, c5, rfl, hid (by first | exact HFIN.out | (rw [← hmr0]; exact HFIN.out) | (have h := HFIN.out; rw [HDEC.out] at h ⊢; exact h)), (by first | exact HOF | (rw [← hmr0] at HOF; exact HOF) | (have h := HOF.out; rw [HDEC.out] at h; exact hid h)), hid (fun b o e => (HV5.out.lt b (by rw [e]; rfl)).1)⟩
set_option maxRecDepth 100000 in
set_option maxHeartbeats 4000000 in
theorem rbarrier_ (w W : World) (r gb gt gp s p pq n nb nt mm : Nat) (B : Nat → Int) (T D P : Nat → Bool) (runs : Bool) (A : Option Addr) (ca : Nat) (L : List Nat) (gone : Nat) (h : SWR w W r gb gt gp s p pq n nb nt mm B T D P runs A ca L gone) (t : Bool) (b tp at_ pm ty : Int) (hb : b ≤ 9223372036854775807) : Calls Try.prog 38 #[.pointer (some ⟨s, 0, none⟩), .agg #[.bool t, .int .i64 b, .int .i64 tp, .int .i64 at_, .int .i64 pm, .int .i64 ty]] W fun e W' => e = .returned (.agg #[.bool (t && !hitsP mm P t b tp), .int .i64 b, .int .i64 tp, .int .i64 at_, .int .i64 pm, .int .i64 ty]) ∧ Ext W W' := by
  have HS := hid h
  obtain ⟨hv, hhv⟩ : ∃ x, hitsP mm P t b tp = x := ⟨_, rfl⟩
  have HHV := hid hhv
  have HTT : Hid (hv = true → t = true) := hid (fun e => by rw [e] at hhv; unfold hitsP at hhv; simp only [Bool.and_eq_true] at hhv; exact hhv.1)
  have c1 := h.h3.c1
  have hlt := h.h3.lt
  rw [hhv]
  clear h hhv
  go_enter Try.func38, Try.ntmps38
  go_upto_region 1 with (fail)
  clear c1 hlt
  refine wp_gen (fun V => Hid (Ext W V) ∧ Hid (Row V W.heap.size 0 [.bool t, .int .i64 b, .int .i64 tp, .int .i64 at_, .int .i64 pm, .int .i64 ty]) ∧ Hid (Row V (W.heap.size + 1) 0 [.bool false, .int .i64 0, .int .i64 0, .int .i64 0, .int .i64 0, .int .i64 0])) ⟨hid (by repeat (first | (with_reducible exact Ext.refl _) | (with_reducible refine Ext.undrew ?_) | (with_reducible refine Ext.grow ?_ _) | (with_reducible refine Ext.drew ?_) | (with_reducible refine Ext.drewN ?_ _) | (with_reducible refine Ext.alloc ?_ _) | (with_reducible assumption) | ((with_reducible refine Ext.setCell ?_ ?_ _); rotate_left; (first | exact Nat.le_refl _ | ((try dsimp only); (try simp only [World.size_alloc, grow_size, World.size_setCell]); omega))))), hid ((Row.new W _ _).ext (Ext.alloc (Ext.refl _) _)), hid (by have := Row.new (W.alloc (.cells #[.bool t, .int .i64 b, .int .i64 tp, .int .i64 at_, .int .i64 pm, .int .i64 ty] 24)) #[.bool false, .int .i64 0, .int .i64 0, .int .i64 0, .int .i64 0, .int .i64 0] 24; simpa using this)⟩ ?_
  rintro W0 ⟨HX0, HA0, HR0⟩
  obtain ⟨cb, hcb⟩ : ∃ x, W.heap.size = x := ⟨_, rfl⟩
  obtain ⟨rb, hrb⟩ : ∃ x, W.heap.size + 1 = x := ⟨_, rfl⟩
  have HCB : Hid (W.heap.size = cb ∧ W.heap.size + 1 = rb) := hid ⟨hcb, hrb⟩
  have HRC : Hid (¬ rb = cb) := hid (by omega)
  rw [hrb] at HR0 ⊢
  rw [hcb] at HA0 ⊢
  clear hcb hrb
  have HS0 := hid (HS.out.ext HX0.out)
  have c1 := HS0.out.h3.c1
  have hlt := HS0.out.h3.lt
  have a0 : World.cell? W0 ⟨cb, 0, none⟩ = some (.bool t) := by have := HA0.out.at_ 0 _ rfl; simpa using this
  have af0 : World.frozen? W0 ⟨cb, 0, none⟩ = false := by have := HA0.out.free 0 (by simp); simpa using this
  have a1 : World.cell? W0 ⟨cb, 1, none⟩ = some (.int .i64 b) := by have := HA0.out.at_ 1 _ rfl; simpa using this
  have af1 : World.frozen? W0 ⟨cb, 1, none⟩ = false := by have := HA0.out.free 1 (by simp); simpa using this
  have a2 : World.cell? W0 ⟨cb, 2, none⟩ = some (.int .i64 tp) := by have := HA0.out.at_ 2 _ rfl; simpa using this
  have af2 : World.frozen? W0 ⟨cb, 2, none⟩ = false := by have := HA0.out.free 2 (by simp); simpa using this
  have a3 : World.cell? W0 ⟨cb, 3, none⟩ = some (.int .i64 at_) := by have := HA0.out.at_ 3 _ rfl; simpa using this
  have af3 : World.frozen? W0 ⟨cb, 3, none⟩ = false := by have := HA0.out.free 3 (by simp); simpa using this
  have a4 : World.cell? W0 ⟨cb, 4, none⟩ = some (.int .i64 pm) := by have := HA0.out.at_ 4 _ rfl; simpa using this
  have af4 : World.frozen? W0 ⟨cb, 4, none⟩ = false := by have := HA0.out.free 4 (by simp); simpa using this
  have a5 : World.cell? W0 ⟨cb, 5, none⟩ = some (.int .i64 ty) := by have := HA0.out.at_ 5 _ rfl; simpa using this
  have af5 : World.frozen? W0 ⟨cb, 5, none⟩ = false := by have := HA0.out.free 5 (by simp); simpa using this
  have al := HA0.out.lt
  refine wp_region_step (.rd 0 (.rd 1 (.rd 2 (.rd 3 (.rd 4 (.ac 5 .done)))))) (by kernel_rfl) (by kernel_rfl) (fun _ _ d _ _ h => by cases d <;> exact h) (by simp only [Ord.map, nthOp, List.append]; rfl) ?_
  intro d0
  repeat (refine step_read (by rfl) (fun K hK => ?_); go_big_quiet_op; refine hK _ ?_; clear hK K)
  refine step_act (by rfl) (fun K hK => ?_)
  go_wp2_with (go_at_call 60; refine (rhits_ p pq mm P t b tp at_ pm ty _ (HS0.out.h2.ext (by repeat (first | (with_reducible exact Ext.refl _) | (with_reducible refine Ext.undrew ?_) | (with_reducible refine Ext.grow ?_ _) | (with_reducible refine Ext.drew ?_) | (with_reducible refine Ext.drewN ?_ _) | (with_reducible refine Ext.alloc ?_ _) | (with_reducible assumption) | ((with_reducible refine Ext.setCell ?_ ?_ _); rotate_left; (first | exact Nat.le_refl _ | ((try dsimp only); (try simp only [World.size_alloc, grow_size, World.size_setCell]); omega)))))) hb).mono ?_; rw [HHV.out]; rintro e W3 ⟨rfl, hx3⟩)
  refine ⟨_, Ext.refl _, hx3, ?_⟩
  refine step_nil ?_
  have hx23 := (Ext.grow (Ext.refl W0) d0).trans hx3
  have HA3 := hid (HA0.out.ext hx23)
  have HR3 := hid (HR0.out.ext hx23)
  have HX3 := hid (HX0.out.trans hx23)
  clear HS0 HA0 HR0 hx3 hx23 c1 hlt a0 af0 a1 af1 a2 af2 a3 af3 a4 af4 a5 af5 al
  have a0 : World.cell? W3 ⟨cb, 0, none⟩ = some (.bool t) := by have := HA3.out.at_ 0 _ rfl; simpa using this
  have af0 : World.frozen? W3 ⟨cb, 0, none⟩ = false := by have := HA3.out.free 0 (by simp); simpa using this
  have a1 : World.cell? W3 ⟨cb, 1, none⟩ = some (.int .i64 b) := by have := HA3.out.at_ 1 _ rfl; simpa using this
  have af1 : World.frozen? W3 ⟨cb, 1, none⟩ = false := by have := HA3.out.free 1 (by simp); simpa using this
  have a2 : World.cell? W3 ⟨cb, 2, none⟩ = some (.int .i64 tp) := by have := HA3.out.at_ 2 _ rfl; simpa using this
  have af2 : World.frozen? W3 ⟨cb, 2, none⟩ = false := by have := HA3.out.free 2 (by simp); simpa using this
  have a3 : World.cell? W3 ⟨cb, 3, none⟩ = some (.int .i64 at_) := by have := HA3.out.at_ 3 _ rfl; simpa using this
  have af3 : World.frozen? W3 ⟨cb, 3, none⟩ = false := by have := HA3.out.free 3 (by simp); simpa using this
  have a4 : World.cell? W3 ⟨cb, 4, none⟩ = some (.int .i64 pm) := by have := HA3.out.at_ 4 _ rfl; simpa using this
  have af4 : World.frozen? W3 ⟨cb, 4, none⟩ = false := by have := HA3.out.free 4 (by simp); simpa using this
  have a5 : World.cell? W3 ⟨cb, 5, none⟩ = some (.int .i64 ty) := by have := HA3.out.at_ 5 _ rfl; simpa using this
  have af5 : World.frozen? W3 ⟨cb, 5, none⟩ = false := by have := HA3.out.free 5 (by simp); simpa using this
  have al := HA3.out.lt
  have r0 : World.cell? W3 ⟨rb, 0, none⟩ = some (.bool false) := by have := HR3.out.at_ 0 _ rfl; simpa using this
  have rf0 : World.frozen? W3 ⟨rb, 0, none⟩ = false := by have := HR3.out.free 0 (by simp); simpa using this
  have r1 : World.cell? W3 ⟨rb, 1, none⟩ = some (.int .i64 0) := by have := HR3.out.at_ 1 _ rfl; simpa using this
  have rf1 : World.frozen? W3 ⟨rb, 1, none⟩ = false := by have := HR3.out.free 1 (by simp); simpa using this
  have r2 : World.cell? W3 ⟨rb, 2, none⟩ = some (.int .i64 0) := by have := HR3.out.at_ 2 _ rfl; simpa using this
  have rf2 : World.frozen? W3 ⟨rb, 2, none⟩ = false := by have := HR3.out.free 2 (by simp); simpa using this
  have r3 : World.cell? W3 ⟨rb, 3, none⟩ = some (.int .i64 0) := by have := HR3.out.at_ 3 _ rfl; simpa using this
  have rf3 : World.frozen? W3 ⟨rb, 3, none⟩ = false := by have := HR3.out.free 3 (by simp); simpa using this
  have r4 : World.cell? W3 ⟨rb, 4, none⟩ = some (.int .i64 0) := by have := HR3.out.at_ 4 _ rfl; simpa using this
  have rf4 : World.frozen? W3 ⟨rb, 4, none⟩ = false := by have := HR3.out.free 4 (by simp); simpa using this
  have r5 : World.cell? W3 ⟨rb, 5, none⟩ = some (.int .i64 0) := by have := HR3.out.at_ 5 _ rfl; simpa using this
  have rf5 : World.frozen? W3 ⟨rb, 5, none⟩ = false := by have := HR3.out.free 5 (by simp); simpa using this
  have rl := HR3.out.lt
  have HRCB : Hid (W.heap.size ≤ rb ∧ W.heap.size ≤ cb) := hid (by have := HCB.out; omega)
  have hrc := HRC.out
  have hrc' : ¬ cb = rb := fun e => HRC.out e.symm
  cases hv with
  | false =>
    go_wp2
    exact bodyPost_ret (v := .agg #[.bool (t && !false), .int .i64 b, .int .i64 tp, .int .i64 at_, .int .i64 pm, .int .i64 ty]) (by simp [results, Try.results38, go_sem, *]) rfl ⟨rfl, (by repeat (first | (with_reducible exact HX3.out) | ((with_reducible refine Ext.setCell ?_ ?_ _); rotate_left; first | exact HRCB.out.1 | exact HRCB.out.2)))⟩
  | true =>
    obtain rfl : t = true := HTT.out rfl
    go_wp2
    exact bodyPost_ret (v := .agg #[.bool (true && !true), .int .i64 b, .int .i64 tp, .int .i64 at_, .int .i64 pm, .int .i64 ty]) (by simp [results, Try.results38, go_sem, *]) rfl ⟨rfl, (by repeat (first | (with_reducible exact HX3.out) | ((with_reducible refine Ext.setCell ?_ ?_ _); rotate_left; first | exact HRCB.out.1 | exact HRCB.out.2)))⟩

end Go.Proofs.Ythamfkbopjagdaa
