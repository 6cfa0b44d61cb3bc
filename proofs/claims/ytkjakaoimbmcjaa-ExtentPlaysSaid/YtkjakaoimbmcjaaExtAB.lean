/- Layer 12: the document's Take. -/
import Derived.Test.YtkjakaoimbmcjaaExtAA
namespace Go.Proofs.Ytkjakaoimbmcjaa
set_option linter.unusedSimpArgs false
set_option linter.unusedVariables false
open Go.RowKit

def offP (P : Nat → Bool) (a0 m : Nat) : Nat → Bool := fun i => P i && !(decide (a0 ≤ i ∧ i < a0 + m))
def onP (P : Nat → Bool) (a0 m : Nat) : Nat → Bool := fun i => P i || decide (a0 ≤ i ∧ i < a0 + m)
theorem t16 (x : Int) : (x % 16 != 0) = (x.tmod 16 != 0) := by
  have h : x % 16 = 0 ↔ x.tmod 16 = 0 := ⟨fun h => Int.tmod_eq_zero_of_dvd (Int.dvd_of_emod_eq_zero h), fun h => Int.emod_eq_zero_of_dvd (Int.dvd_of_tmod_eq_zero h)⟩
  rw [Bool.eq_iff_iff]; simp only [bne_iff_ne, ne_eq]; exact not_congr h
set_option maxRecDepth 100000 in
set_option maxHeartbeats 4000000 in
theorem rxtake_no (p q n : Nat) (fr : Int) (P : Nat → Bool) (w : World) (h : Rx w p q n fr P) (N : Int) (hN : N < 1 ∨ g16 N = false) : Calls Try.prog 12 #[.pointer (some ⟨p, 0, none⟩), .int .i64 N] w fun e w' => e = .returned (.tuple #[.int .i64 0, .bool false]) ∧ w = w' := by
  by_cases h1 : N < 1
  · clear hN h
    go_enter Try.func12, Try.ntmps12
    go_wp2
    refine bodyPost_ret (v := .tuple #[.int .i64 0, .bool false]) (by simp [results, Try.results12, go_sem]) rfl ?_
    exact ⟨rfl, rfl⟩
  · have h0' : ¬ N.tmod 16 = 0 := of_decide_eq_false (hN.resolve_left h1)
    have h0 : (N.tmod 16 != 0) = true := by simpa using h0'
    have h0b := (t16 N).trans h0
    clear h0'
    clear hN h
    go_enter Try.func12, Try.ntmps12
    go_wp2
    refine bodyPost_ret (v := .tuple #[.int .i64 0, .bool false]) (by simp [results, Try.results12, go_sem]) rfl ?_
    exact ⟨rfl, rfl⟩
set_option maxRecDepth 100000 in
set_option maxHeartbeats 4000000 in
theorem rxtake_none (p q n : Nat) (fr : Int) (P : Nat → Bool) (l : List Pr) (w : World) (h : Rx w p q n fr P) (hb : BI fr P l) (hG : Good fr (fr + 16 * (n : Int)) l) (N : Int) (hN : 1 ≤ N) (hg : g16 N = true) (hf : l.findIdx? (fits N) = none) : Calls Try.prog 12 #[.pointer (some ⟨p, 0, none⟩), .int .i64 N] w fun e w' => e = .returned (.tuple #[.int .i64 0, .bool false]) ∧ Ext w w' := by
  have h0' : N.tmod 16 = 0 := of_decide_eq_true hg
  have h0 : (N.tmod 16 != 0) = false := by simpa using h0'
  have h0b := (t16 N).trans h0
  clear h0'
  have h1 : ¬ N < 1 := by omega
  have HH := hid h
  have HBI := hid hb
  have HGD := hid hG
  have hok := hG.okF h.b0 (by have := h.b1; omega)
  have hll : l.length ≤ 20000 := by
    have := h.b1
    have := h.b0
    rcases good_len l fr hG with c | c
    · rw [c]; simp
    · omega
  have HM : Hid (∀ (j : Nat) (hj : j < l.length), fits N l[j] = false) := hid (fun j hj => List.findIdx?_eq_none_iff.1 hf _ (List.getElem_mem hj))
  clear h hb hG hf
  go_enter Try.func12, Try.ntmps12
  go_wp2_with (go_at_call 21; refine (rxruns p q n fr P l _ HH.out HBI.out HGD.out).mono ?_; rintro e w1 ⟨A, ca, rfl, HR, HX, HN⟩)
  go_loopw [7] (fun i wr => ∃ j : Nat, j ≤ l.length ∧ i = .int .i64 j ∧ Ext w1 wr) (fun i _ => l.length - (intOf i).toNat)
  case atStart => exact ⟨0, Nat.zero_le _, rfl, Ext.refl _⟩
  case round =>
    obtain ⟨j, hj, rfl, hx8⟩ := hrel
    by_cases hjl : j < l.length
    · skip
      obtain ⟨b, o, rfl, hb, c0, c1⟩ := (HR.out.ext hx8).two hjl
      have hj1 : (j : Int) < (l.length : Int) := by omega
      have hj0 : (0 : Int) ≤ (j : Int) := by omega
      have hbd := hok _ (List.getElem_mem hjl)
      have hle : (l[j]).len = (l[j]).hi - (l[j]).lo := rfl
      have hws : wrap64 ((l[j]).hi - (l[j]).lo) = (l[j]).hi - (l[j]).lo := wrapP (by omega) (by omega)
      have hlow : ¬ N ≤ (l[j]).len := of_decide_eq_false (HM.out j hjl)
      rw [hle] at hlow
      have hlow2 : (l[j]).hi - (l[j]).lo < N := by omega
      generalize (l[j]).lo = xl at c0 hws hlow hlow2
      generalize (l[j]).hi = xh at c1 hws hlow hlow2
      clear hbd hle
      go_upto_region 7 with (fail)
      refine wp_region_grow (by kernel_rfl) (by kernel_rfl) (by first | (simp only [List.append]; rfl) | rfl) ?_
      (repeat (go_big_quiet_step (fail)))
      refine wpQuiet_nil ?_
      intro wq hq
      obtain ⟨d, rfl⟩ := hq
      go_wp2
      go_roundw
      case rel => exact ⟨j + 1, by omega, by go_num, (by repeat (first | (with_reducible exact Ext.refl _) | (with_reducible refine Ext.undrew ?_) | (with_reducible refine Ext.grow ?_ _) | (with_reducible refine Ext.drew ?_) | (with_reducible refine Ext.drewN ?_ _) | (with_reducible refine Ext.alloc ?_ _) | (with_reducible assumption) | ((with_reducible refine Ext.setCell ?_ ?_ _); rotate_left; (first | exact Nat.le_refl _ | ((try dsimp only); (try simp only [World.size_alloc, grow_size, World.size_setCell]); omega)))))⟩
      case measure => simp [intOf]; omega
    · obtain rfl : j = l.length := by omega
      have hj1 : ¬ (l.length : Int) < (l.length : Int) := by omega
      go_wp2
      refine bodyPost_ret (v := .tuple #[.int .i64 0, .bool false]) (by simp [results, Try.results12, go_sem]) rfl ?_
      exact ⟨rfl, HX.out.trans hx8⟩
set_option maxRecDepth 100000 in
set_option maxHeartbeats 4000000 in
theorem rxtake_yes (p q n : Nat) (fr : Int) (P : Nat → Bool) (l : List Pr) (w : World) (h : Rx w p q n fr P) (hb : BI fr P l) (hG : Good fr (fr + 16 * (n : Int)) l) (N : Int) (hN : 1 ≤ N) (hg : g16 N = true) (k0 : Nat) (hk0 : k0 < l.length) (hf : l.findIdx? (fits N) = some k0) (xl : Int) (hxl : (l[k0]).lo = xl) (a0 m : Nat) (ha : xl = fr + 16 * (a0 : Int)) (hm : N = 16 * (m : Int)) (ham : a0 + m ≤ n) : Calls Try.prog 12 #[.pointer (some ⟨p, 0, none⟩), .int .i64 N] w fun e w' => e = .returned (.tuple #[.int .i64 xl, .bool true]) ∧ Hid (Rx w' p q n fr (offP P a0 m)) ∧ Hid (Only (· = q) w w') := by
  have h0' : N.tmod 16 = 0 := of_decide_eq_true hg
  have h0 : (N.tmod 16 != 0) = false := by simpa using h0'
  have h0b := (t16 N).trans h0
  clear h0'
  have h1 : ¬ N < 1 := by omega
  have HH := hid h
  have HBI := hid hb
  have HGD := hid hG
  have hok := hG.okF h.b0 (by have := h.b1; omega)
  have hll : l.length ≤ 20000 := by
    have := h.b1
    have := h.b0
    rcases good_len l fr hG with c | c
    · rw [c]; simp
    · omega
  obtain ⟨_, hfk, hfj⟩ := List.findIdx?_eq_some_iff_getElem.1 hf
  have HM := hid hfj
  have HFK := hid hfk
  have hb0 := h.b0
  have hb1 := h.b1
  have hnb := h.bd
  have hpq : ¬ p = q := h.np
  have hq1 : N.tdiv 16 = (m : Int) := by rw [hm, Int.tdiv_eq_ediv_of_nonneg (by omega)]; omega
  have hq2 : wrap64 (m : Int) = (m : Int) := wrapP (by omega) (by omega)
  have HA := hid ha
  have HXL := hid hxl
  clear hxl
  have hN9 : N ≤ 20000 := by omega
  clear h hb hG hf hm hfk hfj ha
  go_enter Try.func12, Try.ntmps12
  go_wp2_with (go_at_call 21; refine (rxruns p q n fr P l _ HH.out HBI.out HGD.out).mono ?_; rintro e w1 ⟨A, ca, rfl, HR, HX, HN⟩)
  go_loopw [7] (fun i wr => ∃ j : Nat, j ≤ k0 ∧ i = .int .i64 j ∧ Ext w1 wr) (fun i _ => k0 + 1 - (intOf i).toNat)
  case atStart => exact ⟨0, Nat.zero_le _, rfl, Ext.refl _⟩
  case round =>
    obtain ⟨j, hj, rfl, hx8⟩ := hrel
    have hjl : j < l.length := by omega
    by_cases hjk : j < k0
    · skip
      obtain ⟨b, o, rfl, hb, c0, c1⟩ := (HR.out.ext hx8).two hjl
      have hj1 : (j : Int) < (l.length : Int) := by omega
      have hj0 : (0 : Int) ≤ (j : Int) := by omega
      have hbd := hok _ (List.getElem_mem hjl)
      have hle : (l[j]).len = (l[j]).hi - (l[j]).lo := rfl
      have hws : wrap64 ((l[j]).hi - (l[j]).lo) = (l[j]).hi - (l[j]).lo := wrapP (by omega) (by omega)
      have hlow : ¬ N ≤ (l[j]).len := of_decide_eq_false (show fits N l[j] = false from by simpa using HM.out j hjk)
      rw [hle] at hlow
      have hlow2 : (l[j]).hi - (l[j]).lo < N := by omega
      generalize (l[j]).lo = xl at c0 hws hlow hlow2
      generalize (l[j]).hi = xh at c1 hws hlow hlow2
      clear hbd hle
      go_upto_region 7 with (fail)
      refine wp_region_grow (by kernel_rfl) (by kernel_rfl) (by first | (simp only [List.append]; rfl) | rfl) ?_
      (repeat (go_big_quiet_step (fail)))
      refine wpQuiet_nil ?_
      intro wq hq
      obtain ⟨d, rfl⟩ := hq
      go_wp2
      go_roundw
      case rel => exact ⟨j + 1, by omega, by go_num, (by repeat (first | (with_reducible exact Ext.refl _) | (with_reducible refine Ext.undrew ?_) | (with_reducible refine Ext.grow ?_ _) | (with_reducible refine Ext.drew ?_) | (with_reducible refine Ext.drewN ?_ _) | (with_reducible refine Ext.alloc ?_ _) | (with_reducible assumption) | ((with_reducible refine Ext.setCell ?_ ?_ _); rotate_left; (first | exact Nat.le_refl _ | ((try dsimp only); (try simp only [World.size_alloc, grow_size, World.size_setCell]); omega)))))⟩
      case measure => simp [intOf]; omega
    · obtain rfl : j = k0 := by omega
      obtain ⟨b, o, rfl, hb, c0, c1⟩ := (HR.out.ext hx8).two hjl
      have hj1 : (j : Int) < (l.length : Int) := by omega
      have hj0 : (0 : Int) ≤ (j : Int) := by omega
      have hbd := hok _ (List.getElem_mem hjl)
      have hle : (l[j]).len = (l[j]).hi - (l[j]).lo := rfl
      have hws : wrap64 ((l[j]).hi - (l[j]).lo) = (l[j]).hi - (l[j]).lo := wrapP (by omega) (by omega)
      have hhit : N ≤ (l[j]).hi - (l[j]).lo := of_decide_eq_true HFK.out
      have HA1 := HA
      generalize (l[j]).hi = xh at c1 hws hhit
      rw [HXL.out] at c0 hws hhit
      clear hbd hle HA
      go_upto_region 7 with (fail)
      refine wp_region_grow (by kernel_rfl) (by kernel_rfl) (by first | (simp only [List.append]; rfl) | rfl) ?_
      (repeat (go_big_quiet_step (fail)))
      refine wpQuiet_nil ?_
      intro wq hq
      obtain ⟨d, rfl⟩ := hq
      have HR2 := hid (HH.out.ext (HX.out.trans (show Ext w1 (Go.Proofs.Ytkjakaoimbmcjaa.grow wr d) from by repeat (first | (with_reducible exact Ext.refl _) | (with_reducible refine Ext.undrew ?_) | (with_reducible refine Ext.grow ?_ _) | (with_reducible refine Ext.drew ?_) | (with_reducible refine Ext.drewN ?_ _) | (with_reducible refine Ext.alloc ?_ _) | (with_reducible assumption) | ((with_reducible refine Ext.setCell ?_ ?_ _); rotate_left; (first | exact Nat.le_refl _ | ((try dsimp only); (try simp only [World.size_alloc, grow_size, World.size_setCell]); omega)))))))
      have HO2 : Hid (Only (· = q) w (Go.Proofs.Ytkjakaoimbmcjaa.grow wr d)) := hid (Only.ofExt (HX.out.trans (show Ext w1 (Go.Proofs.Ytkjakaoimbmcjaa.grow wr d) from Ext.grow hx8 d)))
      clear hws hhit
      go_wp2
      go_loopw [9] (fun i wr => ∃ t : Nat, t ≤ m ∧ i = .int .i64 t ∧ Hid (Rx wr p q n fr (offP P a0 t)) ∧ Hid (Only (· = q) w wr)) (fun i _ => m - (intOf i).toNat)
      case atStart => exact ⟨0, Nat.zero_le _, rfl, hid (HR2.out.congr (fun i => by have : ¬ (a0 ≤ i ∧ i < a0 + 0) := (by omega); simp only [offP, onP, this, decide_false, Bool.not_false, Bool.and_true, Bool.or_false])), HO2⟩
      case round =>
        clear HR2 HO2 HR c0 c1 hb
        obtain ⟨j, ht, rfl, HR3, HO3⟩ := hrel
        have hj0 : (0 : Int) ≤ (j : Int) := by omega
        by_cases htm : j < m
        · have hj1 : (j : Int) < (m : Int) := by omega
          have hin : a0 + j < n := by omega
          have c0 := HR3.out.c0
          have c1 := HR3.out.c1
          have hlp := HR3.out.ltp
          obtain ⟨f1, f2⟩ := HR3.out.grans (a0 + j) hin
          have H1 : Hid (IntKind.i64.wrap (xl - fr) = 16 * (a0 : Int)) := hid (by rw [IntKind.wrap_i64, HA1.out]; omega)
          have H2 : Hid (IntKind.i64.wrap ((16 * (a0 : Int)).tdiv 16) = (a0 : Int)) := hid (by rw [IntKind.wrap_i64, Int.tdiv_eq_ediv_of_nonneg (by omega)]; omega)
          have H3 : Hid (IntKind.i64.wrap ((a0 : Int) + (j : Int)) = ((a0 + j : Nat) : Int)) := hid (by rw [IntKind.wrap_i64]; omega)
          go_upto_region 12 with (fail)
          refine wp_region_only (S := (· = q)) (.rd 0 (.rd 1 (.rd 2 (.rd 3 (.rd 4 (.rd 5 (.rd 6 (.rd 7 (.rd 8 (.rd 9 (.rd 10 (.rd 11 (.rd 12 (.rd 13 (.ac 14 .done))))))))))))))) (by kernel_rfl) (by kernel_rfl) (fun _ _ d _ _ h => by cases d <;> exact h) (by simp only [Ord.map, nthOp, List.append]; rfl) ?_
          intro d0
          have hx0 : Ext wr (Go.Proofs.Ytkjakaoimbmcjaa.grow wr d0) := Ext.grow (Ext.refl _) d0
          have HR4 := hid (HR3.out.ext hx0)
          have HO4 := hid (HO3.out.transExt hx0)
          clear HR3 HO3 hx0 c0 c1 hlp f1 f2
          generalize Go.Proofs.Ytkjakaoimbmcjaa.grow wr d0 = W2 at HR4 HO4 ⊢
          have c0 := HR4.out.c0
          have c1 := HR4.out.c1
          have hlp := HR4.out.ltp
          have hlq := HR4.out.ltq
          obtain ⟨f1, f2⟩ := HR4.out.grans (a0 + j) hin
          repeat' (first | (refine only_read (by rfl) (fun K hK => ?_); refine quiet_runD 50 rfl (.pointer (some ⟨p, 0, none⟩)) (fun w => by kernel_rfl) ?_; refine hK _ ?_; clear hK K; simp only [Act.put, List.setIfInBounds_toArray, List.set_cons_zero, List.set_cons_succ]) | (refine only_read (by rfl) (fun K hK => ?_); refine quiet_runD 51 rfl (.pointer (some ⟨p, 1, none⟩)) (fun w => by kernel_rfl) ?_; refine hK _ ?_; clear hK K; simp only [Act.put, List.setIfInBounds_toArray, List.set_cons_zero, List.set_cons_succ]) | (refine only_read (by rfl) (fun K hK => ?_); refine quiet_runD 55 rfl (.pointer (some ⟨p, 0, none⟩)) (fun w => by kernel_rfl) ?_; refine hK _ ?_; clear hK K; simp only [Act.put, List.setIfInBounds_toArray, List.set_cons_zero, List.set_cons_succ]) | (refine only_read (by rfl) (fun K hK => ?_); refine quiet_runD 56 rfl (.pointer (some ⟨p, 0, none⟩)) (fun w => by kernel_rfl) ?_; refine hK _ ?_; clear hK K; simp only [Act.put, List.setIfInBounds_toArray, List.set_cons_zero, List.set_cons_succ]) | (refine only_read (by rfl) (fun K hK => ?_); refine quiet_load1 3 _ rfl p 0 rfl (.int .i64 fr) _ (fun w' hw' => (hw'.cells p 0 hlp hpq).trans c0) Try.underlying3 rfl ?_; refine hK _ ?_; clear hK K; simp only [Act.put, List.setIfInBounds_toArray, List.set_cons_zero, List.set_cons_succ]) | (refine only_read (by rfl) (fun K hK => ?_); refine quiet_load1 43 _ rfl p 1 rfl (.slice (some ⟨q, 0, none⟩) n n) _ (fun w' hw' => (hw'.cells p 1 hlp hpq).trans c1) Try.underlying43 rfl ?_; refine hK _ ?_; clear hK K; simp only [Act.put, List.setIfInBounds_toArray, List.set_cons_zero, List.set_cons_succ]) | (refine only_read (by rfl) (fun K hK => ?_); refine quiet_runD 58 rfl (.int .i64 (IntKind.i64.wrap (xl - fr))) (fun w => by kernel_rfl) ?_; rw [H1.out]; refine hK _ ?_; clear hK K; simp only [Act.put, List.setIfInBounds_toArray, List.set_cons_zero, List.set_cons_succ]) | (refine only_read (by rfl) (fun K hK => ?_); refine quiet_runD 59 rfl (.int .i64 (IntKind.i64.wrap ((16 * (a0 : Int)).tdiv 16))) (fun w => by kernel_rfl) ?_; rw [H2.out]; refine hK _ ?_; clear hK K; simp only [Act.put, List.setIfInBounds_toArray, List.set_cons_zero, List.set_cons_succ]) | (refine only_read (by rfl) (fun K hK => ?_); refine quiet_runD 61 rfl (.int .i64 (IntKind.i64.wrap ((a0 : Int) + (j : Int)))) (fun w => by kernel_rfl) ?_; rw [H3.out]; refine hK _ ?_; clear hK K; simp only [Act.put, List.setIfInBounds_toArray, List.set_cons_zero, List.set_cons_succ]) | (refine only_read (by rfl) (fun K hK => ?_); refine quiet_index 43 _ _ rfl ⟨q, 0, none⟩ n n (a0 + j) 1 rfl rfl hin (by kernel_rfl) (fun w => by kernel_rfl) ?_; rw [Addr.add_lit]; simp only [Nat.zero_add, Nat.mul_one]; refine hK _ ?_; clear hK K; simp only [Act.put, List.setIfInBounds_toArray, List.set_cons_zero, List.set_cons_succ]) | (refine only_read (by rfl) (fun K hK => ?_); go_big_quiet_op; refine hK _ ?_; clear hK K))
          refine only_act (by rfl) (fun K hK => ?_)
          go_wp2_with fail
          refine ⟨_, Only.refl _ _, Only.setCell (S := (· = q)) (Only.refl _ _) (.inl rfl) _, ?_⟩
          refine only_nil ?_
          have HR5 := hid ((HR4.out.set hin false).congr (P' := offP P a0 (j + 1)) (fun i => by
            simp only [updP, offP, onP]
            by_cases e : i = a0 + j
            · have : a0 ≤ i ∧ i < a0 + (j + 1) := by omega
              simp [e]
            · have : (a0 ≤ i ∧ i < a0 + (j + 1)) ↔ (a0 ≤ i ∧ i < a0 + j) := by omega
              simp [e, this]))
          have HO5 := hid (Only.setCell (S := (· = q)) HO4.out (b := q) (o := a0 + j) (.inl rfl) (.bool false))
          go_wp2
          go_roundw
          case rel => exact ⟨j + 1, by omega, by go_num, HR5, HO5⟩
          case measure => simp [intOf]; omega
        · obtain rfl : j = m := by omega
          have hj1 : ¬ (j : Int) < (j : Int) := by omega
          go_wp2
          refine bodyPost_ret (v := .tuple #[.int .i64 xl, .bool true]) (by simp [results, Try.results12, go_sem]) rfl ?_
          exact ⟨rfl, HR3, HO3⟩

end Go.Proofs.Ytkjakaoimbmcjaa
