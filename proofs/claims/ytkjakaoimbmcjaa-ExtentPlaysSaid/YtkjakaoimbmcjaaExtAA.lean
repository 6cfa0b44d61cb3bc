/- Layer 12: the document's Runs, Most. -/
import Derived.Test.YtkjakaoimbmcjaaExtZ
namespace Go.Proofs.Ytkjakaoimbmcjaa
set_option linter.unusedSimpArgs false
set_option linter.unusedVariables false
open Go.RowKit

set_option maxRecDepth 100000 in
set_option maxHeartbeats 4000000 in
theorem rxruns (p q n : Nat) (fr : Int) (P : Nat → Bool) (l : List Pr) (w : World) (h : Rx w p q n fr P) (hb : BI fr P l) (hG : Good fr (fr + 16 * (n : Int)) l) : Calls Try.prog 21 #[.pointer (some ⟨p, 0, none⟩)] w fun e w' => ∃ A ca, e = .returned (.slice A l.length ca) ∧ Hid (RdP w' A l) ∧ Hid (Ext w w') ∧ Hid (∀ b o, A = some ⟨b, o, none⟩ → w.heap.size ≤ b) := by
  obtain ⟨i0, z0, hi0, hz0, hz1, hz2, hz3, _⟩ := pr_info
  have HI0 := hid hi0
  have HZ0 := hid hz0
  clear hi0 hz0
  have HH := hid h
  have HBI := hid hb
  have HGD := hid hG
  have hbd := h.bd
  have hb0 := h.b0
  have hb1 := h.b1
  have c1 := h.c1
  have hlp := h.ltp
  have hnp : ¬ nwr w p := fun e => by have : w.heap.size ≤ p := e; omega
  clear h hb hG
  go_enter Try.func21, Try.ntmps21
  go_wp2
  go_loopw [3, 4] (fun out i wr => ∃ (k : Nat) (L : List Pr), k ≤ n + 1 ∧ i = .int .i64 k ∧ L.length ≤ k ∧ Hid (ownsAt wr w.heap.size 38 2 out L.length (prList L)) ∧ Hid (RI fr P k L) ∧ Hid (Ext w wr)) (fun _ i _ => n + 1 - (intOf i).toNat)
  case atStart => exact ⟨0, [], Nat.zero_le _, rfl, Nat.le_refl _, hid (ownsAt_nil _ _ _ _), hid (RI.start _ _), hid (Ext.refl _)⟩
  case round =>
    clear c1 hlp
    obtain ⟨k, L, hk, rfl, hLk, HO, HRI, HE⟩ := hrel
    have HR := hid (HH.out.ext HE.out)
    have c0 := HR.out.c0
    have c1 := HR.out.c1
    have hlp := HR.out.ltp
    by_cases hlt : k < n
    · have hk0 : (0 : Int) ≤ (k : Int) := by omega
      have hk1 : (k : Int) < (n : Int) := by omega
      obtain ⟨hc, _⟩ := HR.out.grans k hlt
      cases hp : P k with
      | false =>
        rw [hp] at hc
        have HS := hid (HRI.out.skip hp)
        clear hp
        go_wp2
        go_roundw
        case rel => exact ⟨k + 1, L, by omega, by go_num, by omega, HO, HS, HE⟩
        case measure => simp [intOf]; omega
      | true =>
        rw [hp] at hc
        have HP := hid hp
        clear hp
        go_wp2
        go_loop [5] (fun jv => ∃ j : Nat, k ≤ j ∧ j ≤ n ∧ jv = .int .i64 j ∧ Hid (∀ i, k ≤ i → i < j → P i = true)) (fun jv => n - (intOf jv).toNat)
        case atStart => exact ⟨k, Nat.le_refl _, by omega, rfl, hid (fun i h1 h2 => absurd h1 (by omega))⟩
        case round =>
          obtain ⟨j, hkj0, hjn, rfl, HPT⟩ := hrel
          have hj0 : (0 : Int) ≤ (j : Int) := by omega
          by_cases hjl : j < n
          · have hj1 : (j : Int) < (n : Int) := by omega
            obtain ⟨hcj, _⟩ := HR.out.grans j hjl
            cases hpj : P j with
            | true =>
              rw [hpj] at hcj
              go_wp2
              go_round
              case rel => exact ⟨j + 1, by omega, by omega, by go_num, hid (fun i h1 h2 => by rcases Nat.lt_succ_iff_lt_or_eq.1 h2 with c | c; exact HPT.out i h1 c; exact c ▸ hpj)⟩
              case measure => simp [intOf]; omega
            | false =>
              rw [hpj] at hcj
              have hend : P j = false := hpj
              have hkj : k < j := by
                rcases Nat.lt_or_ge k j with c | c
                · exact c
                · have : j = k := by omega
                  rw [this, HP.out] at hpj; cases hpj
              clear hpj
              have HL2 := hid (HRI.out.row hkj HPT.out hend)
              have hLl : (L ++ [Pr.mk (fr + 16 * (k : Int)) (fr + 16 * (j : Int))]).length = L.length + 1 := by simp
              have H1 : Hid (IntKind.i64.wrap (16 * (k : Int)) = 16 * (k : Int)) := hid (by rw [IntKind.wrap_i64]; omega)
              have H2 : Hid (IntKind.i64.wrap (16 * (j : Int)) = 16 * (j : Int)) := hid (by rw [IntKind.wrap_i64]; omega)
              have H3 : Hid (IntKind.i64.wrap (fr + 16 * (k : Int)) = fr + 16 * (k : Int)) := hid (by rw [IntKind.wrap_i64]; omega)
              have H4 : Hid (IntKind.i64.wrap (fr + 16 * (j : Int)) = fr + 16 * (j : Int)) := hid (by rw [IntKind.wrap_i64]; omega)
              obtain ⟨x, hx⟩ : ∃ x, fr + 16 * (k : Int) = x := ⟨_, rfl⟩
              obtain ⟨y, hy⟩ : ∃ x, fr + 16 * (j : Int) = x := ⟨_, rfl⟩
              rw [hx, hy] at HL2 hLl
              rw [hx] at H3
              rw [hy] at H4
              have HX9 := hid hx
              have HY9 := hid hy
              clear hx hy hend
              go_upto_region 9 with (fail)
              refine wp_region_only (S := nwr w) (.rd 0 (.rd 1 (.rd 2 (.rd 3 (.rd 4 (.rd 5 (.rd 6 (.rd 7 (.rd 8 (.rd 9 (.rd 10 (.rd 11 (.rd 12 (.rd 13 (.rd 14 (.rd 15 (.ac 16 (.ac 17 (.rd 18 .done))))))))))))))))))) (by kernel_rfl) (by kernel_rfl) (fun _ _ d _ _ h => by cases d <;> exact h) (by simp only [Ord.map, nthOp, List.append]; rfl) ?_
              intro d0
              have hx0 : Ext wr (Go.Proofs.Ytkjakaoimbmcjaa.grow wr d0) := Ext.grow (Ext.refl _) d0
              have HO2 := hid (HO.out.ext hx0)
              have HE2 := hid (HE.out.trans hx0)
              have c0' : (Go.Proofs.Ytkjakaoimbmcjaa.grow wr d0).cell? ⟨p, 0, none⟩ = some (.int .i64 fr) := (hx0.cells p 0 hlp).trans c0
              have hlp2 : p < (Go.Proofs.Ytkjakaoimbmcjaa.grow wr d0).heap.size := Nat.lt_of_lt_of_le hlp hx0.size
              clear HO HE hx0 c1 hc hlp HR c0
              generalize Go.Proofs.Ytkjakaoimbmcjaa.grow wr d0 = W2 at HO2 HE2 c0' hlp2 ⊢
              repeat' (first | (refine only_read (by rfl) (fun K hK => ?_); refine quiet_runD 44 rfl (.pointer (some ⟨p, 0, none⟩)) (fun w => by kernel_rfl) ?_; refine hK _ ?_; clear hK K; simp only [Act.put, List.setIfInBounds_toArray, List.set_cons_zero, List.set_cons_succ]) | (refine only_read (by rfl) (fun K hK => ?_); refine quiet_runD 45 rfl (.pointer (some ⟨p, 0, none⟩)) (fun w => by kernel_rfl) ?_; refine hK _ ?_; clear hK K; simp only [Act.put, List.setIfInBounds_toArray, List.set_cons_zero, List.set_cons_succ]) | (refine only_read (by rfl) (fun K hK => ?_); refine quiet_runD 51 rfl (.pointer (some ⟨p, 0, none⟩)) (fun w => by kernel_rfl) ?_; refine hK _ ?_; clear hK K; simp only [Act.put, List.setIfInBounds_toArray, List.set_cons_zero, List.set_cons_succ]) | (refine only_read (by rfl) (fun K hK => ?_); refine quiet_runD 52 rfl (.pointer (some ⟨p, 0, none⟩)) (fun w => by kernel_rfl) ?_; refine hK _ ?_; clear hK K; simp only [Act.put, List.setIfInBounds_toArray, List.set_cons_zero, List.set_cons_succ]) | (refine only_read (by rfl) (fun K hK => ?_); refine quiet_load1 3 _ rfl p 0 rfl (.int .i64 fr) _ (fun w' hw' => (hw'.cells p 0 hlp2 hnp).trans c0') Try.underlying3 rfl ?_; refine hK _ ?_; clear hK K; simp only [Act.put, List.setIfInBounds_toArray, List.set_cons_zero, List.set_cons_succ]) | (refine only_read (by rfl) (fun K hK => ?_); refine quiet_runD 48 rfl (.int .i64 (IntKind.i64.wrap (16 * (k : Int)))) (fun w => by kernel_rfl) ?_; rw [H1.out]; refine hK _ ?_; clear hK K; simp only [Act.put, List.setIfInBounds_toArray, List.set_cons_zero, List.set_cons_succ]) | (refine only_read (by rfl) (fun K hK => ?_); refine quiet_runD 49 rfl (.int .i64 (IntKind.i64.wrap (fr + 16 * (k : Int)))) (fun w => by kernel_rfl) ?_; rw [HX9.out, H3.out]; refine hK _ ?_; clear hK K; simp only [Act.put, List.setIfInBounds_toArray, List.set_cons_zero, List.set_cons_succ]) | (refine only_read (by rfl) (fun K hK => ?_); refine quiet_runD 55 rfl (.int .i64 (IntKind.i64.wrap (16 * (j : Int)))) (fun w => by kernel_rfl) ?_; rw [H2.out]; refine hK _ ?_; clear hK K; simp only [Act.put, List.setIfInBounds_toArray, List.set_cons_zero, List.set_cons_succ]) | (refine only_read (by rfl) (fun K hK => ?_); refine quiet_runD 56 rfl (.int .i64 (IntKind.i64.wrap (fr + 16 * (j : Int)))) (fun w => by kernel_rfl) ?_; rw [HY9.out, H4.out]; refine hK _ ?_; clear hK K; simp only [Act.put, List.setIfInBounds_toArray, List.set_cons_zero, List.set_cons_succ]) | (refine only_read (by rfl) (fun K hK => ?_); refine quiet_runD 57 rfl (.agg #[.int .i64 x, .int .i64 y]) (fun w => by kernel_rfl) ?_; refine hK _ ?_; clear hK K; simp only [Act.put, List.setIfInBounds_toArray, List.set_cons_zero, List.set_cons_succ]) | (refine only_read (by rfl) (fun K hK => ?_); go_big_quiet_op; refine hK _ ?_; clear hK K))
              refine only_act (by rfl) (fun K hK => ?_)
              go_wp2_with fail
              refine ⟨_, Only.refl _ _, Only.alloc (Only.refl _ _) _, ?_⟩
              refine only_act (by rfl) (fun K hK => ?_)
              refine wp_append_at _ _ _ 35 rfl w.heap.size 38 i0 z0 2 16 Try.underlying35 HI0.out HZ0.out hz2 hz3 hz1 (by decide) _ _ _ rfl (HO2.out.ext (Ext.alloc (Ext.refl _) _)) ⟨W2.heap.size, 0, none⟩ 1 1 (Pr.cells ⟨x, y⟩) rfl rfl (fun j u hj => by rw [Addr.add_lit]; exact (Row.new W2 _ _).range j u hj) (pr_one ⟨x, y⟩) (by unfold maxLen; omega) (by omega) (by have := HE2.out.size; simp; omega) (by omega) ?_
              intro v5 w5 hown5 hgrow5 hat5
              have hO5 : Only (nwr w) W2 w5 := Only.trans' (Only.alloc (Only.refl _ _) _) (grownOnly (S := nwr w) hgrow5 (fun g e => (HO2.out.lt g e).1))
              refine hK _ _ ⟨_, Only.refl _ _, hO5, ?_⟩
              clear hK K
              simp only [Act.put, List.setIfInBounds_toArray, List.set_cons_zero, List.set_cons_succ]
              repeat' (first | (refine only_read (by rfl) (fun K hK => ?_); go_big_quiet_op; refine hK _ ?_; clear hK K))
              refine only_nil ?_
              have HO5 : Hid (ownsAt w5 w.heap.size 38 2 v5 (L ++ [Pr.mk x y]).length (prList (L ++ [Pr.mk x y]))) := hid (by rw [prList_append, prList_one, hLl]; exact hown5)
              have HE5 := hid (Ext.only HE2.out hO5 (fun i hi => hi))
              clear hown5 hgrow5 hat5 hO5 HO2 HE2
              go_wp2
              go_roundw
              case rel => exact ⟨j + 1, _, by omega, by go_num, by rw [hLl]; omega, HO5, HL2, HE5⟩
              case measure => simp [intOf]; omega
          · obtain rfl : j = n := by omega
            have hj1 : ¬ (j : Int) < (j : Int) := by omega
            have hend : P j = false := HH.out.out j (Nat.le_refl _)
            have hkj : k < j := hlt
            have HL2 := hid (HRI.out.row hkj HPT.out hend)
            have hLl : (L ++ [Pr.mk (fr + 16 * (k : Int)) (fr + 16 * (j : Int))]).length = L.length + 1 := by simp
            have H1 : Hid (IntKind.i64.wrap (16 * (k : Int)) = 16 * (k : Int)) := hid (by rw [IntKind.wrap_i64]; omega)
            have H2 : Hid (IntKind.i64.wrap (16 * (j : Int)) = 16 * (j : Int)) := hid (by rw [IntKind.wrap_i64]; omega)
            have H3 : Hid (IntKind.i64.wrap (fr + 16 * (k : Int)) = fr + 16 * (k : Int)) := hid (by rw [IntKind.wrap_i64]; omega)
            have H4 : Hid (IntKind.i64.wrap (fr + 16 * (j : Int)) = fr + 16 * (j : Int)) := hid (by rw [IntKind.wrap_i64]; omega)
            obtain ⟨x, hx⟩ : ∃ x, fr + 16 * (k : Int) = x := ⟨_, rfl⟩
            obtain ⟨y, hy⟩ : ∃ x, fr + 16 * (j : Int) = x := ⟨_, rfl⟩
            rw [hx, hy] at HL2 hLl
            rw [hx] at H3
            rw [hy] at H4
            have HX9 := hid hx
            have HY9 := hid hy
            clear hx hy hend
            go_upto_region 9 with (fail)
            refine wp_region_only (S := nwr w) (.rd 0 (.rd 1 (.rd 2 (.rd 3 (.rd 4 (.rd 5 (.rd 6 (.rd 7 (.rd 8 (.rd 9 (.rd 10 (.rd 11 (.rd 12 (.rd 13 (.rd 14 (.rd 15 (.ac 16 (.ac 17 (.rd 18 .done))))))))))))))))))) (by kernel_rfl) (by kernel_rfl) (fun _ _ d _ _ h => by cases d <;> exact h) (by simp only [Ord.map, nthOp, List.append]; rfl) ?_
            intro d0
            have hx0 : Ext wr (Go.Proofs.Ytkjakaoimbmcjaa.grow wr d0) := Ext.grow (Ext.refl _) d0
            have HO2 := hid (HO.out.ext hx0)
            have HE2 := hid (HE.out.trans hx0)
            have c0' : (Go.Proofs.Ytkjakaoimbmcjaa.grow wr d0).cell? ⟨p, 0, none⟩ = some (.int .i64 fr) := (hx0.cells p 0 hlp).trans c0
            have hlp2 : p < (Go.Proofs.Ytkjakaoimbmcjaa.grow wr d0).heap.size := Nat.lt_of_lt_of_le hlp hx0.size
            clear HO HE hx0 c1 hc hlp HR c0
            generalize Go.Proofs.Ytkjakaoimbmcjaa.grow wr d0 = W2 at HO2 HE2 c0' hlp2 ⊢
            repeat' (first | (refine only_read (by rfl) (fun K hK => ?_); refine quiet_runD 44 rfl (.pointer (some ⟨p, 0, none⟩)) (fun w => by kernel_rfl) ?_; refine hK _ ?_; clear hK K; simp only [Act.put, List.setIfInBounds_toArray, List.set_cons_zero, List.set_cons_succ]) | (refine only_read (by rfl) (fun K hK => ?_); refine quiet_runD 45 rfl (.pointer (some ⟨p, 0, none⟩)) (fun w => by kernel_rfl) ?_; refine hK _ ?_; clear hK K; simp only [Act.put, List.setIfInBounds_toArray, List.set_cons_zero, List.set_cons_succ]) | (refine only_read (by rfl) (fun K hK => ?_); refine quiet_runD 51 rfl (.pointer (some ⟨p, 0, none⟩)) (fun w => by kernel_rfl) ?_; refine hK _ ?_; clear hK K; simp only [Act.put, List.setIfInBounds_toArray, List.set_cons_zero, List.set_cons_succ]) | (refine only_read (by rfl) (fun K hK => ?_); refine quiet_runD 52 rfl (.pointer (some ⟨p, 0, none⟩)) (fun w => by kernel_rfl) ?_; refine hK _ ?_; clear hK K; simp only [Act.put, List.setIfInBounds_toArray, List.set_cons_zero, List.set_cons_succ]) | (refine only_read (by rfl) (fun K hK => ?_); refine quiet_load1 3 _ rfl p 0 rfl (.int .i64 fr) _ (fun w' hw' => (hw'.cells p 0 hlp2 hnp).trans c0') Try.underlying3 rfl ?_; refine hK _ ?_; clear hK K; simp only [Act.put, List.setIfInBounds_toArray, List.set_cons_zero, List.set_cons_succ]) | (refine only_read (by rfl) (fun K hK => ?_); refine quiet_runD 48 rfl (.int .i64 (IntKind.i64.wrap (16 * (k : Int)))) (fun w => by kernel_rfl) ?_; rw [H1.out]; refine hK _ ?_; clear hK K; simp only [Act.put, List.setIfInBounds_toArray, List.set_cons_zero, List.set_cons_succ]) | (refine only_read (by rfl) (fun K hK => ?_); refine quiet_runD 49 rfl (.int .i64 (IntKind.i64.wrap (fr + 16 * (k : Int)))) (fun w => by kernel_rfl) ?_; rw [HX9.out, H3.out]; refine hK _ ?_; clear hK K; simp only [Act.put, List.setIfInBounds_toArray, List.set_cons_zero, List.set_cons_succ]) | (refine only_read (by rfl) (fun K hK => ?_); refine quiet_runD 55 rfl (.int .i64 (IntKind.i64.wrap (16 * (j : Int)))) (fun w => by kernel_rfl) ?_; rw [H2.out]; refine hK _ ?_; clear hK K; simp only [Act.put, List.setIfInBounds_toArray, List.set_cons_zero, List.set_cons_succ]) | (refine only_read (by rfl) (fun K hK => ?_); refine quiet_runD 56 rfl (.int .i64 (IntKind.i64.wrap (fr + 16 * (j : Int)))) (fun w => by kernel_rfl) ?_; rw [HY9.out, H4.out]; refine hK _ ?_; clear hK K; simp only [Act.put, List.setIfInBounds_toArray, List.set_cons_zero, List.set_cons_succ]) | (refine only_read (by rfl) (fun K hK => ?_); refine quiet_runD 57 rfl (.agg #[.int .i64 x, .int .i64 y]) (fun w => by kernel_rfl) ?_; refine hK _ ?_; clear hK K; simp only [Act.put, List.setIfInBounds_toArray, List.set_cons_zero, List.set_cons_succ]) | (refine only_read (by rfl) (fun K hK => ?_); go_big_quiet_op; refine hK _ ?_; clear hK K))
            refine only_act (by rfl) (fun K hK => ?_)
            go_wp2_with fail
            refine ⟨_, Only.refl _ _, Only.alloc (Only.refl _ _) _, ?_⟩
            refine only_act (by rfl) (fun K hK => ?_)
            refine wp_append_at _ _ _ 35 rfl w.heap.size 38 i0 z0 2 16 Try.underlying35 HI0.out HZ0.out hz2 hz3 hz1 (by decide) _ _ _ rfl (HO2.out.ext (Ext.alloc (Ext.refl _) _)) ⟨W2.heap.size, 0, none⟩ 1 1 (Pr.cells ⟨x, y⟩) rfl rfl (fun j u hj => by rw [Addr.add_lit]; exact (Row.new W2 _ _).range j u hj) (pr_one ⟨x, y⟩) (by unfold maxLen; omega) (by omega) (by have := HE2.out.size; simp; omega) (by omega) ?_
            intro v5 w5 hown5 hgrow5 hat5
            have hO5 : Only (nwr w) W2 w5 := Only.trans' (Only.alloc (Only.refl _ _) _) (grownOnly (S := nwr w) hgrow5 (fun g e => (HO2.out.lt g e).1))
            refine hK _ _ ⟨_, Only.refl _ _, hO5, ?_⟩
            clear hK K
            simp only [Act.put, List.setIfInBounds_toArray, List.set_cons_zero, List.set_cons_succ]
            repeat' (first | (refine only_read (by rfl) (fun K hK => ?_); go_big_quiet_op; refine hK _ ?_; clear hK K))
            refine only_nil ?_
            have HO5 : Hid (ownsAt w5 w.heap.size 38 2 v5 (L ++ [Pr.mk x y]).length (prList (L ++ [Pr.mk x y]))) := hid (by rw [prList_append, prList_one, hLl]; exact hown5)
            have HE5 := hid (Ext.only HE2.out hO5 (fun i hi => hi))
            clear hown5 hgrow5 hat5 hO5 HO2 HE2
            go_wp2
            go_roundw
            case rel => exact ⟨j + 1, _, by omega, by go_num, by rw [hLl]; omega, HO5, HL2, HE5⟩
            case measure => simp [intOf]; omega
    · have hk1 : ¬ (k : Int) < (n : Int) := by omega
      obtain rfl : L = l := HRI.out.done (by omega) HH.out.out HBI.out HGD.out
      obtain ⟨A, ca, rfl, _, _⟩ := HO.out.shape
      go_wp2
      go_ret
      exact ⟨A, ⟨ca, rfl⟩, hid (HO.out.rdP rfl), HE, hid (fun b o e => (HO.out.lt b (by rw [e]; rfl)).1)⟩
set_option maxRecDepth 100000 in
set_option maxHeartbeats 4000000 in
theorem rxmost (p q n : Nat) (fr : Int) (P : Nat → Bool) (l : List Pr) (w : World) (h : Rx w p q n fr P) (hb : BI fr P l) (hG : Good fr (fr + 16 * (n : Int)) l) : Calls Try.prog 18 #[.pointer (some ⟨p, 0, none⟩)] w fun e w' => e = .returned (.int .i64 (mostP l)) ∧ Ext w w' := by
  have HH := hid h
  have HBI := hid hb
  have HGD := hid hG
  have HO := hid (hG.okF h.b0 (by have := h.b1; omega))
  have hll : l.length ≤ 20000 := by
    have := h.b1
    have := h.b0
    rcases good_len l fr hG with c | c
    · rw [c]; simp
    · omega
  clear h hb hG
  go_enter Try.func18, Try.ntmps18
  go_wp2_with (go_at_call 21; refine (rxruns p q n fr P l _ HH.out HBI.out HGD.out).mono ?_; rintro e w1 ⟨A, ca, rfl, HR, HX, HN⟩)
  go_loopw [3, 5] (fun s i wr => ∃ k : Nat, k ≤ l.length ∧ s = .int .i64 (mostP (l.take k)) ∧ i = .int .i64 k ∧ Ext w1 wr) (fun _ i _ => l.length - (intOf i).toNat)
  case atStart => exact ⟨0, Nat.zero_le _, rfl, rfl, Ext.refl _⟩
  case round =>
    obtain ⟨k, hk, rfl, rfl, hx⟩ := hrel
    by_cases hlt : k < l.length
    · obtain ⟨b, o, rfl, hb, c0, c1⟩ := (HR.out.ext hx).two hlt
      have hk1 : (k : Int) < (l.length : Int) := by omega
      have hk0 : (0 : Int) ≤ (k : Int) := by omega
      have hx1 := HO.out _ (List.getElem_mem hlt)
      obtain ⟨d, hde⟩ : ∃ x, (l[k]).hi - (l[k]).lo = x := ⟨_, rfl⟩
      have hwd : wrap64 ((l[k]).hi - (l[k]).lo) = d := by rw [hde]; exact wrapP (by omega) (by omega)
      have HS : Hid (mostP (l.take (k + 1)) = max (mostP (l.take k)) d) := hid (by rw [List.take_succ_eq_append_getElem hlt, mostP_one]; unfold Pr.len; rw [hde])
      generalize hxl : (l[k]).lo = xl at *
      generalize hxh : (l[k]).hi = xh at *
      obtain ⟨s, hs⟩ : ∃ x, mostP (l.take k) = x := ⟨_, rfl⟩
      rw [hs] at HS ⊢
      clear hde hxl hxh hs hx1
      by_cases hm : s < d
      · have HM : Hid (max s d = d) := hid (by omega)
        go_upto_region 6 with (fail)
        refine wp_region_step (.rd 0 (.rd 1 (.rd 2 (.rd 3 (.rd 4 (.rd 5 (.rd 6 (.rd 7 (.rd 8 (.rd 9 (.rd 10 (.rd 11 (.ac 12 (.rd 13 .done)))))))))))))) (by kernel_rfl) (by kernel_rfl) (fun _ _ d _ _ h => by cases d <;> exact h) (by simp only [Ord.map, nthOp, List.append]; rfl) ?_
        intro d0
        repeat' (first | (refine step_read (by rfl) (fun K hK => ?_); go_big_quiet_op; refine hK _ ?_; clear hK K) | (refine step_act (by rfl) (fun K hK => ?_); go_wp2_with fail; refine ⟨_, Ext.refl _, (by repeat (first | (with_reducible exact Ext.refl _) | (with_reducible refine Ext.undrew ?_) | (with_reducible refine Ext.grow ?_ _) | (with_reducible refine Ext.drew ?_) | (with_reducible refine Ext.drewN ?_ _) | (with_reducible refine Ext.alloc ?_ _) | (with_reducible assumption) | ((with_reducible refine Ext.setCell ?_ ?_ _); rotate_left; (first | exact Nat.le_refl _ | ((try dsimp only); (try simp only [World.size_alloc, grow_size, World.size_setCell]); omega))))), ?_⟩))
        refine step_nil ?_
        go_wp2
        go_roundw
        case rel => exact ⟨k + 1, by omega, by rw [HS.out, HM.out], by go_num, (by repeat (first | (with_reducible exact Ext.refl _) | (with_reducible refine Ext.undrew ?_) | (with_reducible refine Ext.grow ?_ _) | (with_reducible refine Ext.drew ?_) | (with_reducible refine Ext.drewN ?_ _) | (with_reducible refine Ext.alloc ?_ _) | (with_reducible assumption) | ((with_reducible refine Ext.setCell ?_ ?_ _); rotate_left; (first | exact Nat.le_refl _ | ((try dsimp only); (try simp only [World.size_alloc, grow_size, World.size_setCell]); omega)))))⟩
        case measure => simp [intOf]; omega
      · have HM : Hid (max s d = s) := hid (by omega)
        go_upto_region 6 with (fail)
        refine wp_region_step (.rd 0 (.rd 1 (.rd 2 (.rd 3 (.rd 4 (.rd 5 (.rd 6 (.rd 7 (.rd 8 (.rd 9 (.rd 10 (.rd 11 (.ac 12 (.rd 13 .done)))))))))))))) (by kernel_rfl) (by kernel_rfl) (fun _ _ d _ _ h => by cases d <;> exact h) (by simp only [Ord.map, nthOp, List.append]; rfl) ?_
        intro d0
        repeat' (first | (refine step_read (by rfl) (fun K hK => ?_); go_big_quiet_op; refine hK _ ?_; clear hK K) | (refine step_act (by rfl) (fun K hK => ?_); go_wp2_with fail; refine ⟨_, Ext.refl _, (by repeat (first | (with_reducible exact Ext.refl _) | (with_reducible refine Ext.undrew ?_) | (with_reducible refine Ext.grow ?_ _) | (with_reducible refine Ext.drew ?_) | (with_reducible refine Ext.drewN ?_ _) | (with_reducible refine Ext.alloc ?_ _) | (with_reducible assumption) | ((with_reducible refine Ext.setCell ?_ ?_ _); rotate_left; (first | exact Nat.le_refl _ | ((try dsimp only); (try simp only [World.size_alloc, grow_size, World.size_setCell]); omega))))), ?_⟩))
        refine step_nil ?_
        go_wp2
        go_roundw
        case rel => exact ⟨k + 1, by omega, by rw [HS.out, HM.out], by go_num, (by repeat (first | (with_reducible exact Ext.refl _) | (with_reducible refine Ext.undrew ?_) | (with_reducible refine Ext.grow ?_ _) | (with_reducible refine Ext.drew ?_) | (with_reducible refine Ext.drewN ?_ _) | (with_reducible refine Ext.alloc ?_ _) | (with_reducible assumption) | ((with_reducible refine Ext.setCell ?_ ?_ _); rotate_left; (first | exact Nat.le_refl _ | ((try dsimp only); (try simp only [World.size_alloc, grow_size, World.size_setCell]); omega)))))⟩
        case measure => simp [intOf]; omega
    · obtain rfl : k = l.length := by omega
      have hk1 : ¬ (l.length : Int) < (l.length : Int) := by omega
      go_wp2
      go_ret
      exact ⟨by first | rfl | rw [List.take_length], HX.out.trans hx⟩

end Go.Proofs.Ytkjakaoimbmcjaa
