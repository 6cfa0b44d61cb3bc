/- Layer 6: the document's Open. -/
import Derived.Test.YtlapemeoffpmgaaCloRb
import Derived.Test.YtlapemeoffpmgaaCloX
import Derived.Test.YtlapemeoffpmgaaCloLw
namespace Go.Proofs.Ytlapemeoffpmgaa
set_option linter.unusedSimpArgs false
set_option linter.unusedVariables false
open Go.RowKit

theorem own_some {w : World} {base : Nat} {e : TypeId} {size n c : Nat} {A : Option Addr} {xs : List Value} (h : ownsAt w base e size (.slice A n c) n xs) : (A = none ∧ c = 0) ∨ ∃ g o, A = some ⟨g, o, none⟩ := by
  rcases h.2 with ⟨h1, _⟩ | ⟨g, o, cap, cur, h1, _⟩
  · simp only [Value.slice.injEq] at h1
    exact .inl ⟨h1.1, h1.2.2⟩
  · simp only [Value.slice.injEq] at h1
    exact .inr ⟨g, _, h1.1⟩
theorem step_gen {P : Program} {ops : Array Oper} {Q : Exit → Act → World → Prop} {r : Ord Oper} {W : World} {a : Act} {w : World} (I : World → Prop) (hI : I w) (h : ∀ w', I w' → wpStep P ops Q r W a w') : wpStep P ops Q r W a w := h w hI
theorem run_b0 (w : World) : (Instr.buildSlice 22 0 #[]).run Try.prog w = .ok (.slice (some ⟨w.heap.size, 0, none⟩) 0 0) (w.alloc (.cells #[] 24)) := by kernel_rfl
theorem wp_build0 {o : Oper} {a : Act} {w : World} {K : Act → World → Prop} {Q : Exit → Act → World → Prop} (ho : o.op = .buildSlice 22 0 #[])
    (h : K (a.put o.dst (.slice (some ⟨w.heap.size, 0, none⟩) 0 0)) (w.alloc (.cells #[] 24))) : o.wp Try.prog a w K Q := by
  unfold Oper.wp execOp
  simp only [ho, Sem.run_bind, List.map_toArray, List.map_nil, run_b0, Result.andThen_ok]
  exact h
theorem own0 (w : World) : ownsAt (w.alloc (.cells #[] 24)) w.heap.size 24 6 (.slice (some ⟨w.heap.size, 0, none⟩) 0 0) 0 [] :=
  ⟨rfl, .inr ⟨w.heap.size, 0, 0, #[], by simp, Nat.le_refl _, World.alloc_heap_new w _, Nat.le_refl _, by unfold maxLen; omega, .inl rfl, by simp⟩⟩
set_option maxRecDepth 100000 in
set_option maxHeartbeats 4000000 in
theorem ropen_ (s : Nat) (A : Option Addr) (cg : Nat) (G : List Cap) (B : Option Addr) (co : Nat) (O : List Cap) (w : World) (h : ClS w s A cg G B co O) (hN : O.Nodup) (hnrm : ∀ x ∈ O, NrmC x) (hl : O.length ≤ 1000) : Calls Try.prog 17 #[.pointer (some ⟨s, 0, none⟩)] w fun e w' => ∃ A' c' out, e = .returned (.slice A' out.length c') ∧ Hid (GrtL (fun x => x ∈ O) out) ∧ Hid (RdF Cap.cells w' A' out) ∧ Hid (out.length ≤ O.length) ∧ Hid (Ext w w') := by
  have HC1 := hid h.c1
  have HRO := hid h.r1
  have hsl := h.lt
  have HND := hid hN
  have HNR := hid hnrm
  obtain ⟨n, hn⟩ : ∃ x, O.length = x := ⟨_, rfl⟩
  rw [hn] at HC1 hl
  have HN := hid hn
  clear h hN hnrm hn
  go_enter Try.func17, Try.ntmps17
  go_wp2
  go_loopw [3, 4] (fun v i wr => ∃ k : Nat, k ≤ n ∧ i = .int .i64 k ∧ Hid (ownsAt wr w.heap.size 24 6 v (mxL O (O.take k)).length (rowF Cap.cells (mxL O (O.take k)))) ∧ Hid (Ext w wr)) (fun _ i _ => n - (intOf i).toNat)
  case atStart => exact ⟨0, Nat.zero_le _, rfl, hid (by rw [List.take_zero, mx_nil]; exact ownsAt_nil _ _ _ _), hid (Ext.refl _)⟩
  case round =>
    obtain ⟨k, hk, rfl, HOU, HX⟩ := hrel
    obtain ⟨Av, cv, rfl, _, _⟩ := HOU.out.shape
    have hk0 : (0 : Int) ≤ (k : Int) := by omega
    have hc1 := (HX.out.cells s 1 hsl).trans HC1.out
    have hsw := Nat.lt_of_lt_of_le hsl HX.out.size
    by_cases hlt : k < n
    · have hk1 : (k : Int) < (n : Int) := by omega
      have hkl : k < O.length := by rw [HN.out]; exact hlt
      obtain ⟨c, hc⟩ : ∃ c, O[k] = c := ⟨_, rfl⟩
      have HKL := hid hkl
      have HCK := hid (show O[k] = (Cap.mk c.tag c.base c.top c.at_ c.perms c.type) from hc)
      have HTK := hid (show O.take (k + 1) = O.take k ++ [(Cap.mk c.tag c.base c.top c.at_ c.perms c.type)] from (List.take_succ_eq_append_getElem hkl).trans (by rw [hc]))
      obtain ⟨bc, oc, ec, hbc, q0, q1, q2, q3, q4, q5⟩ := (HRO.out.ext HX.out).cap hkl c hc
      rw [ec] at hc1
      clear hc
      go_upto_region 6 with (fail)
      refine wp_gen (fun W => Hid (Ext wr W) ∧ Hid (Row W wr.heap.size 0 (Cap.cells (Cap.mk c.tag c.base c.top c.at_ c.perms c.type)))) ⟨hid (by repeat (first | (with_reducible exact Ext.refl _) | (with_reducible refine Ext.undrew ?_) | (with_reducible refine Ext.grow ?_ _) | (with_reducible refine Ext.drew ?_) | (with_reducible refine Ext.drewN ?_ _) | (with_reducible refine Ext.alloc ?_ _) | (with_reducible assumption) | ((with_reducible refine Ext.setCell ?_ ?_ _); rotate_left; (first | exact Nat.le_refl _ | ((try dsimp only); (try simp only [World.size_alloc, grow_size, World.size_setCell]); omega))))), hid (Row.new wr #[.bool c.tag, .int .i64 c.base, .int .i64 c.top, .int .i64 c.at_, .int .i64 c.perms, .int .i64 c.type] 24)⟩ ?_
      rintro W3 ⟨HX3, HR3⟩
      generalize wr.heap.size = x5 at HR3 ⊢
      clear q0 q1 q2 q3 q4 q5 hc1 hsw
      have HEC := hid ec
      rw [ec] at HC1
      clear ec
      go_wp2
      go_loopw [6, 7] (fun b i wx => ∃ j : Nat, j ≤ n ∧ i = .int .i64 j ∧ b = .bool ((O.take j).all (fun y : Cap => y == (Cap.mk c.tag c.base c.top c.at_ c.perms c.type) || !underR (Cap.mk c.tag c.base c.top c.at_ c.perms c.type) y)) ∧ Hid (Ext W3 wx)) (fun _ i _ => n - (intOf i).toNat)
      case atStart => exact ⟨0, Nat.zero_le _, rfl, rfl, hid (Ext.refl _)⟩
      case round =>
        obtain ⟨j, hj, rfl, rfl, HXj⟩ := hrel
        have hj0 : (0 : Int) ≤ (j : Int) := by omega
        obtain ⟨p0, p1, p2, p3, p4, p5, p6⟩ := Row.six (c := (Cap.mk c.tag c.base c.top c.at_ c.perms c.type)) (HR3.out.ext HXj.out)
        simp only [Nat.zero_add] at p2 p3 p4 p5 p6
        have hc1 := ((HX.out.trans (HX3.out.trans HXj.out)).cells s 1 hsl).trans HC1.out
        have hsw := Nat.lt_of_lt_of_le hsl (HX.out.trans (HX3.out.trans HXj.out)).size
        by_cases hltj : j < n
        · have hj1 : (j : Int) < (n : Int) := by omega
          have hjl : j < O.length := by rw [HN.out]; exact hltj
          obtain ⟨d, hd⟩ : ∃ d, O[j] = d := ⟨_, rfl⟩
          have HV := hid (show (O.take (j + 1)).all (fun y : Cap => y == (Cap.mk c.tag c.base c.top c.at_ c.perms c.type) || !underR (Cap.mk c.tag c.base c.top c.at_ c.perms c.type) y) = ((O.take j).all (fun y : Cap => y == (Cap.mk c.tag c.base c.top c.at_ c.perms c.type) || !underR (Cap.mk c.tag c.base c.top c.at_ c.perms c.type) y) && (d == (Cap.mk c.tag c.base c.top c.at_ c.perms c.type) || !underR (Cap.mk c.tag c.base c.top c.at_ c.perms c.type) d)) by rw [List.take_succ_eq_append_getElem hjl, List.all_append, hd]; simp)
          have HEQ := hid (show (d == (Cap.mk c.tag c.base c.top c.at_ c.perms c.type)) = decide (j = k) by
            by_cases e : j = k
            · subst e
              rw [decide_eq_true rfl, show d = (Cap.mk c.tag c.base c.top c.at_ c.perms c.type) from hd.symm.trans HCK.out]
              simp
            · rw [decide_eq_false e, beq_eq_false_iff_ne, ← hd]
              intro e2
              have h9 := List.pairwise_iff_getElem.1 HND.out
              rcases Nat.lt_or_gt_of_ne e with c | c
              · exact h9 j k hjl HKL.out c (e2.trans HCK.out.symm)
              · exact h9 k j HKL.out hjl c (HCK.out.trans e2.symm))
          obtain ⟨bd, od, ed, hbd, q0, q1, q2, q3, q4, q5⟩ := (HRO.out.ext (HX.out.trans (HX3.out.trans HXj.out))).cap hjl d hd
          have e9 := HEC.out.symm.trans ed
          simp only [Option.some.injEq, Addr.mk.injEq, and_true] at e9
          obtain ⟨rfl, rfl⟩ := e9
          clear hd ed
          generalize (O.take j).all (fun y : Cap => y == (Cap.mk c.tag c.base c.top c.at_ c.perms c.type) || !underR (Cap.mk c.tag c.base c.top c.at_ c.perms c.type) y) = v at HV ⊢
          cases v with
          | false =>
            go_upto_region 10 with (fail)
            refine wp_region_grow (by kernel_rfl) (by kernel_rfl) (by first | (simp only [List.append]; rfl) | rfl) ?_
            (repeat (go_big_quiet_step (fail)))
            refine wpQuiet_nil ?_
            intro wq hq
            obtain ⟨dq, rfl⟩ := hq
            go_wp2
            go_roundw
            case rel => exact ⟨j + 1, by omega, by go_num, by rw [HV.out]; rfl, hid (HXj.out.trans (by repeat (first | (with_reducible exact Ext.refl _) | (with_reducible refine Ext.undrew ?_) | (with_reducible refine Ext.grow ?_ _) | (with_reducible refine Ext.drew ?_) | (with_reducible refine Ext.drewN ?_ _) | (with_reducible refine Ext.alloc ?_ _) | (with_reducible assumption) | ((with_reducible refine Ext.setCell ?_ ?_ _); rotate_left; (first | exact Nat.le_refl _ | ((try dsimp only); (try simp only [World.size_alloc, grow_size, World.size_setCell]); omega))))))⟩
            case measure => simp [intOf]; omega
          | true =>
            by_cases hjk : j = k
            · subst hjk
              rw [HEQ.out, decide_eq_true rfl] at HV
              go_upto_region 10 with (fail)
              refine wp_region_grow (by kernel_rfl) (by kernel_rfl) (by first | (simp only [List.append]; rfl) | rfl) ?_
              (repeat (go_big_quiet_step (fail)))
              refine wpQuiet_nil ?_
              intro wq hq
              obtain ⟨dq, rfl⟩ := hq
              go_wp2
              go_roundw
              case rel => exact ⟨j + 1, by omega, by go_num, by rw [HV.out]; rfl, hid (HXj.out.trans (by repeat (first | (with_reducible exact Ext.refl _) | (with_reducible refine Ext.undrew ?_) | (with_reducible refine Ext.grow ?_ _) | (with_reducible refine Ext.drew ?_) | (with_reducible refine Ext.drewN ?_ _) | (with_reducible refine Ext.alloc ?_ _) | (with_reducible assumption) | ((with_reducible refine Ext.setCell ?_ ?_ _); rotate_left; (first | exact Nat.le_refl _ | ((try dsimp only); (try simp only [World.size_alloc, grow_size, World.size_setCell]); omega))))))⟩
              case measure => simp [intOf]; omega
            · rw [HEQ.out, decide_eq_false hjk] at HV
              have hne1 : ¬ (j : Int) = (k : Int) := by omega
              have hne3 : ((j : Int) == (k : Int)) = false := by rw [beq_eq_false_iff_ne]; exact hne1
              have HUI : Hid (∀ W, Ext wr W → Calls Try.prog 23 #[.agg #[.bool c.tag, .int .i64 c.base, .int .i64 c.top, .int .i64 c.at_, .int .i64 c.perms, .int .i64 c.type], .agg #[.bool d.tag, .int .i64 d.base, .int .i64 d.top, .int .i64 d.at_, .int .i64 d.perms, .int .i64 d.type]] W fun e w' => e = .returned (.bool (underR (Cap.mk c.tag c.base c.top c.at_ c.perms c.type) d)) ∧ Ext W w') := hid (fun W _ => rcapUnder c.tag c.base c.top c.at_ c.perms c.type d.tag d.base d.top d.at_ d.perms d.type W)
              generalize underR (Cap.mk c.tag c.base c.top c.at_ c.perms c.type) d = vu at HUI HV
              cases vu
              all_goals
                go_upto_region 10 with (fail)
                refine wp_region_grow (by kernel_rfl) (by kernel_rfl) (by first | (simp only [List.append]; rfl) | rfl) ?_
                (repeat (go_big_quiet_step ((go_at_call 23; exact growOf (HUI.out _ (by repeat (first | (with_reducible exact Ext.refl _) | (with_reducible refine Ext.undrew ?_) | (with_reducible refine Ext.grow ?_ _) | (with_reducible refine Ext.drew ?_) | (with_reducible refine Ext.drewN ?_ _) | (with_reducible refine Ext.alloc ?_ _) | (with_reducible assumption) | ((with_reducible refine Ext.setCell ?_ ?_ _); rotate_left; (first | exact Nat.le_refl _ | ((try dsimp only); (try simp only [World.size_alloc, grow_size, World.size_setCell]); omega))))))))))
                refine wpQuiet_nil ?_
                intro wq hq
                obtain ⟨dq, rfl⟩ := hq
                go_wp2
                go_roundw
                case rel => exact ⟨j + 1, by omega, by go_num, by rw [HV.out]; rfl, hid (HXj.out.trans (by repeat (first | (with_reducible exact Ext.refl _) | (with_reducible refine Ext.undrew ?_) | (with_reducible refine Ext.grow ?_ _) | (with_reducible refine Ext.drew ?_) | (with_reducible refine Ext.drewN ?_ _) | (with_reducible refine Ext.alloc ?_ _) | (with_reducible assumption) | ((with_reducible refine Ext.setCell ?_ ?_ _); rotate_left; (first | exact Nat.le_refl _ | ((try dsimp only); (try simp only [World.size_alloc, grow_size, World.size_setCell]); omega))))))⟩
                case measure => simp [intOf]; omega
        · obtain rfl : n = j := by omega
          have hj1 : ¬ (n : Int) < (n : Int) := by omega
          rw [show O.take n = O from List.take_of_length_le (by rw [HN.out]; exact Nat.le_refl _)]
          have HMO := hid (show O.all (fun y : Cap => y == (Cap.mk c.tag c.base c.top c.at_ c.perms c.type) || !underR (Cap.mk c.tag c.base c.top c.at_ c.perms c.type) y) = mostE O (Cap.mk c.tag c.base c.top c.at_ c.perms c.type) from rfl)
          rw [HMO.out]
          clear HMO
          have HT := hid (show mxL O (O.take (k + 1)) = stpM O (mxL O (O.take k)) (Cap.mk c.tag c.base c.top c.at_ c.perms c.type) by rw [HTK.out]; exact mx_snoc O _ _)
          generalize hmo : mostE O (Cap.mk c.tag c.base c.top c.at_ c.perms c.type) = mo at HT ⊢
          have HMO := hid hmo
          clear hmo
          cases mo with
          | false =>
            have HT2 := hid (show mxL O (O.take (k + 1)) = mxL O (O.take k) by rw [HT.out]; unfold stpM; rw [if_neg (by rw [HMO.out]; decide)])
            clear p0 p1 p2 p3 p4 p5 p6
            go_wp2
            go_roundw
            case rel => exact ⟨k + 1, by omega, by go_num, by rw [HT2.out]; exact hid (HOU.out.ext (HX3.out.trans HXj.out)), hid (HX.out.trans (HX3.out.trans HXj.out))⟩
            case measure => simp [intOf]; omega
          | true =>
            have HT2 := hid (show mxL O (O.take (k + 1)) = insS (Cap.mk c.tag c.base c.top c.at_ c.perms c.type) (mxL O (O.take k)) by rw [HT.out]; unfold stpM; rw [if_pos HMO.out])
            clear HT HMO
            have HO5 := hid (HOU.out.ext (HX3.out.trans HXj.out))
            have HX5 := hid (HX.out.trans (HX3.out.trans HXj.out))
            have HR5 := hid (HR3.out.ext HXj.out)
            have HLL := hid (show (mxL O (O.take k)).length ≤ 1000 by
              have h9 := mx_len (O := O) (P := O.take k) (fun x hx => HNR.out x (List.mem_of_mem_take hx)) (HND.out.sublist (List.take_sublist _ _))
              rw [List.length_take, HN.out] at h9
              omega)
            clear p0 p1 p2 p3 p4 p5 p6
            clear HX3 HR3 HXj HOU
            generalize mxL O (O.take k) = LL at HO5 HT2 HLL ⊢
            obtain ⟨ll, hll⟩ : ∃ x, LL.length = x := ⟨_, rfl⟩
            rw [hll] at HO5 HLL ⊢
            have HLN := hid hll
            clear hll
            have hll1 := HLL.out
            go_wp2
            clear hc1
            go_loopw [8] (fun i wx => ∃ at_ : Nat, at_ ≤ ll ∧ i = .int .i64 at_ ∧ Hid (∀ (j : Nat) (h : j < LL.length), j < at_ → lexC LL[j] (Cap.mk c.tag c.base c.top c.at_ c.perms c.type) = true) ∧ Hid (Ext wr wx)) (fun i _ => ll - (intOf i).toNat)
            case atStart => exact ⟨0, Nat.zero_le _, rfl, hid (fun j h h0 => by omega), hid (Ext.refl _)⟩
            case round =>
              obtain ⟨at_, hat, rfl, HAL, HXa⟩ := hrel
              have ha0 : (0 : Int) ≤ (at_ : Int) := by omega
              obtain ⟨p0, p1, p2, p3, p4, p5, p6⟩ := Row.six (c := (Cap.mk c.tag c.base c.top c.at_ c.perms c.type)) (HR5.out.ext HXa.out)
              simp only [Nat.zero_add] at p2 p3 p4 p5 p6
              by_cases hlta : at_ < ll
              · have ha1 : (at_ : Int) < (ll : Int) := by omega
                have hal : at_ < LL.length := by rw [HLN.out]; exact hlta
                obtain ⟨x, hx⟩ : ∃ x, LL[at_] = x := ⟨_, rfl⟩
                obtain ⟨bx, ox, ex, hbx, q0, q1, q2, q3, q4, q5⟩ := ((HO5.out.rdF HLN.out).ext HXa.out).cap hal x hx
                subst ex
                have HLI : Hid (∀ W, Ext wr W → Calls Try.prog 35 #[.agg #[.bool x.tag, .int .i64 x.base, .int .i64 x.top, .int .i64 x.at_, .int .i64 x.perms, .int .i64 x.type], .agg #[.bool c.tag, .int .i64 c.base, .int .i64 c.top, .int .i64 c.at_, .int .i64 c.perms, .int .i64 c.type]] W fun e w' => e = .returned (.bool (lexC x (Cap.mk c.tag c.base c.top c.at_ c.perms c.type))) ∧ Ext W w') := hid (fun W _ => rless_ x.tag x.base x.top x.at_ x.perms x.type c.tag c.base c.top c.at_ c.perms c.type W)
                cases hv : lexC x (Cap.mk c.tag c.base c.top c.at_ c.perms c.type) with
                | true =>
                  rw [hv] at HLI
                  have HAL2 := hid (show ∀ (j : Nat) (h : j < LL.length), j < at_ + 1 → lexC LL[j] (Cap.mk c.tag c.base c.top c.at_ c.perms c.type) = true from fun j h h0 => by
                    rcases Nat.lt_or_ge j at_ with e | e
                    · exact HAL.out j h e
                    · obtain rfl : j = at_ := by omega
                      rw [hx]; exact hv)
                  clear hv hx
                  go_upto_region 13 with (fail)
                  refine wp_region_grow (by kernel_rfl) (by kernel_rfl) (by first | (simp only [List.append]; rfl) | rfl) ?_
                  (repeat (go_big_quiet_step ((go_at_call 35; exact growOf (HLI.out _ (by repeat (first | (with_reducible exact Ext.refl _) | (with_reducible refine Ext.undrew ?_) | (with_reducible refine Ext.grow ?_ _) | (with_reducible refine Ext.drew ?_) | (with_reducible refine Ext.drewN ?_ _) | (with_reducible refine Ext.alloc ?_ _) | (with_reducible assumption) | ((with_reducible refine Ext.setCell ?_ ?_ _); rotate_left; (first | exact Nat.le_refl _ | ((try dsimp only); (try simp only [World.size_alloc, grow_size, World.size_setCell]); omega))))))))))
                  refine wpQuiet_nil ?_
                  intro wq hq
                  obtain ⟨dq, rfl⟩ := hq
                  go_wp2
                  go_roundw
                  case rel => exact ⟨at_ + 1, by omega, by go_num, HAL2, hid (HXa.out.trans (by repeat (first | (with_reducible exact Ext.refl _) | (with_reducible refine Ext.undrew ?_) | (with_reducible refine Ext.grow ?_ _) | (with_reducible refine Ext.drew ?_) | (with_reducible refine Ext.drewN ?_ _) | (with_reducible refine Ext.alloc ?_ _) | (with_reducible assumption) | ((with_reducible refine Ext.setCell ?_ ?_ _); rotate_left; (first | exact Nat.le_refl _ | ((try dsimp only); (try simp only [World.size_alloc, grow_size, World.size_setCell]); omega))))))⟩
                  case measure => simp [intOf]; omega
                | false =>
                  rw [hv] at HLI
                  have HIN := hid (show LL.take at_ ++ ((Cap.mk c.tag c.base c.top c.at_ c.perms c.type) :: LL.drop at_) = insS (Cap.mk c.tag c.base c.top c.at_ c.perms c.type) LL from ins_at LL at_ (by omega) HAL.out fun h => by rw [hx]; exact hv)
                  clear hv hx
                  go_upto_region 13 with (fail)
                  refine wp_region_grow (by kernel_rfl) (by kernel_rfl) (by first | (simp only [List.append]; rfl) | rfl) ?_
                  (repeat (go_big_quiet_step ((go_at_call 35; exact growOf (HLI.out _ (by repeat (first | (with_reducible exact Ext.refl _) | (with_reducible refine Ext.undrew ?_) | (with_reducible refine Ext.grow ?_ _) | (with_reducible refine Ext.drew ?_) | (with_reducible refine Ext.drewN ?_ _) | (with_reducible refine Ext.alloc ?_ _) | (with_reducible assumption) | ((with_reducible refine Ext.setCell ?_ ?_ _); rotate_left; (first | exact Nat.le_refl _ | ((try dsimp only); (try simp only [World.size_alloc, grow_size, World.size_setCell]); omega))))))))))
                  refine wpQuiet_nil ?_
                  intro wq hq
                  obtain ⟨dq, rfl⟩ := hq
                  clear q0 q1 q2 q3 q4 q5 p0 p1 p2 p3 p4 p5 p6
                  go_upto_region 15 with (fail)
                  refine wp_gen (fun W => Hid (Ext wr W)) (hid (by repeat (first | (with_reducible exact Ext.refl _) | (with_reducible refine Ext.undrew ?_) | (with_reducible refine Ext.grow ?_ _) | (with_reducible refine Ext.drew ?_) | (with_reducible refine Ext.drewN ?_ _) | (with_reducible refine Ext.alloc ?_ _) | (with_reducible assumption) | ((with_reducible refine Ext.setCell ?_ ?_ _); rotate_left; (first | exact Nat.le_refl _ | ((try dsimp only); (try simp only [World.size_alloc, grow_size, World.size_setCell]); omega)))))) ?_
                  rintro W6 HX6
                  have HX6w := hid (HX5.out.trans (HXa.out.trans HX6.out))
                  have HO6 := hid (HO5.out.ext (HXa.out.trans HX6.out))
                  have HRx := hid (HR5.out.ext (HXa.out.trans HX6.out))
                  have HSH := hid HO5.out.shape
                  clear HX6 HX5 HO5 HR5 HXa HAL
                  have hac : at_ ≤ cv := by obtain ⟨A9, c9, e9, h9, _⟩ := HSH.out; simp only [Value.slice.injEq, true_and] at e9; omega
                  have hlc : ll ≤ cv := by obtain ⟨A9, c9, e9, h9, _⟩ := HSH.out; simp only [Value.slice.injEq, true_and] at e9; omega
                  have hac1 : (at_ : Int) ≤ (cv : Int) := by omega
                  have hal1 : (at_ : Int) ≤ (ll : Int) := by omega
                  have hall : at_ ≤ ll := by omega
                  refine wp_region_step (.rd 1 (.rd 2 (.rd 3 (.rd 5 (.rd 8 (.rd 9 (.rd 10 (.br 0 (.br 4 (.ac 6 (.ac 7 (.ac 11 (.rd 12 .done)))) 6 (.ac 4 (.ac 7 (.ac 11 (.rd 12 .done))))) 6 (.ac 0 (.ac 4 (.ac 7 (.ac 11 (.rd 12 .done))))))))))))) (by kernel_rfl) (by kernel_rfl) (fun _ _ d _ _ h => by cases d <;> exact h) (by simp only [Ord.map, nthOp, List.append]; rfl) ?_
                  intro d0
                  have HX7 := hid (HX6w.out.trans (Ext.grow (Ext.refl W6) d0))
                  have HO7 := hid (HO6.out.ext (Ext.grow (Ext.refl W6) d0))
                  have HR7 := hid (HRx.out.ext (Ext.grow (Ext.refl W6) d0))
                  generalize Go.Proofs.Ytlapemeoffpmgaa.grow W6 d0 = W4 at HX7 HO7 HR7 ⊢
                  clear HX6w HO6 HRx
                  obtain ⟨p0, p1, p2, p3, p4, p5, p6⟩ := Row.six (c := (Cap.mk c.tag c.base c.top c.at_ c.perms c.type)) (HR7.out)
                  simp only [Nat.zero_add] at p2 p3 p4 p5 p6
                  by_cases hca : cv - at_ = 0
                  · refine step_read (by rfl) (fun K hK => ?_)
                    go_big_quiet_op
                    refine hK _ ?_
                    clear hK K
                    refine step_read (by rfl) (fun K hK => ?_)
                    go_big_quiet_op
                    refine hK _ ?_
                    clear hK K
                    refine step_read (by rfl) (fun K hK => ?_)
                    go_big_quiet_op
                    refine hK _ ?_
                    clear hK K
                    refine step_read (by rfl) (fun K hK => ?_)
                    go_big_quiet_op
                    refine hK _ ?_
                    clear hK K
                    refine step_read (by rfl) (fun K hK => ?_)
                    go_big_quiet_op
                    refine hK _ ?_
                    clear hK K
                    refine step_read (by rfl) (fun K hK => ?_)
                    go_big_quiet_op
                    refine hK _ ?_
                    clear hK K
                    refine step_read (by rfl) (fun K hK => ?_)
                    go_big_quiet_op
                    refine hK _ ?_
                    clear hK K
                    refine step_br ?_ ?_
                    · have HE := hid (Ext.refl W4)
                      refine step_act (by rfl) (fun K hK => ?_)
                      refine wp_build0 rfl ?_
                      refine hK _ _ ⟨_, Ext.refl _, HE.out.trans (Ext.alloc (Ext.refl _) _), ?_⟩
                      clear hK K
                      refine step_gen (fun W => Hid (Ext W4 W) ∧ Hid (ownsAt W W4.heap.size 24 6 (.slice (some ⟨W4.heap.size, 0, none⟩) 0 0) 0 [])) ⟨hid (HE.out.trans (Ext.alloc (Ext.refl _) _)), hid ((own0 W4).weak HE.out.size)⟩ ?_
                      rintro U1 ⟨HE2, HV⟩
                      clear HE
                      have HE := HE2
                      clear HE2
                      refine step_br ?_ ?_
                      · refine step_act (by rfl) (fun K hK => ?_)
                        refine wp_app_row cap_len (by decide) cap_one Try.underlying22 info_capN (.tmp 68) (.tmp 71) rfl W4.heap.size _ _ _ rfl HV.out _ _ _ (LL.take at_) rfl (by rw [List.length_take, HLN.out]; omega) (((HO7.out.rdF HLN.out).take cap_len at_).ext HE.out) (by unfold maxLen; omega) (by omega) HE.out.size ?_
                        intro v2 U2 hown hgrow hat
                        obtain ⟨Q2, d2, hv2, _, _⟩ := hown.shape
                        subst hv2
                        have HE2 := hid (Ext.only HE.out (grownOnly (S := fun i => W4.heap.size ≤ i) hgrow fun g e => (HV.out.lt g e).1) fun i hi => hi)
                        refine hK _ _ ⟨_, Ext.refl _, HE2.out, ?_⟩
                        clear hK K hgrow hat HV HE
                        have HV := hid hown
                        have HE := HE2
                        clear hown HE2
                        simp only [Act.put, List.setIfInBounds_toArray, List.set_cons_zero, List.set_cons_succ]
                        refine step_act (by rfl) (fun K hK => ?_)
                        refine wp_build1 22 24 (.tmp 73) rfl #[.bool c.tag, .int .i64 c.base, .int .i64 c.top, .int .i64 c.at_, .int .i64 c.perms, .int .i64 c.type] 6 rfl rfl (by omega) (by omega) Try.underlying22 (by kernel_rfl) (by kernel_rfl) ?_
                        refine hK _ _ ⟨_, Ext.refl _, HE.out.trans (Ext.alloc (Ext.refl _) _), ?_⟩
                        clear hK K
                        refine step_gen (fun W => Hid (Ext W4 W) ∧ Hid (Row W U2.heap.size 0 (Cap.cells (Cap.mk c.tag c.base c.top c.at_ c.perms c.type))) ∧ Hid (ownsAt W W4.heap.size 24 6 (.slice Q2 (0 + at_) d2) (0 + at_) ([] ++ rowF Cap.cells (LL.take at_)))) ⟨hid (HE.out.trans (Ext.alloc (Ext.refl _) _)), hid (Row.new U2 #[.bool c.tag, .int .i64 c.base, .int .i64 c.top, .int .i64 c.at_, .int .i64 c.perms, .int .i64 c.type] 24), hid (HV.out.ext (Ext.alloc (Ext.refl _) _))⟩ ?_
                        rintro U3 ⟨HE2, HB, HV2⟩
                        obtain ⟨b1, hb1⟩ : ∃ x, U2.heap.size = x := ⟨_, rfl⟩
                        rw [hb1] at HB ⊢
                        have HNB := hid (show ∀ g, ((.slice Q2 (0 + at_) d2) : Value).ownBlock = some g → ¬ g = b1 from fun g e e2 => by have h9 := (HV.out.lt g e).2; omega)
                        clear HV
                        have HV := HV2
                        clear HV2
                        clear hb1 HE
                        have HE := HE2
                        clear HE2
                        refine step_act (by rfl) (fun K hK => ?_)
                        refine wp_app_row cap_len (by decide) cap_one Try.underlying22 info_capN (.tmp 72) (.tmp 74) rfl W4.heap.size _ _ _ rfl HV.out _ _ _ [(Cap.mk c.tag c.base c.top c.at_ c.perms c.type)] rfl rfl (rdF_row0 (f := Cap.cells) (z := (Cap.mk c.tag c.base c.top c.at_ c.perms c.type)) HB.out) (by unfold maxLen; omega) (by omega) HE.out.size ?_
                        intro v4 U4 hown hgrow hat
                        obtain ⟨Q4, d4, hv4, _, _⟩ := hown.shape
                        subst hv4
                        have HE2 := hid (Ext.only HE.out (grownOnly (S := fun i => W4.heap.size ≤ i) hgrow fun g e => (HV.out.lt g e).1) fun i hi => hi)
                        have HB2 := hid (HB.out.only (grownOnly (S := fun i => i ≠ b1) hgrow fun g e => HNB.out g e) fun e => e rfl)
                        have HNB2 := hid (show ∀ g, (Value.slice Q4 _ d4).ownBlock = some g → ¬ g = b1 from fun g e e2 => by
                          rcases hat with h' | ⟨g', h', h3⟩
                          · exact HNB.out g (h' ▸ e) e2
                          · rw [h'] at e
                            cases e
                            have h9 := HB.out.lt
                            omega)
                        clear HB HNB
                        have HB := HB2
                        have HNB := HNB2
                        clear HB2 HNB2
                        refine hK _ _ ⟨_, Ext.refl _, HE2.out, ?_⟩
                        clear hK K hgrow hat HV HE
                        have HV := hid hown
                        have HE := HE2
                        clear hown HE2
                        simp only [Act.put, List.setIfInBounds_toArray, List.set_cons_zero, List.set_cons_succ]
                        refine step_act (by rfl) (fun K hK => ?_)
                        refine wp_app_row cap_len (by decide) cap_one Try.underlying22 info_capN (.tmp 75) (.tmp 78) rfl W4.heap.size _ _ _ rfl HV.out _ _ _ (LL.drop at_) rfl (by rw [List.length_drop, HLN.out]) (by rw [List.drop_eq_nil_of_le (by rw [HLN.out]; omega)]; exact RdF.nil _ _) (by unfold maxLen; omega) (by omega) HE.out.size ?_
                        intro v5 U5 hown hgrow hat
                        obtain ⟨Q5, d5, hv5, _, _⟩ := hown.shape
                        subst hv5
                        have HE2 := hid (Ext.only HE.out (grownOnly (S := fun i => W4.heap.size ≤ i) hgrow fun g e => (HV.out.lt g e).1) fun i hi => hi)
                        refine hK _ _ ⟨_, Ext.refl _, HE2.out, ?_⟩
                        clear hK K hgrow hat HV HE
                        have HV := hid hown
                        have HE := HE2
                        clear hown HE2
                        simp only [Act.put, List.setIfInBounds_toArray, List.set_cons_zero, List.set_cons_succ]
                        refine step_read (by rfl) (fun K hK => ?_)
                        go_big_quiet_op
                        refine hK _ ?_
                        clear hK K
                        refine step_nil ?_
                        have HOf : Hid (ownsAt U5 w.heap.size 24 6 (.slice Q5 (0 + at_ + 1 + (ll - at_)) d5) (mxL O (O.take (k + 1))).length (rowF Cap.cells (mxL O (O.take (k + 1))))) := hid (by
                          rw [HT2.out, show (insS (Cap.mk c.tag c.base c.top c.at_ c.perms c.type) LL).length = 0 + at_ + 1 + (ll - at_) by rw [ins_len, HLN.out]; omega, show rowF Cap.cells (insS (Cap.mk c.tag c.base c.top c.at_ c.perms c.type) LL) = (([] ++ rowF Cap.cells (LL.take at_)) ++ rowF Cap.cells [(Cap.mk c.tag c.base c.top c.at_ c.perms c.type)]) ++ rowF Cap.cells (LL.drop at_) by rw [← HIN.out, rowF_append, rowF_cons, rowF_one, List.nil_append, List.append_assoc]]
                          exact HV.out.weak HX7.out.size)
                        have HXf := hid (HX7.out.trans HE.out)
                        go_wp2
                        go_roundw
                        case rel => exact ⟨k + 1, by omega, by go_num, HOf, HXf⟩
                        case measure => simp [intOf]; omega
                      · refine step_act (by rfl) (fun K hK => ?_)
                        refine wp_build1 22 24 (.tmp 73) rfl #[.bool c.tag, .int .i64 c.base, .int .i64 c.top, .int .i64 c.at_, .int .i64 c.perms, .int .i64 c.type] 6 rfl rfl (by omega) (by omega) Try.underlying22 (by kernel_rfl) (by kernel_rfl) ?_
                        refine hK _ _ ⟨_, Ext.refl _, HE.out.trans (Ext.alloc (Ext.refl _) _), ?_⟩
                        clear hK K
                        refine step_gen (fun W => Hid (Ext W4 W) ∧ Hid (Row W U1.heap.size 0 (Cap.cells (Cap.mk c.tag c.base c.top c.at_ c.perms c.type))) ∧ Hid (ownsAt W W4.heap.size 24 6 (.slice (some ⟨W4.heap.size, 0, none⟩) 0 0) 0 [])) ⟨hid (HE.out.trans (Ext.alloc (Ext.refl _) _)), hid (Row.new U1 #[.bool c.tag, .int .i64 c.base, .int .i64 c.top, .int .i64 c.at_, .int .i64 c.perms, .int .i64 c.type] 24), hid (HV.out.ext (Ext.alloc (Ext.refl _) _))⟩ ?_
                        rintro U2 ⟨HE2, HB, HV2⟩
                        obtain ⟨b1, hb1⟩ : ∃ x, U1.heap.size = x := ⟨_, rfl⟩
                        rw [hb1] at HB ⊢
                        have HNB := hid (show ∀ g, ((.slice (some ⟨W4.heap.size, 0, none⟩) 0 0) : Value).ownBlock = some g → ¬ g = b1 from fun g e e2 => by have h9 := (HV.out.lt g e).2; omega)
                        clear HV
                        have HV := HV2
                        clear HV2
                        clear hb1 HE
                        have HE := HE2
                        clear HE2
                        refine step_act (by rfl) (fun K hK => ?_)
                        refine wp_app_row cap_len (by decide) cap_one Try.underlying22 info_capN (.tmp 68) (.tmp 71) rfl W4.heap.size _ _ _ rfl HV.out _ _ _ (LL.take at_) rfl (by rw [List.length_take, HLN.out]; omega) (((HO7.out.rdF HLN.out).take cap_len at_).ext HE.out) (by unfold maxLen; omega) (by omega) HE.out.size ?_
                        intro v3 U3 hown hgrow hat
                        obtain ⟨Q3, d3, hv3, _, _⟩ := hown.shape
                        subst hv3
                        have HE2 := hid (Ext.only HE.out (grownOnly (S := fun i => W4.heap.size ≤ i) hgrow fun g e => (HV.out.lt g e).1) fun i hi => hi)
                        have HB2 := hid (HB.out.only (grownOnly (S := fun i => i ≠ b1) hgrow fun g e => HNB.out g e) fun e => e rfl)
                        have HNB2 := hid (show ∀ g, (Value.slice Q3 _ d3).ownBlock = some g → ¬ g = b1 from fun g e e2 => by
                          rcases hat with h' | ⟨g', h', h3⟩
                          · exact HNB.out g (h' ▸ e) e2
                          · rw [h'] at e
                            cases e
                            have h9 := HB.out.lt
                            omega)
                        clear HB HNB
                        have HB := HB2
                        have HNB := HNB2
                        clear HB2 HNB2
                        refine hK _ _ ⟨_, Ext.refl _, HE2.out, ?_⟩
                        clear hK K hgrow hat HV HE
                        have HV := hid hown
                        have HE := HE2
                        clear hown HE2
                        simp only [Act.put, List.setIfInBounds_toArray, List.set_cons_zero, List.set_cons_succ]
                        refine step_act (by rfl) (fun K hK => ?_)
                        refine wp_app_row cap_len (by decide) cap_one Try.underlying22 info_capN (.tmp 72) (.tmp 74) rfl W4.heap.size _ _ _ rfl HV.out _ _ _ [(Cap.mk c.tag c.base c.top c.at_ c.perms c.type)] rfl rfl (rdF_row0 (f := Cap.cells) (z := (Cap.mk c.tag c.base c.top c.at_ c.perms c.type)) HB.out) (by unfold maxLen; omega) (by omega) HE.out.size ?_
                        intro v4 U4 hown hgrow hat
                        obtain ⟨Q4, d4, hv4, _, _⟩ := hown.shape
                        subst hv4
                        have HE2 := hid (Ext.only HE.out (grownOnly (S := fun i => W4.heap.size ≤ i) hgrow fun g e => (HV.out.lt g e).1) fun i hi => hi)
                        have HB2 := hid (HB.out.only (grownOnly (S := fun i => i ≠ b1) hgrow fun g e => HNB.out g e) fun e => e rfl)
                        have HNB2 := hid (show ∀ g, (Value.slice Q4 _ d4).ownBlock = some g → ¬ g = b1 from fun g e e2 => by
                          rcases hat with h' | ⟨g', h', h3⟩
                          · exact HNB.out g (h' ▸ e) e2
                          · rw [h'] at e
                            cases e
                            have h9 := HB.out.lt
                            omega)
                        clear HB HNB
                        have HB := HB2
                        have HNB := HNB2
                        clear HB2 HNB2
                        refine hK _ _ ⟨_, Ext.refl _, HE2.out, ?_⟩
                        clear hK K hgrow hat HV HE
                        have HV := hid hown
                        have HE := HE2
                        clear hown HE2
                        simp only [Act.put, List.setIfInBounds_toArray, List.set_cons_zero, List.set_cons_succ]
                        refine step_act (by rfl) (fun K hK => ?_)
                        refine wp_app_row cap_len (by decide) cap_one Try.underlying22 info_capN (.tmp 75) (.tmp 78) rfl W4.heap.size _ _ _ rfl HV.out _ _ _ (LL.drop at_) rfl (by rw [List.length_drop, HLN.out]) (by rw [List.drop_eq_nil_of_le (by rw [HLN.out]; omega)]; exact RdF.nil _ _) (by unfold maxLen; omega) (by omega) HE.out.size ?_
                        intro v5 U5 hown hgrow hat
                        obtain ⟨Q5, d5, hv5, _, _⟩ := hown.shape
                        subst hv5
                        have HE2 := hid (Ext.only HE.out (grownOnly (S := fun i => W4.heap.size ≤ i) hgrow fun g e => (HV.out.lt g e).1) fun i hi => hi)
                        refine hK _ _ ⟨_, Ext.refl _, HE2.out, ?_⟩
                        clear hK K hgrow hat HV HE
                        have HV := hid hown
                        have HE := HE2
                        clear hown HE2
                        simp only [Act.put, List.setIfInBounds_toArray, List.set_cons_zero, List.set_cons_succ]
                        refine step_read (by rfl) (fun K hK => ?_)
                        go_big_quiet_op
                        refine hK _ ?_
                        clear hK K
                        refine step_nil ?_
                        have HOf : Hid (ownsAt U5 w.heap.size 24 6 (.slice Q5 (0 + at_ + 1 + (ll - at_)) d5) (mxL O (O.take (k + 1))).length (rowF Cap.cells (mxL O (O.take (k + 1))))) := hid (by
                          rw [HT2.out, show (insS (Cap.mk c.tag c.base c.top c.at_ c.perms c.type) LL).length = 0 + at_ + 1 + (ll - at_) by rw [ins_len, HLN.out]; omega, show rowF Cap.cells (insS (Cap.mk c.tag c.base c.top c.at_ c.perms c.type) LL) = (([] ++ rowF Cap.cells (LL.take at_)) ++ rowF Cap.cells [(Cap.mk c.tag c.base c.top c.at_ c.perms c.type)]) ++ rowF Cap.cells (LL.drop at_) by rw [← HIN.out, rowF_append, rowF_cons, rowF_one, List.nil_append, List.append_assoc]]
                          exact HV.out.weak HX7.out.size)
                        have HXf := hid (HX7.out.trans HE.out)
                        go_wp2
                        go_roundw
                        case rel => exact ⟨k + 1, by omega, by go_num, HOf, HXf⟩
                        case measure => simp [intOf]; omega
                    · have HE := hid (Ext.refl W4)
                      refine step_act (by rfl) (fun K hK => ?_)
                      refine wp_build1 22 24 (.tmp 73) rfl #[.bool c.tag, .int .i64 c.base, .int .i64 c.top, .int .i64 c.at_, .int .i64 c.perms, .int .i64 c.type] 6 rfl rfl (by omega) (by omega) Try.underlying22 (by kernel_rfl) (by kernel_rfl) ?_
                      refine hK _ _ ⟨_, Ext.refl _, HE.out.trans (Ext.alloc (Ext.refl _) _), ?_⟩
                      clear hK K
                      refine step_gen (fun W => Hid (Ext W4 W) ∧ Hid (Row W W4.heap.size 0 (Cap.cells (Cap.mk c.tag c.base c.top c.at_ c.perms c.type)))) ⟨hid (HE.out.trans (Ext.alloc (Ext.refl _) _)), hid (Row.new W4 #[.bool c.tag, .int .i64 c.base, .int .i64 c.top, .int .i64 c.at_, .int .i64 c.perms, .int .i64 c.type] 24)⟩ ?_
                      rintro U1 ⟨HE2, HB⟩
                      obtain ⟨b1, hb1⟩ : ∃ x, W4.heap.size = x := ⟨_, rfl⟩
                      rw [hb1] at HB ⊢
                      clear hb1 HE
                      have HE := HE2
                      clear HE2
                      refine step_act (by rfl) (fun K hK => ?_)
                      refine wp_build0 rfl ?_
                      refine hK _ _ ⟨_, Ext.refl _, HE.out.trans (Ext.alloc (Ext.refl _) _), ?_⟩
                      clear hK K
                      refine step_gen (fun W => Hid (Ext W4 W) ∧ Hid (ownsAt W W4.heap.size 24 6 (.slice (some ⟨U1.heap.size, 0, none⟩) 0 0) 0 []) ∧ Hid (Row W b1 0 (Cap.cells (Cap.mk c.tag c.base c.top c.at_ c.perms c.type)))) ⟨hid (HE.out.trans (Ext.alloc (Ext.refl _) _)), hid ((own0 U1).weak HE.out.size), hid (HB.out.ext (Ext.alloc (Ext.refl _) _))⟩ ?_
                      rintro U2 ⟨HE2, HV, HB2⟩
                      have HNB := hid (show ∀ g, (Value.slice (some ⟨U1.heap.size, 0, none⟩) 0 0).ownBlock = some g → ¬ g = b1 from fun g e e2 => by (have h9 := HB.out.lt; simp only [Value.ownBlock, Option.some.injEq] at e; omega))
                      clear HB
                      have HB := HB2
                      clear HB2
                      clear HE
                      have HE := HE2
                      clear HE2
                      refine step_act (by rfl) (fun K hK => ?_)
                      refine wp_app_row cap_len (by decide) cap_one Try.underlying22 info_capN (.tmp 68) (.tmp 71) rfl W4.heap.size _ _ _ rfl HV.out _ _ _ (LL.take at_) rfl (by rw [List.length_take, HLN.out]; omega) (((HO7.out.rdF HLN.out).take cap_len at_).ext HE.out) (by unfold maxLen; omega) (by omega) HE.out.size ?_
                      intro v3 U3 hown hgrow hat
                      obtain ⟨Q3, d3, hv3, _, _⟩ := hown.shape
                      subst hv3
                      have HE2 := hid (Ext.only HE.out (grownOnly (S := fun i => W4.heap.size ≤ i) hgrow fun g e => (HV.out.lt g e).1) fun i hi => hi)
                      have HB2 := hid (HB.out.only (grownOnly (S := fun i => i ≠ b1) hgrow fun g e => HNB.out g e) fun e => e rfl)
                      have HNB2 := hid (show ∀ g, (Value.slice Q3 _ d3).ownBlock = some g → ¬ g = b1 from fun g e e2 => by
                        rcases hat with h' | ⟨g', h', h3⟩
                        · exact HNB.out g (h' ▸ e) e2
                        · rw [h'] at e
                          cases e
                          have h9 := HB.out.lt
                          omega)
                      clear HB HNB
                      have HB := HB2
                      have HNB := HNB2
                      clear HB2 HNB2
                      refine hK _ _ ⟨_, Ext.refl _, HE2.out, ?_⟩
                      clear hK K hgrow hat HV HE
                      have HV := hid hown
                      have HE := HE2
                      clear hown HE2
                      simp only [Act.put, List.setIfInBounds_toArray, List.set_cons_zero, List.set_cons_succ]
                      refine step_act (by rfl) (fun K hK => ?_)
                      refine wp_app_row cap_len (by decide) cap_one Try.underlying22 info_capN (.tmp 72) (.tmp 74) rfl W4.heap.size _ _ _ rfl HV.out _ _ _ [(Cap.mk c.tag c.base c.top c.at_ c.perms c.type)] rfl rfl (rdF_row0 (f := Cap.cells) (z := (Cap.mk c.tag c.base c.top c.at_ c.perms c.type)) HB.out) (by unfold maxLen; omega) (by omega) HE.out.size ?_
                      intro v4 U4 hown hgrow hat
                      obtain ⟨Q4, d4, hv4, _, _⟩ := hown.shape
                      subst hv4
                      have HE2 := hid (Ext.only HE.out (grownOnly (S := fun i => W4.heap.size ≤ i) hgrow fun g e => (HV.out.lt g e).1) fun i hi => hi)
                      have HB2 := hid (HB.out.only (grownOnly (S := fun i => i ≠ b1) hgrow fun g e => HNB.out g e) fun e => e rfl)
                      have HNB2 := hid (show ∀ g, (Value.slice Q4 _ d4).ownBlock = some g → ¬ g = b1 from fun g e e2 => by
                        rcases hat with h' | ⟨g', h', h3⟩
                        · exact HNB.out g (h' ▸ e) e2
                        · rw [h'] at e
                          cases e
                          have h9 := HB.out.lt
                          omega)
                      clear HB HNB
                      have HB := HB2
                      have HNB := HNB2
                      clear HB2 HNB2
                      refine hK _ _ ⟨_, Ext.refl _, HE2.out, ?_⟩
                      clear hK K hgrow hat HV HE
                      have HV := hid hown
                      have HE := HE2
                      clear hown HE2
                      simp only [Act.put, List.setIfInBounds_toArray, List.set_cons_zero, List.set_cons_succ]
                      refine step_act (by rfl) (fun K hK => ?_)
                      refine wp_app_row cap_len (by decide) cap_one Try.underlying22 info_capN (.tmp 75) (.tmp 78) rfl W4.heap.size _ _ _ rfl HV.out _ _ _ (LL.drop at_) rfl (by rw [List.length_drop, HLN.out]) (by rw [List.drop_eq_nil_of_le (by rw [HLN.out]; omega)]; exact RdF.nil _ _) (by unfold maxLen; omega) (by omega) HE.out.size ?_
                      intro v5 U5 hown hgrow hat
                      obtain ⟨Q5, d5, hv5, _, _⟩ := hown.shape
                      subst hv5
                      have HE2 := hid (Ext.only HE.out (grownOnly (S := fun i => W4.heap.size ≤ i) hgrow fun g e => (HV.out.lt g e).1) fun i hi => hi)
                      refine hK _ _ ⟨_, Ext.refl _, HE2.out, ?_⟩
                      clear hK K hgrow hat HV HE
                      have HV := hid hown
                      have HE := HE2
                      clear hown HE2
                      simp only [Act.put, List.setIfInBounds_toArray, List.set_cons_zero, List.set_cons_succ]
                      refine step_read (by rfl) (fun K hK => ?_)
                      go_big_quiet_op
                      refine hK _ ?_
                      clear hK K
                      refine step_nil ?_
                      have HOf : Hid (ownsAt U5 w.heap.size 24 6 (.slice Q5 (0 + at_ + 1 + (ll - at_)) d5) (mxL O (O.take (k + 1))).length (rowF Cap.cells (mxL O (O.take (k + 1))))) := hid (by
                        rw [HT2.out, show (insS (Cap.mk c.tag c.base c.top c.at_ c.perms c.type) LL).length = 0 + at_ + 1 + (ll - at_) by rw [ins_len, HLN.out]; omega, show rowF Cap.cells (insS (Cap.mk c.tag c.base c.top c.at_ c.perms c.type) LL) = (([] ++ rowF Cap.cells (LL.take at_)) ++ rowF Cap.cells [(Cap.mk c.tag c.base c.top c.at_ c.perms c.type)]) ++ rowF Cap.cells (LL.drop at_) by rw [← HIN.out, rowF_append, rowF_cons, rowF_one, List.nil_append, List.append_assoc]]
                        exact HV.out.weak HX7.out.size)
                      have HXf := hid (HX7.out.trans HE.out)
                      go_wp2
                      go_roundw
                      case rel => exact ⟨k + 1, by omega, by go_num, HOf, HXf⟩
                      case measure => simp [intOf]; omega
                  · refine step_read (by rfl) (fun K hK => ?_)
                    go_big_quiet_op
                    refine hK _ ?_
                    clear hK K
                    refine step_read (by rfl) (fun K hK => ?_)
                    go_big_quiet_op
                    refine hK _ ?_
                    clear hK K
                    refine step_read (by rfl) (fun K hK => ?_)
                    go_big_quiet_op
                    refine hK _ ?_
                    clear hK K
                    refine step_read (by rfl) (fun K hK => ?_)
                    go_big_quiet_op
                    refine hK _ ?_
                    clear hK K
                    refine step_read (by rfl) (fun K hK => ?_)
                    go_big_quiet_op
                    refine hK _ ?_
                    clear hK K
                    refine step_read (by rfl) (fun K hK => ?_)
                    go_big_quiet_op
                    refine hK _ ?_
                    clear hK K
                    refine step_read (by rfl) (fun K hK => ?_)
                    go_big_quiet_op
                    refine hK _ ?_
                    clear hK K
                    refine step_br ?_ ?_
                    · have HE := hid (Ext.refl W4)
                      refine step_act (by rfl) (fun K hK => ?_)
                      refine wp_build0 rfl ?_
                      refine hK _ _ ⟨_, Ext.refl _, HE.out.trans (Ext.alloc (Ext.refl _) _), ?_⟩
                      clear hK K
                      refine step_gen (fun W => Hid (Ext W4 W) ∧ Hid (ownsAt W W4.heap.size 24 6 (.slice (some ⟨W4.heap.size, 0, none⟩) 0 0) 0 [])) ⟨hid (HE.out.trans (Ext.alloc (Ext.refl _) _)), hid ((own0 W4).weak HE.out.size)⟩ ?_
                      rintro U1 ⟨HE2, HV⟩
                      clear HE
                      have HE := HE2
                      clear HE2
                      refine step_br ?_ ?_
                      · refine step_act (by rfl) (fun K hK => ?_)
                        refine wp_app_row cap_len (by decide) cap_one Try.underlying22 info_capN (.tmp 68) (.tmp 71) rfl W4.heap.size _ _ _ rfl HV.out _ _ _ (LL.take at_) rfl (by rw [List.length_take, HLN.out]; omega) (((HO7.out.rdF HLN.out).take cap_len at_).ext HE.out) (by unfold maxLen; omega) (by omega) HE.out.size ?_
                        intro v2 U2 hown hgrow hat
                        obtain ⟨Q2, d2, hv2, _, _⟩ := hown.shape
                        subst hv2
                        have HE2 := hid (Ext.only HE.out (grownOnly (S := fun i => W4.heap.size ≤ i) hgrow fun g e => (HV.out.lt g e).1) fun i hi => hi)
                        refine hK _ _ ⟨_, Ext.refl _, HE2.out, ?_⟩
                        clear hK K hgrow hat HV HE
                        have HV := hid hown
                        have HE := HE2
                        clear hown HE2
                        simp only [Act.put, List.setIfInBounds_toArray, List.set_cons_zero, List.set_cons_succ]
                        refine step_act (by rfl) (fun K hK => ?_)
                        refine wp_build1 22 24 (.tmp 73) rfl #[.bool c.tag, .int .i64 c.base, .int .i64 c.top, .int .i64 c.at_, .int .i64 c.perms, .int .i64 c.type] 6 rfl rfl (by omega) (by omega) Try.underlying22 (by kernel_rfl) (by kernel_rfl) ?_
                        refine hK _ _ ⟨_, Ext.refl _, HE.out.trans (Ext.alloc (Ext.refl _) _), ?_⟩
                        clear hK K
                        refine step_gen (fun W => Hid (Ext W4 W) ∧ Hid (Row W U2.heap.size 0 (Cap.cells (Cap.mk c.tag c.base c.top c.at_ c.perms c.type))) ∧ Hid (ownsAt W W4.heap.size 24 6 (.slice Q2 (0 + at_) d2) (0 + at_) ([] ++ rowF Cap.cells (LL.take at_)))) ⟨hid (HE.out.trans (Ext.alloc (Ext.refl _) _)), hid (Row.new U2 #[.bool c.tag, .int .i64 c.base, .int .i64 c.top, .int .i64 c.at_, .int .i64 c.perms, .int .i64 c.type] 24), hid (HV.out.ext (Ext.alloc (Ext.refl _) _))⟩ ?_
                        rintro U3 ⟨HE2, HB, HV2⟩
                        obtain ⟨b1, hb1⟩ : ∃ x, U2.heap.size = x := ⟨_, rfl⟩
                        rw [hb1] at HB ⊢
                        have HNB := hid (show ∀ g, ((.slice Q2 (0 + at_) d2) : Value).ownBlock = some g → ¬ g = b1 from fun g e e2 => by have h9 := (HV.out.lt g e).2; omega)
                        clear HV
                        have HV := HV2
                        clear HV2
                        clear hb1 HE
                        have HE := HE2
                        clear HE2
                        refine step_act (by rfl) (fun K hK => ?_)
                        refine wp_app_row cap_len (by decide) cap_one Try.underlying22 info_capN (.tmp 72) (.tmp 74) rfl W4.heap.size _ _ _ rfl HV.out _ _ _ [(Cap.mk c.tag c.base c.top c.at_ c.perms c.type)] rfl rfl (rdF_row0 (f := Cap.cells) (z := (Cap.mk c.tag c.base c.top c.at_ c.perms c.type)) HB.out) (by unfold maxLen; omega) (by omega) HE.out.size ?_
                        intro v4 U4 hown hgrow hat
                        obtain ⟨Q4, d4, hv4, _, _⟩ := hown.shape
                        subst hv4
                        have HE2 := hid (Ext.only HE.out (grownOnly (S := fun i => W4.heap.size ≤ i) hgrow fun g e => (HV.out.lt g e).1) fun i hi => hi)
                        have HB2 := hid (HB.out.only (grownOnly (S := fun i => i ≠ b1) hgrow fun g e => HNB.out g e) fun e => e rfl)
                        have HNB2 := hid (show ∀ g, (Value.slice Q4 _ d4).ownBlock = some g → ¬ g = b1 from fun g e e2 => by
                          rcases hat with h' | ⟨g', h', h3⟩
                          · exact HNB.out g (h' ▸ e) e2
                          · rw [h'] at e
                            cases e
                            have h9 := HB.out.lt
                            omega)
                        clear HB HNB
                        have HB := HB2
                        have HNB := HNB2
                        clear HB2 HNB2
                        refine hK _ _ ⟨_, Ext.refl _, HE2.out, ?_⟩
                        clear hK K hgrow hat HV HE
                        have HV := hid hown
                        have HE := HE2
                        clear hown HE2
                        simp only [Act.put, List.setIfInBounds_toArray, List.set_cons_zero, List.set_cons_succ]
                        refine step_act (by rfl) (fun K hK => ?_)
                        refine wp_app_row cap_len (by decide) cap_one Try.underlying22 info_capN (.tmp 75) (.tmp 78) rfl W4.heap.size _ _ _ rfl HV.out _ _ _ (LL.drop at_) rfl (by rw [List.length_drop, HLN.out]) (((HO7.out.rdF HLN.out).drop cap_len at_).ext HE.out) (by unfold maxLen; omega) (by omega) HE.out.size ?_
                        intro v5 U5 hown hgrow hat
                        obtain ⟨Q5, d5, hv5, _, _⟩ := hown.shape
                        subst hv5
                        have HE2 := hid (Ext.only HE.out (grownOnly (S := fun i => W4.heap.size ≤ i) hgrow fun g e => (HV.out.lt g e).1) fun i hi => hi)
                        refine hK _ _ ⟨_, Ext.refl _, HE2.out, ?_⟩
                        clear hK K hgrow hat HV HE
                        have HV := hid hown
                        have HE := HE2
                        clear hown HE2
                        simp only [Act.put, List.setIfInBounds_toArray, List.set_cons_zero, List.set_cons_succ]
                        refine step_read (by rfl) (fun K hK => ?_)
                        go_big_quiet_op
                        refine hK _ ?_
                        clear hK K
                        refine step_nil ?_
                        have HOf : Hid (ownsAt U5 w.heap.size 24 6 (.slice Q5 (0 + at_ + 1 + (ll - at_)) d5) (mxL O (O.take (k + 1))).length (rowF Cap.cells (mxL O (O.take (k + 1))))) := hid (by
                          rw [HT2.out, show (insS (Cap.mk c.tag c.base c.top c.at_ c.perms c.type) LL).length = 0 + at_ + 1 + (ll - at_) by rw [ins_len, HLN.out]; omega, show rowF Cap.cells (insS (Cap.mk c.tag c.base c.top c.at_ c.perms c.type) LL) = (([] ++ rowF Cap.cells (LL.take at_)) ++ rowF Cap.cells [(Cap.mk c.tag c.base c.top c.at_ c.perms c.type)]) ++ rowF Cap.cells (LL.drop at_) by rw [← HIN.out, rowF_append, rowF_cons, rowF_one, List.nil_append, List.append_assoc]]
                          exact HV.out.weak HX7.out.size)
                        have HXf := hid (HX7.out.trans HE.out)
                        go_wp2
                        go_roundw
                        case rel => exact ⟨k + 1, by omega, by go_num, HOf, HXf⟩
                        case measure => simp [intOf]; omega
                      · refine step_act (by rfl) (fun K hK => ?_)
                        refine wp_build1 22 24 (.tmp 73) rfl #[.bool c.tag, .int .i64 c.base, .int .i64 c.top, .int .i64 c.at_, .int .i64 c.perms, .int .i64 c.type] 6 rfl rfl (by omega) (by omega) Try.underlying22 (by kernel_rfl) (by kernel_rfl) ?_
                        refine hK _ _ ⟨_, Ext.refl _, HE.out.trans (Ext.alloc (Ext.refl _) _), ?_⟩
                        clear hK K
                        refine step_gen (fun W => Hid (Ext W4 W) ∧ Hid (Row W U1.heap.size 0 (Cap.cells (Cap.mk c.tag c.base c.top c.at_ c.perms c.type))) ∧ Hid (ownsAt W W4.heap.size 24 6 (.slice (some ⟨W4.heap.size, 0, none⟩) 0 0) 0 [])) ⟨hid (HE.out.trans (Ext.alloc (Ext.refl _) _)), hid (Row.new U1 #[.bool c.tag, .int .i64 c.base, .int .i64 c.top, .int .i64 c.at_, .int .i64 c.perms, .int .i64 c.type] 24), hid (HV.out.ext (Ext.alloc (Ext.refl _) _))⟩ ?_
                        rintro U2 ⟨HE2, HB, HV2⟩
                        obtain ⟨b1, hb1⟩ : ∃ x, U1.heap.size = x := ⟨_, rfl⟩
                        rw [hb1] at HB ⊢
                        have HNB := hid (show ∀ g, ((.slice (some ⟨W4.heap.size, 0, none⟩) 0 0) : Value).ownBlock = some g → ¬ g = b1 from fun g e e2 => by have h9 := (HV.out.lt g e).2; omega)
                        clear HV
                        have HV := HV2
                        clear HV2
                        clear hb1 HE
                        have HE := HE2
                        clear HE2
                        refine step_act (by rfl) (fun K hK => ?_)
                        refine wp_app_row cap_len (by decide) cap_one Try.underlying22 info_capN (.tmp 68) (.tmp 71) rfl W4.heap.size _ _ _ rfl HV.out _ _ _ (LL.take at_) rfl (by rw [List.length_take, HLN.out]; omega) (((HO7.out.rdF HLN.out).take cap_len at_).ext HE.out) (by unfold maxLen; omega) (by omega) HE.out.size ?_
                        intro v3 U3 hown hgrow hat
                        obtain ⟨Q3, d3, hv3, _, _⟩ := hown.shape
                        subst hv3
                        have HE2 := hid (Ext.only HE.out (grownOnly (S := fun i => W4.heap.size ≤ i) hgrow fun g e => (HV.out.lt g e).1) fun i hi => hi)
                        have HB2 := hid (HB.out.only (grownOnly (S := fun i => i ≠ b1) hgrow fun g e => HNB.out g e) fun e => e rfl)
                        have HNB2 := hid (show ∀ g, (Value.slice Q3 _ d3).ownBlock = some g → ¬ g = b1 from fun g e e2 => by
                          rcases hat with h' | ⟨g', h', h3⟩
                          · exact HNB.out g (h' ▸ e) e2
                          · rw [h'] at e
                            cases e
                            have h9 := HB.out.lt
                            omega)
                        clear HB HNB
                        have HB := HB2
                        have HNB := HNB2
                        clear HB2 HNB2
                        refine hK _ _ ⟨_, Ext.refl _, HE2.out, ?_⟩
                        clear hK K hgrow hat HV HE
                        have HV := hid hown
                        have HE := HE2
                        clear hown HE2
                        simp only [Act.put, List.setIfInBounds_toArray, List.set_cons_zero, List.set_cons_succ]
                        refine step_act (by rfl) (fun K hK => ?_)
                        refine wp_app_row cap_len (by decide) cap_one Try.underlying22 info_capN (.tmp 72) (.tmp 74) rfl W4.heap.size _ _ _ rfl HV.out _ _ _ [(Cap.mk c.tag c.base c.top c.at_ c.perms c.type)] rfl rfl (rdF_row0 (f := Cap.cells) (z := (Cap.mk c.tag c.base c.top c.at_ c.perms c.type)) HB.out) (by unfold maxLen; omega) (by omega) HE.out.size ?_
                        intro v4 U4 hown hgrow hat
                        obtain ⟨Q4, d4, hv4, _, _⟩ := hown.shape
                        subst hv4
                        have HE2 := hid (Ext.only HE.out (grownOnly (S := fun i => W4.heap.size ≤ i) hgrow fun g e => (HV.out.lt g e).1) fun i hi => hi)
                        have HB2 := hid (HB.out.only (grownOnly (S := fun i => i ≠ b1) hgrow fun g e => HNB.out g e) fun e => e rfl)
                        have HNB2 := hid (show ∀ g, (Value.slice Q4 _ d4).ownBlock = some g → ¬ g = b1 from fun g e e2 => by
                          rcases hat with h' | ⟨g', h', h3⟩
                          · exact HNB.out g (h' ▸ e) e2
                          · rw [h'] at e
                            cases e
                            have h9 := HB.out.lt
                            omega)
                        clear HB HNB
                        have HB := HB2
                        have HNB := HNB2
                        clear HB2 HNB2
                        refine hK _ _ ⟨_, Ext.refl _, HE2.out, ?_⟩
                        clear hK K hgrow hat HV HE
                        have HV := hid hown
                        have HE := HE2
                        clear hown HE2
                        simp only [Act.put, List.setIfInBounds_toArray, List.set_cons_zero, List.set_cons_succ]
                        refine step_act (by rfl) (fun K hK => ?_)
                        refine wp_app_row cap_len (by decide) cap_one Try.underlying22 info_capN (.tmp 75) (.tmp 78) rfl W4.heap.size _ _ _ rfl HV.out _ _ _ (LL.drop at_) rfl (by rw [List.length_drop, HLN.out]) (((HO7.out.rdF HLN.out).drop cap_len at_).ext HE.out) (by unfold maxLen; omega) (by omega) HE.out.size ?_
                        intro v5 U5 hown hgrow hat
                        obtain ⟨Q5, d5, hv5, _, _⟩ := hown.shape
                        subst hv5
                        have HE2 := hid (Ext.only HE.out (grownOnly (S := fun i => W4.heap.size ≤ i) hgrow fun g e => (HV.out.lt g e).1) fun i hi => hi)
                        refine hK _ _ ⟨_, Ext.refl _, HE2.out, ?_⟩
                        clear hK K hgrow hat HV HE
                        have HV := hid hown
                        have HE := HE2
                        clear hown HE2
                        simp only [Act.put, List.setIfInBounds_toArray, List.set_cons_zero, List.set_cons_succ]
                        refine step_read (by rfl) (fun K hK => ?_)
                        go_big_quiet_op
                        refine hK _ ?_
                        clear hK K
                        refine step_nil ?_
                        have HOf : Hid (ownsAt U5 w.heap.size 24 6 (.slice Q5 (0 + at_ + 1 + (ll - at_)) d5) (mxL O (O.take (k + 1))).length (rowF Cap.cells (mxL O (O.take (k + 1))))) := hid (by
                          rw [HT2.out, show (insS (Cap.mk c.tag c.base c.top c.at_ c.perms c.type) LL).length = 0 + at_ + 1 + (ll - at_) by rw [ins_len, HLN.out]; omega, show rowF Cap.cells (insS (Cap.mk c.tag c.base c.top c.at_ c.perms c.type) LL) = (([] ++ rowF Cap.cells (LL.take at_)) ++ rowF Cap.cells [(Cap.mk c.tag c.base c.top c.at_ c.perms c.type)]) ++ rowF Cap.cells (LL.drop at_) by rw [← HIN.out, rowF_append, rowF_cons, rowF_one, List.nil_append, List.append_assoc]]
                          exact HV.out.weak HX7.out.size)
                        have HXf := hid (HX7.out.trans HE.out)
                        go_wp2
                        go_roundw
                        case rel => exact ⟨k + 1, by omega, by go_num, HOf, HXf⟩
                        case measure => simp [intOf]; omega
                    · have HE := hid (Ext.refl W4)
                      refine step_act (by rfl) (fun K hK => ?_)
                      refine wp_build1 22 24 (.tmp 73) rfl #[.bool c.tag, .int .i64 c.base, .int .i64 c.top, .int .i64 c.at_, .int .i64 c.perms, .int .i64 c.type] 6 rfl rfl (by omega) (by omega) Try.underlying22 (by kernel_rfl) (by kernel_rfl) ?_
                      refine hK _ _ ⟨_, Ext.refl _, HE.out.trans (Ext.alloc (Ext.refl _) _), ?_⟩
                      clear hK K
                      refine step_gen (fun W => Hid (Ext W4 W) ∧ Hid (Row W W4.heap.size 0 (Cap.cells (Cap.mk c.tag c.base c.top c.at_ c.perms c.type)))) ⟨hid (HE.out.trans (Ext.alloc (Ext.refl _) _)), hid (Row.new W4 #[.bool c.tag, .int .i64 c.base, .int .i64 c.top, .int .i64 c.at_, .int .i64 c.perms, .int .i64 c.type] 24)⟩ ?_
                      rintro U1 ⟨HE2, HB⟩
                      obtain ⟨b1, hb1⟩ : ∃ x, W4.heap.size = x := ⟨_, rfl⟩
                      rw [hb1] at HB ⊢
                      clear hb1 HE
                      have HE := HE2
                      clear HE2
                      refine step_act (by rfl) (fun K hK => ?_)
                      refine wp_build0 rfl ?_
                      refine hK _ _ ⟨_, Ext.refl _, HE.out.trans (Ext.alloc (Ext.refl _) _), ?_⟩
                      clear hK K
                      refine step_gen (fun W => Hid (Ext W4 W) ∧ Hid (ownsAt W W4.heap.size 24 6 (.slice (some ⟨U1.heap.size, 0, none⟩) 0 0) 0 []) ∧ Hid (Row W b1 0 (Cap.cells (Cap.mk c.tag c.base c.top c.at_ c.perms c.type)))) ⟨hid (HE.out.trans (Ext.alloc (Ext.refl _) _)), hid ((own0 U1).weak HE.out.size), hid (HB.out.ext (Ext.alloc (Ext.refl _) _))⟩ ?_
                      rintro U2 ⟨HE2, HV, HB2⟩
                      have HNB := hid (show ∀ g, (Value.slice (some ⟨U1.heap.size, 0, none⟩) 0 0).ownBlock = some g → ¬ g = b1 from fun g e e2 => by (have h9 := HB.out.lt; simp only [Value.ownBlock, Option.some.injEq] at e; omega))
                      clear HB
                      have HB := HB2
                      clear HB2
                      clear HE
                      have HE := HE2
                      clear HE2
                      refine step_act (by rfl) (fun K hK => ?_)
                      refine wp_app_row cap_len (by decide) cap_one Try.underlying22 info_capN (.tmp 68) (.tmp 71) rfl W4.heap.size _ _ _ rfl HV.out _ _ _ (LL.take at_) rfl (by rw [List.length_take, HLN.out]; omega) (((HO7.out.rdF HLN.out).take cap_len at_).ext HE.out) (by unfold maxLen; omega) (by omega) HE.out.size ?_
                      intro v3 U3 hown hgrow hat
                      obtain ⟨Q3, d3, hv3, _, _⟩ := hown.shape
                      subst hv3
                      have HE2 := hid (Ext.only HE.out (grownOnly (S := fun i => W4.heap.size ≤ i) hgrow fun g e => (HV.out.lt g e).1) fun i hi => hi)
                      have HB2 := hid (HB.out.only (grownOnly (S := fun i => i ≠ b1) hgrow fun g e => HNB.out g e) fun e => e rfl)
                      have HNB2 := hid (show ∀ g, (Value.slice Q3 _ d3).ownBlock = some g → ¬ g = b1 from fun g e e2 => by
                        rcases hat with h' | ⟨g', h', h3⟩
                        · exact HNB.out g (h' ▸ e) e2
                        · rw [h'] at e
                          cases e
                          have h9 := HB.out.lt
                          omega)
                      clear HB HNB
                      have HB := HB2
                      have HNB := HNB2
                      clear HB2 HNB2
                      refine hK _ _ ⟨_, Ext.refl _, HE2.out, ?_⟩
                      clear hK K hgrow hat HV HE
                      have HV := hid hown
                      have HE := HE2
                      clear hown HE2
                      simp only [Act.put, List.setIfInBounds_toArray, List.set_cons_zero, List.set_cons_succ]
                      refine step_act (by rfl) (fun K hK => ?_)
                      refine wp_app_row cap_len (by decide) cap_one Try.underlying22 info_capN (.tmp 72) (.tmp 74) rfl W4.heap.size _ _ _ rfl HV.out _ _ _ [(Cap.mk c.tag c.base c.top c.at_ c.perms c.type)] rfl rfl (rdF_row0 (f := Cap.cells) (z := (Cap.mk c.tag c.base c.top c.at_ c.perms c.type)) HB.out) (by unfold maxLen; omega) (by omega) HE.out.size ?_
                      intro v4 U4 hown hgrow hat
                      obtain ⟨Q4, d4, hv4, _, _⟩ := hown.shape
                      subst hv4
                      have HE2 := hid (Ext.only HE.out (grownOnly (S := fun i => W4.heap.size ≤ i) hgrow fun g e => (HV.out.lt g e).1) fun i hi => hi)
                      have HB2 := hid (HB.out.only (grownOnly (S := fun i => i ≠ b1) hgrow fun g e => HNB.out g e) fun e => e rfl)
                      have HNB2 := hid (show ∀ g, (Value.slice Q4 _ d4).ownBlock = some g → ¬ g = b1 from fun g e e2 => by
                        rcases hat with h' | ⟨g', h', h3⟩
                        · exact HNB.out g (h' ▸ e) e2
                        · rw [h'] at e
                          cases e
                          have h9 := HB.out.lt
                          omega)
                      clear HB HNB
                      have HB := HB2
                      have HNB := HNB2
                      clear HB2 HNB2
                      refine hK _ _ ⟨_, Ext.refl _, HE2.out, ?_⟩
                      clear hK K hgrow hat HV HE
                      have HV := hid hown
                      have HE := HE2
                      clear hown HE2
                      simp only [Act.put, List.setIfInBounds_toArray, List.set_cons_zero, List.set_cons_succ]
                      refine step_act (by rfl) (fun K hK => ?_)
                      refine wp_app_row cap_len (by decide) cap_one Try.underlying22 info_capN (.tmp 75) (.tmp 78) rfl W4.heap.size _ _ _ rfl HV.out _ _ _ (LL.drop at_) rfl (by rw [List.length_drop, HLN.out]) (((HO7.out.rdF HLN.out).drop cap_len at_).ext HE.out) (by unfold maxLen; omega) (by omega) HE.out.size ?_
                      intro v5 U5 hown hgrow hat
                      obtain ⟨Q5, d5, hv5, _, _⟩ := hown.shape
                      subst hv5
                      have HE2 := hid (Ext.only HE.out (grownOnly (S := fun i => W4.heap.size ≤ i) hgrow fun g e => (HV.out.lt g e).1) fun i hi => hi)
                      refine hK _ _ ⟨_, Ext.refl _, HE2.out, ?_⟩
                      clear hK K hgrow hat HV HE
                      have HV := hid hown
                      have HE := HE2
                      clear hown HE2
                      simp only [Act.put, List.setIfInBounds_toArray, List.set_cons_zero, List.set_cons_succ]
                      refine step_read (by rfl) (fun K hK => ?_)
                      go_big_quiet_op
                      refine hK _ ?_
                      clear hK K
                      refine step_nil ?_
                      have HOf : Hid (ownsAt U5 w.heap.size 24 6 (.slice Q5 (0 + at_ + 1 + (ll - at_)) d5) (mxL O (O.take (k + 1))).length (rowF Cap.cells (mxL O (O.take (k + 1))))) := hid (by
                        rw [HT2.out, show (insS (Cap.mk c.tag c.base c.top c.at_ c.perms c.type) LL).length = 0 + at_ + 1 + (ll - at_) by rw [ins_len, HLN.out]; omega, show rowF Cap.cells (insS (Cap.mk c.tag c.base c.top c.at_ c.perms c.type) LL) = (([] ++ rowF Cap.cells (LL.take at_)) ++ rowF Cap.cells [(Cap.mk c.tag c.base c.top c.at_ c.perms c.type)]) ++ rowF Cap.cells (LL.drop at_) by rw [← HIN.out, rowF_append, rowF_cons, rowF_one, List.nil_append, List.append_assoc]]
                        exact HV.out.weak HX7.out.size)
                      have HXf := hid (HX7.out.trans HE.out)
                      go_wp2
                      go_roundw
                      case rel => exact ⟨k + 1, by omega, by go_num, HOf, HXf⟩
                      case measure => simp [intOf]; omega
              · have hle1 : at_ ≤ ll := by omega
                have hge1 : ll ≤ at_ := by omega
                have ha1 : ¬ (at_ : Int) < (ll : Int) := by omega
                have HIN := hid (show LL.take at_ ++ ((Cap.mk c.tag c.base c.top c.at_ c.perms c.type) :: LL.drop at_) = insS (Cap.mk c.tag c.base c.top c.at_ c.perms c.type) LL from ins_at LL at_ (by rw [HLN.out]; omega) HAL.out fun h => absurd h (by rw [HLN.out]; omega))
                rcases own_some HO5.out with ⟨rfl, hcv⟩ | ⟨bx, ox, rfl⟩
                · subst hcv
                  obtain rfl : ll = 0 := by obtain ⟨A9, c9, e9, h9, _⟩ := HO5.out.shape; simp only [Value.slice.injEq, true_and] at e9; omega
                  obtain rfl : at_ = 0 := by omega
                  have HLL0 := hid (List.eq_nil_of_length_eq_zero HLN.out)
                  go_upto_region 13 with (fail)
                  refine wp_region_grow (by kernel_rfl) (by kernel_rfl) (by first | (simp only [List.append]; rfl) | rfl) ?_
                  (repeat (go_big_quiet_step (fail)))
                  refine wpQuiet_nil ?_
                  intro wq hq
                  obtain ⟨dq, rfl⟩ := hq
                  clear p0 p1 p2 p3 p4 p5 p6
                  go_upto_region 15 with (fail)
                  refine wp_gen (fun W => Hid (Ext wr W)) (hid (by repeat (first | (with_reducible exact Ext.refl _) | (with_reducible refine Ext.undrew ?_) | (with_reducible refine Ext.grow ?_ _) | (with_reducible refine Ext.drew ?_) | (with_reducible refine Ext.drewN ?_ _) | (with_reducible refine Ext.alloc ?_ _) | (with_reducible assumption) | ((with_reducible refine Ext.setCell ?_ ?_ _); rotate_left; (first | exact Nat.le_refl _ | ((try dsimp only); (try simp only [World.size_alloc, grow_size, World.size_setCell]); omega)))))) ?_
                  rintro W6 HX6
                  have HX6w := hid (HX5.out.trans (HXa.out.trans HX6.out))
                  have HO6 := hid (HO5.out.ext (HXa.out.trans HX6.out))
                  have HRx := hid (HR5.out.ext (HXa.out.trans HX6.out))
                  clear HX6 HX5 HO5 HR5 HXa HAL
                  refine wp_region_step (.rd 1 (.rd 2 (.rd 3 (.rd 5 (.rd 8 (.rd 9 (.rd 10 (.br 0 (.br 4 (.ac 6 (.ac 7 (.ac 11 (.rd 12 .done)))) 6 (.ac 4 (.ac 7 (.ac 11 (.rd 12 .done))))) 6 (.ac 0 (.ac 4 (.ac 7 (.ac 11 (.rd 12 .done))))))))))))) (by kernel_rfl) (by kernel_rfl) (fun _ _ d _ _ h => by cases d <;> exact h) (by simp only [Ord.map, nthOp, List.append]; rfl) ?_
                  intro d0
                  have HX7 := hid (HX6w.out.trans (Ext.grow (Ext.refl W6) d0))
                  have HR7 := hid (HRx.out.ext (Ext.grow (Ext.refl W6) d0))
                  generalize Go.Proofs.Ytlapemeoffpmgaa.grow W6 d0 = W4 at HX7 HR7 ⊢
                  clear HX6w HO6 HRx
                  obtain ⟨p0, p1, p2, p3, p4, p5, p6⟩ := Row.six (c := (Cap.mk c.tag c.base c.top c.at_ c.perms c.type)) (HR7.out)
                  simp only [Nat.zero_add] at p2 p3 p4 p5 p6
                  refine step_read (by rfl) (fun K hK => ?_)
                  go_big_quiet_op
                  refine hK _ ?_
                  clear hK K
                  refine step_read (by rfl) (fun K hK => ?_)
                  go_big_quiet_op
                  refine hK _ ?_
                  clear hK K
                  refine step_read (by rfl) (fun K hK => ?_)
                  go_big_quiet_op
                  refine hK _ ?_
                  clear hK K
                  refine step_read (by rfl) (fun K hK => ?_)
                  go_big_quiet_op
                  refine hK _ ?_
                  clear hK K
                  refine step_read (by rfl) (fun K hK => ?_)
                  go_big_quiet_op
                  refine hK _ ?_
                  clear hK K
                  refine step_read (by rfl) (fun K hK => ?_)
                  go_big_quiet_op
                  refine hK _ ?_
                  clear hK K
                  refine step_read (by rfl) (fun K hK => ?_)
                  go_big_quiet_op
                  refine hK _ ?_
                  clear hK K
                  refine step_br ?_ ?_
                  · have HE := hid (Ext.refl W4)
                    refine step_act (by rfl) (fun K hK => ?_)
                    refine wp_build0 rfl ?_
                    refine hK _ _ ⟨_, Ext.refl _, HE.out.trans (Ext.alloc (Ext.refl _) _), ?_⟩
                    clear hK K
                    refine step_gen (fun W => Hid (Ext W4 W) ∧ Hid (ownsAt W W4.heap.size 24 6 (.slice (some ⟨W4.heap.size, 0, none⟩) 0 0) 0 [])) ⟨hid (HE.out.trans (Ext.alloc (Ext.refl _) _)), hid ((own0 W4).weak HE.out.size)⟩ ?_
                    rintro U1 ⟨HE2, HV⟩
                    clear HE
                    have HE := HE2
                    clear HE2
                    refine step_br ?_ ?_
                    · refine step_act (by rfl) (fun K hK => ?_)
                      refine wp_app_row cap_len (by decide) cap_one Try.underlying22 info_capN (.tmp 68) (.tmp 71) rfl W4.heap.size _ _ _ rfl HV.out _ _ _ ([] : List Cap) rfl rfl (RdF.nil _ _) (by unfold maxLen; omega) (by omega) HE.out.size ?_
                      intro v2 U2 hown hgrow hat
                      obtain ⟨Q2, d2, hv2, _, _⟩ := hown.shape
                      subst hv2
                      have HE2 := hid (Ext.only HE.out (grownOnly (S := fun i => W4.heap.size ≤ i) hgrow fun g e => (HV.out.lt g e).1) fun i hi => hi)
                      refine hK _ _ ⟨_, Ext.refl _, HE2.out, ?_⟩
                      clear hK K hgrow hat HV HE
                      have HV := hid hown
                      have HE := HE2
                      clear hown HE2
                      simp only [Act.put, List.setIfInBounds_toArray, List.set_cons_zero, List.set_cons_succ]
                      refine step_act (by rfl) (fun K hK => ?_)
                      refine wp_build1 22 24 (.tmp 73) rfl #[.bool c.tag, .int .i64 c.base, .int .i64 c.top, .int .i64 c.at_, .int .i64 c.perms, .int .i64 c.type] 6 rfl rfl (by omega) (by omega) Try.underlying22 (by kernel_rfl) (by kernel_rfl) ?_
                      refine hK _ _ ⟨_, Ext.refl _, HE.out.trans (Ext.alloc (Ext.refl _) _), ?_⟩
                      clear hK K
                      refine step_gen (fun W => Hid (Ext W4 W) ∧ Hid (Row W U2.heap.size 0 (Cap.cells (Cap.mk c.tag c.base c.top c.at_ c.perms c.type))) ∧ Hid (ownsAt W W4.heap.size 24 6 (.slice Q2 (0 + 0) d2) (0 + 0) ([] ++ rowF Cap.cells ([] : List Cap)))) ⟨hid (HE.out.trans (Ext.alloc (Ext.refl _) _)), hid (Row.new U2 #[.bool c.tag, .int .i64 c.base, .int .i64 c.top, .int .i64 c.at_, .int .i64 c.perms, .int .i64 c.type] 24), hid (HV.out.ext (Ext.alloc (Ext.refl _) _))⟩ ?_
                      rintro U3 ⟨HE2, HB, HV2⟩
                      obtain ⟨b1, hb1⟩ : ∃ x, U2.heap.size = x := ⟨_, rfl⟩
                      rw [hb1] at HB ⊢
                      have HNB := hid (show ∀ g, ((.slice Q2 (0 + 0) d2) : Value).ownBlock = some g → ¬ g = b1 from fun g e e2 => by have h9 := (HV.out.lt g e).2; omega)
                      clear HV
                      have HV := HV2
                      clear HV2
                      clear hb1 HE
                      have HE := HE2
                      clear HE2
                      refine step_act (by rfl) (fun K hK => ?_)
                      refine wp_app_row cap_len (by decide) cap_one Try.underlying22 info_capN (.tmp 72) (.tmp 74) rfl W4.heap.size _ _ _ rfl HV.out _ _ _ [(Cap.mk c.tag c.base c.top c.at_ c.perms c.type)] rfl rfl (rdF_row0 (f := Cap.cells) (z := (Cap.mk c.tag c.base c.top c.at_ c.perms c.type)) HB.out) (by unfold maxLen; omega) (by omega) HE.out.size ?_
                      intro v4 U4 hown hgrow hat
                      obtain ⟨Q4, d4, hv4, _, _⟩ := hown.shape
                      subst hv4
                      have HE2 := hid (Ext.only HE.out (grownOnly (S := fun i => W4.heap.size ≤ i) hgrow fun g e => (HV.out.lt g e).1) fun i hi => hi)
                      have HB2 := hid (HB.out.only (grownOnly (S := fun i => i ≠ b1) hgrow fun g e => HNB.out g e) fun e => e rfl)
                      have HNB2 := hid (show ∀ g, (Value.slice Q4 _ d4).ownBlock = some g → ¬ g = b1 from fun g e e2 => by
                        rcases hat with h' | ⟨g', h', h3⟩
                        · exact HNB.out g (h' ▸ e) e2
                        · rw [h'] at e
                          cases e
                          have h9 := HB.out.lt
                          omega)
                      clear HB HNB
                      have HB := HB2
                      have HNB := HNB2
                      clear HB2 HNB2
                      refine hK _ _ ⟨_, Ext.refl _, HE2.out, ?_⟩
                      clear hK K hgrow hat HV HE
                      have HV := hid hown
                      have HE := HE2
                      clear hown HE2
                      simp only [Act.put, List.setIfInBounds_toArray, List.set_cons_zero, List.set_cons_succ]
                      refine step_act (by rfl) (fun K hK => ?_)
                      refine wp_app_row cap_len (by decide) cap_one Try.underlying22 info_capN (.tmp 75) (.tmp 78) rfl W4.heap.size _ _ _ rfl HV.out _ _ _ ([] : List Cap) rfl rfl (RdF.nil _ _) (by unfold maxLen; omega) (by omega) HE.out.size ?_
                      intro v5 U5 hown hgrow hat
                      obtain ⟨Q5, d5, hv5, _, _⟩ := hown.shape
                      subst hv5
                      have HE2 := hid (Ext.only HE.out (grownOnly (S := fun i => W4.heap.size ≤ i) hgrow fun g e => (HV.out.lt g e).1) fun i hi => hi)
                      refine hK _ _ ⟨_, Ext.refl _, HE2.out, ?_⟩
                      clear hK K hgrow hat HV HE
                      have HV := hid hown
                      have HE := HE2
                      clear hown HE2
                      simp only [Act.put, List.setIfInBounds_toArray, List.set_cons_zero, List.set_cons_succ]
                      refine step_read (by rfl) (fun K hK => ?_)
                      go_big_quiet_op
                      refine hK _ ?_
                      clear hK K
                      refine step_nil ?_
                      have HOf : Hid (ownsAt U5 w.heap.size 24 6 (.slice Q5 (0 + 0 + 1 + 0) d5) (mxL O (O.take (k + 1))).length (rowF Cap.cells (mxL O (O.take (k + 1))))) := hid (by
                        rw [HT2.out, show (insS (Cap.mk c.tag c.base c.top c.at_ c.perms c.type) LL).length = 0 + 0 + 1 + 0 by rw [ins_len, HLN.out], show rowF Cap.cells (insS (Cap.mk c.tag c.base c.top c.at_ c.perms c.type) LL) = (([] ++ rowF Cap.cells ([] : List Cap)) ++ rowF Cap.cells [(Cap.mk c.tag c.base c.top c.at_ c.perms c.type)]) ++ rowF Cap.cells ([] : List Cap) by rw [HLL0.out]; rfl]
                        exact HV.out.weak HX7.out.size)
                      have HXf := hid (HX7.out.trans HE.out)
                      go_wp2
                      go_roundw
                      case rel => exact ⟨k + 1, by omega, by go_num, HOf, HXf⟩
                      case measure => simp [intOf]; omega
                    · refine step_act (by rfl) (fun K hK => ?_)
                      refine wp_build1 22 24 (.tmp 73) rfl #[.bool c.tag, .int .i64 c.base, .int .i64 c.top, .int .i64 c.at_, .int .i64 c.perms, .int .i64 c.type] 6 rfl rfl (by omega) (by omega) Try.underlying22 (by kernel_rfl) (by kernel_rfl) ?_
                      refine hK _ _ ⟨_, Ext.refl _, HE.out.trans (Ext.alloc (Ext.refl _) _), ?_⟩
                      clear hK K
                      refine step_gen (fun W => Hid (Ext W4 W) ∧ Hid (Row W U1.heap.size 0 (Cap.cells (Cap.mk c.tag c.base c.top c.at_ c.perms c.type))) ∧ Hid (ownsAt W W4.heap.size 24 6 (.slice (some ⟨W4.heap.size, 0, none⟩) 0 0) 0 [])) ⟨hid (HE.out.trans (Ext.alloc (Ext.refl _) _)), hid (Row.new U1 #[.bool c.tag, .int .i64 c.base, .int .i64 c.top, .int .i64 c.at_, .int .i64 c.perms, .int .i64 c.type] 24), hid (HV.out.ext (Ext.alloc (Ext.refl _) _))⟩ ?_
                      rintro U2 ⟨HE2, HB, HV2⟩
                      obtain ⟨b1, hb1⟩ : ∃ x, U1.heap.size = x := ⟨_, rfl⟩
                      rw [hb1] at HB ⊢
                      have HNB := hid (show ∀ g, ((.slice (some ⟨W4.heap.size, 0, none⟩) 0 0) : Value).ownBlock = some g → ¬ g = b1 from fun g e e2 => by have h9 := (HV.out.lt g e).2; omega)
                      clear HV
                      have HV := HV2
                      clear HV2
                      clear hb1 HE
                      have HE := HE2
                      clear HE2
                      refine step_act (by rfl) (fun K hK => ?_)
                      refine wp_app_row cap_len (by decide) cap_one Try.underlying22 info_capN (.tmp 68) (.tmp 71) rfl W4.heap.size _ _ _ rfl HV.out _ _ _ ([] : List Cap) rfl rfl (RdF.nil _ _) (by unfold maxLen; omega) (by omega) HE.out.size ?_
                      intro v3 U3 hown hgrow hat
                      obtain ⟨Q3, d3, hv3, _, _⟩ := hown.shape
                      subst hv3
                      have HE2 := hid (Ext.only HE.out (grownOnly (S := fun i => W4.heap.size ≤ i) hgrow fun g e => (HV.out.lt g e).1) fun i hi => hi)
                      have HB2 := hid (HB.out.only (grownOnly (S := fun i => i ≠ b1) hgrow fun g e => HNB.out g e) fun e => e rfl)
                      have HNB2 := hid (show ∀ g, (Value.slice Q3 _ d3).ownBlock = some g → ¬ g = b1 from fun g e e2 => by
                        rcases hat with h' | ⟨g', h', h3⟩
                        · exact HNB.out g (h' ▸ e) e2
                        · rw [h'] at e
                          cases e
                          have h9 := HB.out.lt
                          omega)
                      clear HB HNB
                      have HB := HB2
                      have HNB := HNB2
                      clear HB2 HNB2
                      refine hK _ _ ⟨_, Ext.refl _, HE2.out, ?_⟩
                      clear hK K hgrow hat HV HE
                      have HV := hid hown
                      have HE := HE2
                      clear hown HE2
                      simp only [Act.put, List.setIfInBounds_toArray, List.set_cons_zero, List.set_cons_succ]
                      refine step_act (by rfl) (fun K hK => ?_)
                      refine wp_app_row cap_len (by decide) cap_one Try.underlying22 info_capN (.tmp 72) (.tmp 74) rfl W4.heap.size _ _ _ rfl HV.out _ _ _ [(Cap.mk c.tag c.base c.top c.at_ c.perms c.type)] rfl rfl (rdF_row0 (f := Cap.cells) (z := (Cap.mk c.tag c.base c.top c.at_ c.perms c.type)) HB.out) (by unfold maxLen; omega) (by omega) HE.out.size ?_
                      intro v4 U4 hown hgrow hat
                      obtain ⟨Q4, d4, hv4, _, _⟩ := hown.shape
                      subst hv4
                      have HE2 := hid (Ext.only HE.out (grownOnly (S := fun i => W4.heap.size ≤ i) hgrow fun g e => (HV.out.lt g e).1) fun i hi => hi)
                      have HB2 := hid (HB.out.only (grownOnly (S := fun i => i ≠ b1) hgrow fun g e => HNB.out g e) fun e => e rfl)
                      have HNB2 := hid (show ∀ g, (Value.slice Q4 _ d4).ownBlock = some g → ¬ g = b1 from fun g e e2 => by
                        rcases hat with h' | ⟨g', h', h3⟩
                        · exact HNB.out g (h' ▸ e) e2
                        · rw [h'] at e
                          cases e
                          have h9 := HB.out.lt
                          omega)
                      clear HB HNB
                      have HB := HB2
                      have HNB := HNB2
                      clear HB2 HNB2
                      refine hK _ _ ⟨_, Ext.refl _, HE2.out, ?_⟩
                      clear hK K hgrow hat HV HE
                      have HV := hid hown
                      have HE := HE2
                      clear hown HE2
                      simp only [Act.put, List.setIfInBounds_toArray, List.set_cons_zero, List.set_cons_succ]
                      refine step_act (by rfl) (fun K hK => ?_)
                      refine wp_app_row cap_len (by decide) cap_one Try.underlying22 info_capN (.tmp 75) (.tmp 78) rfl W4.heap.size _ _ _ rfl HV.out _ _ _ ([] : List Cap) rfl rfl (RdF.nil _ _) (by unfold maxLen; omega) (by omega) HE.out.size ?_
                      intro v5 U5 hown hgrow hat
                      obtain ⟨Q5, d5, hv5, _, _⟩ := hown.shape
                      subst hv5
                      have HE2 := hid (Ext.only HE.out (grownOnly (S := fun i => W4.heap.size ≤ i) hgrow fun g e => (HV.out.lt g e).1) fun i hi => hi)
                      refine hK _ _ ⟨_, Ext.refl _, HE2.out, ?_⟩
                      clear hK K hgrow hat HV HE
                      have HV := hid hown
                      have HE := HE2
                      clear hown HE2
                      simp only [Act.put, List.setIfInBounds_toArray, List.set_cons_zero, List.set_cons_succ]
                      refine step_read (by rfl) (fun K hK => ?_)
                      go_big_quiet_op
                      refine hK _ ?_
                      clear hK K
                      refine step_nil ?_
                      have HOf : Hid (ownsAt U5 w.heap.size 24 6 (.slice Q5 (0 + 0 + 1 + 0) d5) (mxL O (O.take (k + 1))).length (rowF Cap.cells (mxL O (O.take (k + 1))))) := hid (by
                        rw [HT2.out, show (insS (Cap.mk c.tag c.base c.top c.at_ c.perms c.type) LL).length = 0 + 0 + 1 + 0 by rw [ins_len, HLN.out], show rowF Cap.cells (insS (Cap.mk c.tag c.base c.top c.at_ c.perms c.type) LL) = (([] ++ rowF Cap.cells ([] : List Cap)) ++ rowF Cap.cells [(Cap.mk c.tag c.base c.top c.at_ c.perms c.type)]) ++ rowF Cap.cells ([] : List Cap) by rw [HLL0.out]; rfl]
                        exact HV.out.weak HX7.out.size)
                      have HXf := hid (HX7.out.trans HE.out)
                      go_wp2
                      go_roundw
                      case rel => exact ⟨k + 1, by omega, by go_num, HOf, HXf⟩
                      case measure => simp [intOf]; omega
                  · have HE := hid (Ext.refl W4)
                    refine step_act (by rfl) (fun K hK => ?_)
                    refine wp_build1 22 24 (.tmp 73) rfl #[.bool c.tag, .int .i64 c.base, .int .i64 c.top, .int .i64 c.at_, .int .i64 c.perms, .int .i64 c.type] 6 rfl rfl (by omega) (by omega) Try.underlying22 (by kernel_rfl) (by kernel_rfl) ?_
                    refine hK _ _ ⟨_, Ext.refl _, HE.out.trans (Ext.alloc (Ext.refl _) _), ?_⟩
                    clear hK K
                    refine step_gen (fun W => Hid (Ext W4 W) ∧ Hid (Row W W4.heap.size 0 (Cap.cells (Cap.mk c.tag c.base c.top c.at_ c.perms c.type)))) ⟨hid (HE.out.trans (Ext.alloc (Ext.refl _) _)), hid (Row.new W4 #[.bool c.tag, .int .i64 c.base, .int .i64 c.top, .int .i64 c.at_, .int .i64 c.perms, .int .i64 c.type] 24)⟩ ?_
                    rintro U1 ⟨HE2, HB⟩
                    obtain ⟨b1, hb1⟩ : ∃ x, W4.heap.size = x := ⟨_, rfl⟩
                    rw [hb1] at HB ⊢
                    clear hb1 HE
                    have HE := HE2
                    clear HE2
                    refine step_act (by rfl) (fun K hK => ?_)
                    refine wp_build0 rfl ?_
                    refine hK _ _ ⟨_, Ext.refl _, HE.out.trans (Ext.alloc (Ext.refl _) _), ?_⟩
                    clear hK K
                    refine step_gen (fun W => Hid (Ext W4 W) ∧ Hid (ownsAt W W4.heap.size 24 6 (.slice (some ⟨U1.heap.size, 0, none⟩) 0 0) 0 []) ∧ Hid (Row W b1 0 (Cap.cells (Cap.mk c.tag c.base c.top c.at_ c.perms c.type)))) ⟨hid (HE.out.trans (Ext.alloc (Ext.refl _) _)), hid ((own0 U1).weak HE.out.size), hid (HB.out.ext (Ext.alloc (Ext.refl _) _))⟩ ?_
                    rintro U2 ⟨HE2, HV, HB2⟩
                    have HNB := hid (show ∀ g, (Value.slice (some ⟨U1.heap.size, 0, none⟩) 0 0).ownBlock = some g → ¬ g = b1 from fun g e e2 => by (have h9 := HB.out.lt; simp only [Value.ownBlock, Option.some.injEq] at e; omega))
                    clear HB
                    have HB := HB2
                    clear HB2
                    clear HE
                    have HE := HE2
                    clear HE2
                    refine step_act (by rfl) (fun K hK => ?_)
                    refine wp_app_row cap_len (by decide) cap_one Try.underlying22 info_capN (.tmp 68) (.tmp 71) rfl W4.heap.size _ _ _ rfl HV.out _ _ _ ([] : List Cap) rfl rfl (RdF.nil _ _) (by unfold maxLen; omega) (by omega) HE.out.size ?_
                    intro v3 U3 hown hgrow hat
                    obtain ⟨Q3, d3, hv3, _, _⟩ := hown.shape
                    subst hv3
                    have HE2 := hid (Ext.only HE.out (grownOnly (S := fun i => W4.heap.size ≤ i) hgrow fun g e => (HV.out.lt g e).1) fun i hi => hi)
                    have HB2 := hid (HB.out.only (grownOnly (S := fun i => i ≠ b1) hgrow fun g e => HNB.out g e) fun e => e rfl)
                    have HNB2 := hid (show ∀ g, (Value.slice Q3 _ d3).ownBlock = some g → ¬ g = b1 from fun g e e2 => by
                      rcases hat with h' | ⟨g', h', h3⟩
                      · exact HNB.out g (h' ▸ e) e2
                      · rw [h'] at e
                        cases e
                        have h9 := HB.out.lt
                        omega)
                    clear HB HNB
                    have HB := HB2
                    have HNB := HNB2
                    clear HB2 HNB2
                    refine hK _ _ ⟨_, Ext.refl _, HE2.out, ?_⟩
                    clear hK K hgrow hat HV HE
                    have HV := hid hown
                    have HE := HE2
                    clear hown HE2
                    simp only [Act.put, List.setIfInBounds_toArray, List.set_cons_zero, List.set_cons_succ]
                    refine step_act (by rfl) (fun K hK => ?_)
                    refine wp_app_row cap_len (by decide) cap_one Try.underlying22 info_capN (.tmp 72) (.tmp 74) rfl W4.heap.size _ _ _ rfl HV.out _ _ _ [(Cap.mk c.tag c.base c.top c.at_ c.perms c.type)] rfl rfl (rdF_row0 (f := Cap.cells) (z := (Cap.mk c.tag c.base c.top c.at_ c.perms c.type)) HB.out) (by unfold maxLen; omega) (by omega) HE.out.size ?_
                    intro v4 U4 hown hgrow hat
                    obtain ⟨Q4, d4, hv4, _, _⟩ := hown.shape
                    subst hv4
                    have HE2 := hid (Ext.only HE.out (grownOnly (S := fun i => W4.heap.size ≤ i) hgrow fun g e => (HV.out.lt g e).1) fun i hi => hi)
                    have HB2 := hid (HB.out.only (grownOnly (S := fun i => i ≠ b1) hgrow fun g e => HNB.out g e) fun e => e rfl)
                    have HNB2 := hid (show ∀ g, (Value.slice Q4 _ d4).ownBlock = some g → ¬ g = b1 from fun g e e2 => by
                      rcases hat with h' | ⟨g', h', h3⟩
                      · exact HNB.out g (h' ▸ e) e2
                      · rw [h'] at e
                        cases e
                        have h9 := HB.out.lt
                        omega)
                    clear HB HNB
                    have HB := HB2
                    have HNB := HNB2
                    clear HB2 HNB2
                    refine hK _ _ ⟨_, Ext.refl _, HE2.out, ?_⟩
                    clear hK K hgrow hat HV HE
                    have HV := hid hown
                    have HE := HE2
                    clear hown HE2
                    simp only [Act.put, List.setIfInBounds_toArray, List.set_cons_zero, List.set_cons_succ]
                    refine step_act (by rfl) (fun K hK => ?_)
                    refine wp_app_row cap_len (by decide) cap_one Try.underlying22 info_capN (.tmp 75) (.tmp 78) rfl W4.heap.size _ _ _ rfl HV.out _ _ _ ([] : List Cap) rfl rfl (RdF.nil _ _) (by unfold maxLen; omega) (by omega) HE.out.size ?_
                    intro v5 U5 hown hgrow hat
                    obtain ⟨Q5, d5, hv5, _, _⟩ := hown.shape
                    subst hv5
                    have HE2 := hid (Ext.only HE.out (grownOnly (S := fun i => W4.heap.size ≤ i) hgrow fun g e => (HV.out.lt g e).1) fun i hi => hi)
                    refine hK _ _ ⟨_, Ext.refl _, HE2.out, ?_⟩
                    clear hK K hgrow hat HV HE
                    have HV := hid hown
                    have HE := HE2
                    clear hown HE2
                    simp only [Act.put, List.setIfInBounds_toArray, List.set_cons_zero, List.set_cons_succ]
                    refine step_read (by rfl) (fun K hK => ?_)
                    go_big_quiet_op
                    refine hK _ ?_
                    clear hK K
                    refine step_nil ?_
                    have HOf : Hid (ownsAt U5 w.heap.size 24 6 (.slice Q5 (0 + 0 + 1 + 0) d5) (mxL O (O.take (k + 1))).length (rowF Cap.cells (mxL O (O.take (k + 1))))) := hid (by
                      rw [HT2.out, show (insS (Cap.mk c.tag c.base c.top c.at_ c.perms c.type) LL).length = 0 + 0 + 1 + 0 by rw [ins_len, HLN.out], show rowF Cap.cells (insS (Cap.mk c.tag c.base c.top c.at_ c.perms c.type) LL) = (([] ++ rowF Cap.cells ([] : List Cap)) ++ rowF Cap.cells [(Cap.mk c.tag c.base c.top c.at_ c.perms c.type)]) ++ rowF Cap.cells ([] : List Cap) by rw [HLL0.out]; rfl]
                      exact HV.out.weak HX7.out.size)
                    have HXf := hid (HX7.out.trans HE.out)
                    go_wp2
                    go_roundw
                    case rel => exact ⟨k + 1, by omega, by go_num, HOf, HXf⟩
                    case measure => simp [intOf]; omega
                · skip
                  go_upto_region 13 with (fail)
                  refine wp_region_grow (by kernel_rfl) (by kernel_rfl) (by first | (simp only [List.append]; rfl) | rfl) ?_
                  (repeat (go_big_quiet_step (fail)))
                  refine wpQuiet_nil ?_
                  intro wq hq
                  obtain ⟨dq, rfl⟩ := hq
                  clear p0 p1 p2 p3 p4 p5 p6
                  go_upto_region 15 with (fail)
                  refine wp_gen (fun W => Hid (Ext wr W)) (hid (by repeat (first | (with_reducible exact Ext.refl _) | (with_reducible refine Ext.undrew ?_) | (with_reducible refine Ext.grow ?_ _) | (with_reducible refine Ext.drew ?_) | (with_reducible refine Ext.drewN ?_ _) | (with_reducible refine Ext.alloc ?_ _) | (with_reducible assumption) | ((with_reducible refine Ext.setCell ?_ ?_ _); rotate_left; (first | exact Nat.le_refl _ | ((try dsimp only); (try simp only [World.size_alloc, grow_size, World.size_setCell]); omega)))))) ?_
                  rintro W6 HX6
                  have HX6w := hid (HX5.out.trans (HXa.out.trans HX6.out))
                  have HO6 := hid (HO5.out.ext (HXa.out.trans HX6.out))
                  have HRx := hid (HR5.out.ext (HXa.out.trans HX6.out))
                  have HSH := hid HO5.out.shape
                  clear HX6 HX5 HO5 HR5 HXa HAL
                  have hac : at_ ≤ cv := by obtain ⟨A9, c9, e9, h9, _⟩ := HSH.out; simp only [Value.slice.injEq, true_and] at e9; omega
                  have hlc : ll ≤ cv := by obtain ⟨A9, c9, e9, h9, _⟩ := HSH.out; simp only [Value.slice.injEq, true_and] at e9; omega
                  have hac1 : (at_ : Int) ≤ (cv : Int) := by omega
                  have hal1 : (at_ : Int) ≤ (ll : Int) := by omega
                  have hall : at_ ≤ ll := by omega
                  refine wp_region_step (.rd 1 (.rd 2 (.rd 3 (.rd 5 (.rd 8 (.rd 9 (.rd 10 (.br 0 (.br 4 (.ac 6 (.ac 7 (.ac 11 (.rd 12 .done)))) 6 (.ac 4 (.ac 7 (.ac 11 (.rd 12 .done))))) 6 (.ac 0 (.ac 4 (.ac 7 (.ac 11 (.rd 12 .done))))))))))))) (by kernel_rfl) (by kernel_rfl) (fun _ _ d _ _ h => by cases d <;> exact h) (by simp only [Ord.map, nthOp, List.append]; rfl) ?_
                  intro d0
                  have HX7 := hid (HX6w.out.trans (Ext.grow (Ext.refl W6) d0))
                  have HO7 := hid (HO6.out.ext (Ext.grow (Ext.refl W6) d0))
                  have HR7 := hid (HRx.out.ext (Ext.grow (Ext.refl W6) d0))
                  generalize Go.Proofs.Ytlapemeoffpmgaa.grow W6 d0 = W4 at HX7 HO7 HR7 ⊢
                  clear HX6w HO6 HRx
                  obtain ⟨p0, p1, p2, p3, p4, p5, p6⟩ := Row.six (c := (Cap.mk c.tag c.base c.top c.at_ c.perms c.type)) (HR7.out)
                  simp only [Nat.zero_add] at p2 p3 p4 p5 p6
                  by_cases hca : cv - at_ = 0
                  · refine step_read (by rfl) (fun K hK => ?_)
                    go_big_quiet_op
                    refine hK _ ?_
                    clear hK K
                    refine step_read (by rfl) (fun K hK => ?_)
                    go_big_quiet_op
                    refine hK _ ?_
                    clear hK K
                    refine step_read (by rfl) (fun K hK => ?_)
                    go_big_quiet_op
                    refine hK _ ?_
                    clear hK K
                    refine step_read (by rfl) (fun K hK => ?_)
                    go_big_quiet_op
                    refine hK _ ?_
                    clear hK K
                    refine step_read (by rfl) (fun K hK => ?_)
                    go_big_quiet_op
                    refine hK _ ?_
                    clear hK K
                    refine step_read (by rfl) (fun K hK => ?_)
                    go_big_quiet_op
                    refine hK _ ?_
                    clear hK K
                    refine step_read (by rfl) (fun K hK => ?_)
                    go_big_quiet_op
                    refine hK _ ?_
                    clear hK K
                    refine step_br ?_ ?_
                    · have HE := hid (Ext.refl W4)
                      refine step_act (by rfl) (fun K hK => ?_)
                      refine wp_build0 rfl ?_
                      refine hK _ _ ⟨_, Ext.refl _, HE.out.trans (Ext.alloc (Ext.refl _) _), ?_⟩
                      clear hK K
                      refine step_gen (fun W => Hid (Ext W4 W) ∧ Hid (ownsAt W W4.heap.size 24 6 (.slice (some ⟨W4.heap.size, 0, none⟩) 0 0) 0 [])) ⟨hid (HE.out.trans (Ext.alloc (Ext.refl _) _)), hid ((own0 W4).weak HE.out.size)⟩ ?_
                      rintro U1 ⟨HE2, HV⟩
                      clear HE
                      have HE := HE2
                      clear HE2
                      refine step_br ?_ ?_
                      · refine step_act (by rfl) (fun K hK => ?_)
                        refine wp_app_row cap_len (by decide) cap_one Try.underlying22 info_capN (.tmp 68) (.tmp 71) rfl W4.heap.size _ _ _ rfl HV.out _ _ _ (LL.take at_) rfl (by rw [List.length_take, HLN.out]; omega) (((HO7.out.rdF HLN.out).take cap_len at_).ext HE.out) (by unfold maxLen; omega) (by omega) HE.out.size ?_
                        intro v2 U2 hown hgrow hat
                        obtain ⟨Q2, d2, hv2, _, _⟩ := hown.shape
                        subst hv2
                        have HE2 := hid (Ext.only HE.out (grownOnly (S := fun i => W4.heap.size ≤ i) hgrow fun g e => (HV.out.lt g e).1) fun i hi => hi)
                        refine hK _ _ ⟨_, Ext.refl _, HE2.out, ?_⟩
                        clear hK K hgrow hat HV HE
                        have HV := hid hown
                        have HE := HE2
                        clear hown HE2
                        simp only [Act.put, List.setIfInBounds_toArray, List.set_cons_zero, List.set_cons_succ]
                        refine step_act (by rfl) (fun K hK => ?_)
                        refine wp_build1 22 24 (.tmp 73) rfl #[.bool c.tag, .int .i64 c.base, .int .i64 c.top, .int .i64 c.at_, .int .i64 c.perms, .int .i64 c.type] 6 rfl rfl (by omega) (by omega) Try.underlying22 (by kernel_rfl) (by kernel_rfl) ?_
                        refine hK _ _ ⟨_, Ext.refl _, HE.out.trans (Ext.alloc (Ext.refl _) _), ?_⟩
                        clear hK K
                        refine step_gen (fun W => Hid (Ext W4 W) ∧ Hid (Row W U2.heap.size 0 (Cap.cells (Cap.mk c.tag c.base c.top c.at_ c.perms c.type))) ∧ Hid (ownsAt W W4.heap.size 24 6 (.slice Q2 (0 + at_) d2) (0 + at_) ([] ++ rowF Cap.cells (LL.take at_)))) ⟨hid (HE.out.trans (Ext.alloc (Ext.refl _) _)), hid (Row.new U2 #[.bool c.tag, .int .i64 c.base, .int .i64 c.top, .int .i64 c.at_, .int .i64 c.perms, .int .i64 c.type] 24), hid (HV.out.ext (Ext.alloc (Ext.refl _) _))⟩ ?_
                        rintro U3 ⟨HE2, HB, HV2⟩
                        obtain ⟨b1, hb1⟩ : ∃ x, U2.heap.size = x := ⟨_, rfl⟩
                        rw [hb1] at HB ⊢
                        have HNB := hid (show ∀ g, ((.slice Q2 (0 + at_) d2) : Value).ownBlock = some g → ¬ g = b1 from fun g e e2 => by have h9 := (HV.out.lt g e).2; omega)
                        clear HV
                        have HV := HV2
                        clear HV2
                        clear hb1 HE
                        have HE := HE2
                        clear HE2
                        refine step_act (by rfl) (fun K hK => ?_)
                        refine wp_app_row cap_len (by decide) cap_one Try.underlying22 info_capN (.tmp 72) (.tmp 74) rfl W4.heap.size _ _ _ rfl HV.out _ _ _ [(Cap.mk c.tag c.base c.top c.at_ c.perms c.type)] rfl rfl (rdF_row0 (f := Cap.cells) (z := (Cap.mk c.tag c.base c.top c.at_ c.perms c.type)) HB.out) (by unfold maxLen; omega) (by omega) HE.out.size ?_
                        intro v4 U4 hown hgrow hat
                        obtain ⟨Q4, d4, hv4, _, _⟩ := hown.shape
                        subst hv4
                        have HE2 := hid (Ext.only HE.out (grownOnly (S := fun i => W4.heap.size ≤ i) hgrow fun g e => (HV.out.lt g e).1) fun i hi => hi)
                        have HB2 := hid (HB.out.only (grownOnly (S := fun i => i ≠ b1) hgrow fun g e => HNB.out g e) fun e => e rfl)
                        have HNB2 := hid (show ∀ g, (Value.slice Q4 _ d4).ownBlock = some g → ¬ g = b1 from fun g e e2 => by
                          rcases hat with h' | ⟨g', h', h3⟩
                          · exact HNB.out g (h' ▸ e) e2
                          · rw [h'] at e
                            cases e
                            have h9 := HB.out.lt
                            omega)
                        clear HB HNB
                        have HB := HB2
                        have HNB := HNB2
                        clear HB2 HNB2
                        refine hK _ _ ⟨_, Ext.refl _, HE2.out, ?_⟩
                        clear hK K hgrow hat HV HE
                        have HV := hid hown
                        have HE := HE2
                        clear hown HE2
                        simp only [Act.put, List.setIfInBounds_toArray, List.set_cons_zero, List.set_cons_succ]
                        refine step_act (by rfl) (fun K hK => ?_)
                        refine wp_app_row cap_len (by decide) cap_one Try.underlying22 info_capN (.tmp 75) (.tmp 78) rfl W4.heap.size _ _ _ rfl HV.out _ _ _ (LL.drop at_) rfl (by rw [List.length_drop, HLN.out]; omega) (by rw [List.drop_eq_nil_of_le (by rw [HLN.out]; omega)]; exact RdF.nil _ _) (by unfold maxLen; omega) (by omega) HE.out.size ?_
                        intro v5 U5 hown hgrow hat
                        obtain ⟨Q5, d5, hv5, _, _⟩ := hown.shape
                        subst hv5
                        have HE2 := hid (Ext.only HE.out (grownOnly (S := fun i => W4.heap.size ≤ i) hgrow fun g e => (HV.out.lt g e).1) fun i hi => hi)
                        refine hK _ _ ⟨_, Ext.refl _, HE2.out, ?_⟩
                        clear hK K hgrow hat HV HE
                        have HV := hid hown
                        have HE := HE2
                        clear hown HE2
                        simp only [Act.put, List.setIfInBounds_toArray, List.set_cons_zero, List.set_cons_succ]
                        refine step_read (by rfl) (fun K hK => ?_)
                        go_big_quiet_op
                        refine hK _ ?_
                        clear hK K
                        refine step_nil ?_
                        have HOf : Hid (ownsAt U5 w.heap.size 24 6 (.slice Q5 (0 + at_ + 1 + 0) d5) (mxL O (O.take (k + 1))).length (rowF Cap.cells (mxL O (O.take (k + 1))))) := hid (by
                          rw [HT2.out, show (insS (Cap.mk c.tag c.base c.top c.at_ c.perms c.type) LL).length = 0 + at_ + 1 + 0 by rw [ins_len, HLN.out]; omega, show rowF Cap.cells (insS (Cap.mk c.tag c.base c.top c.at_ c.perms c.type) LL) = (([] ++ rowF Cap.cells (LL.take at_)) ++ rowF Cap.cells [(Cap.mk c.tag c.base c.top c.at_ c.perms c.type)]) ++ rowF Cap.cells (LL.drop at_) by rw [← HIN.out, rowF_append, rowF_cons, rowF_one, List.nil_append, List.append_assoc]]
                          exact HV.out.weak HX7.out.size)
                        have HXf := hid (HX7.out.trans HE.out)
                        go_wp2
                        go_roundw
                        case rel => exact ⟨k + 1, by omega, by go_num, HOf, HXf⟩
                        case measure => simp [intOf]; omega
                      · refine step_act (by rfl) (fun K hK => ?_)
                        refine wp_build1 22 24 (.tmp 73) rfl #[.bool c.tag, .int .i64 c.base, .int .i64 c.top, .int .i64 c.at_, .int .i64 c.perms, .int .i64 c.type] 6 rfl rfl (by omega) (by omega) Try.underlying22 (by kernel_rfl) (by kernel_rfl) ?_
                        refine hK _ _ ⟨_, Ext.refl _, HE.out.trans (Ext.alloc (Ext.refl _) _), ?_⟩
                        clear hK K
                        refine step_gen (fun W => Hid (Ext W4 W) ∧ Hid (Row W U1.heap.size 0 (Cap.cells (Cap.mk c.tag c.base c.top c.at_ c.perms c.type))) ∧ Hid (ownsAt W W4.heap.size 24 6 (.slice (some ⟨W4.heap.size, 0, none⟩) 0 0) 0 [])) ⟨hid (HE.out.trans (Ext.alloc (Ext.refl _) _)), hid (Row.new U1 #[.bool c.tag, .int .i64 c.base, .int .i64 c.top, .int .i64 c.at_, .int .i64 c.perms, .int .i64 c.type] 24), hid (HV.out.ext (Ext.alloc (Ext.refl _) _))⟩ ?_
                        rintro U2 ⟨HE2, HB, HV2⟩
                        obtain ⟨b1, hb1⟩ : ∃ x, U1.heap.size = x := ⟨_, rfl⟩
                        rw [hb1] at HB ⊢
                        have HNB := hid (show ∀ g, ((.slice (some ⟨W4.heap.size, 0, none⟩) 0 0) : Value).ownBlock = some g → ¬ g = b1 from fun g e e2 => by have h9 := (HV.out.lt g e).2; omega)
                        clear HV
                        have HV := HV2
                        clear HV2
                        clear hb1 HE
                        have HE := HE2
                        clear HE2
                        refine step_act (by rfl) (fun K hK => ?_)
                        refine wp_app_row cap_len (by decide) cap_one Try.underlying22 info_capN (.tmp 68) (.tmp 71) rfl W4.heap.size _ _ _ rfl HV.out _ _ _ (LL.take at_) rfl (by rw [List.length_take, HLN.out]; omega) (((HO7.out.rdF HLN.out).take cap_len at_).ext HE.out) (by unfold maxLen; omega) (by omega) HE.out.size ?_
                        intro v3 U3 hown hgrow hat
                        obtain ⟨Q3, d3, hv3, _, _⟩ := hown.shape
                        subst hv3
                        have HE2 := hid (Ext.only HE.out (grownOnly (S := fun i => W4.heap.size ≤ i) hgrow fun g e => (HV.out.lt g e).1) fun i hi => hi)
                        have HB2 := hid (HB.out.only (grownOnly (S := fun i => i ≠ b1) hgrow fun g e => HNB.out g e) fun e => e rfl)
                        have HNB2 := hid (show ∀ g, (Value.slice Q3 _ d3).ownBlock = some g → ¬ g = b1 from fun g e e2 => by
                          rcases hat with h' | ⟨g', h', h3⟩
                          · exact HNB.out g (h' ▸ e) e2
                          · rw [h'] at e
                            cases e
                            have h9 := HB.out.lt
                            omega)
                        clear HB HNB
                        have HB := HB2
                        have HNB := HNB2
                        clear HB2 HNB2
                        refine hK _ _ ⟨_, Ext.refl _, HE2.out, ?_⟩
                        clear hK K hgrow hat HV HE
                        have HV := hid hown
                        have HE := HE2
                        clear hown HE2
                        simp only [Act.put, List.setIfInBounds_toArray, List.set_cons_zero, List.set_cons_succ]
                        refine step_act (by rfl) (fun K hK => ?_)
                        refine wp_app_row cap_len (by decide) cap_one Try.underlying22 info_capN (.tmp 72) (.tmp 74) rfl W4.heap.size _ _ _ rfl HV.out _ _ _ [(Cap.mk c.tag c.base c.top c.at_ c.perms c.type)] rfl rfl (rdF_row0 (f := Cap.cells) (z := (Cap.mk c.tag c.base c.top c.at_ c.perms c.type)) HB.out) (by unfold maxLen; omega) (by omega) HE.out.size ?_
                        intro v4 U4 hown hgrow hat
                        obtain ⟨Q4, d4, hv4, _, _⟩ := hown.shape
                        subst hv4
                        have HE2 := hid (Ext.only HE.out (grownOnly (S := fun i => W4.heap.size ≤ i) hgrow fun g e => (HV.out.lt g e).1) fun i hi => hi)
                        have HB2 := hid (HB.out.only (grownOnly (S := fun i => i ≠ b1) hgrow fun g e => HNB.out g e) fun e => e rfl)
                        have HNB2 := hid (show ∀ g, (Value.slice Q4 _ d4).ownBlock = some g → ¬ g = b1 from fun g e e2 => by
                          rcases hat with h' | ⟨g', h', h3⟩
                          · exact HNB.out g (h' ▸ e) e2
                          · rw [h'] at e
                            cases e
                            have h9 := HB.out.lt
                            omega)
                        clear HB HNB
                        have HB := HB2
                        have HNB := HNB2
                        clear HB2 HNB2
                        refine hK _ _ ⟨_, Ext.refl _, HE2.out, ?_⟩
                        clear hK K hgrow hat HV HE
                        have HV := hid hown
                        have HE := HE2
                        clear hown HE2
                        simp only [Act.put, List.setIfInBounds_toArray, List.set_cons_zero, List.set_cons_succ]
                        refine step_act (by rfl) (fun K hK => ?_)
                        refine wp_app_row cap_len (by decide) cap_one Try.underlying22 info_capN (.tmp 75) (.tmp 78) rfl W4.heap.size _ _ _ rfl HV.out _ _ _ (LL.drop at_) rfl (by rw [List.length_drop, HLN.out]; omega) (by rw [List.drop_eq_nil_of_le (by rw [HLN.out]; omega)]; exact RdF.nil _ _) (by unfold maxLen; omega) (by omega) HE.out.size ?_
                        intro v5 U5 hown hgrow hat
                        obtain ⟨Q5, d5, hv5, _, _⟩ := hown.shape
                        subst hv5
                        have HE2 := hid (Ext.only HE.out (grownOnly (S := fun i => W4.heap.size ≤ i) hgrow fun g e => (HV.out.lt g e).1) fun i hi => hi)
                        refine hK _ _ ⟨_, Ext.refl _, HE2.out, ?_⟩
                        clear hK K hgrow hat HV HE
                        have HV := hid hown
                        have HE := HE2
                        clear hown HE2
                        simp only [Act.put, List.setIfInBounds_toArray, List.set_cons_zero, List.set_cons_succ]
                        refine step_read (by rfl) (fun K hK => ?_)
                        go_big_quiet_op
                        refine hK _ ?_
                        clear hK K
                        refine step_nil ?_
                        have HOf : Hid (ownsAt U5 w.heap.size 24 6 (.slice Q5 (0 + at_ + 1 + 0) d5) (mxL O (O.take (k + 1))).length (rowF Cap.cells (mxL O (O.take (k + 1))))) := hid (by
                          rw [HT2.out, show (insS (Cap.mk c.tag c.base c.top c.at_ c.perms c.type) LL).length = 0 + at_ + 1 + 0 by rw [ins_len, HLN.out]; omega, show rowF Cap.cells (insS (Cap.mk c.tag c.base c.top c.at_ c.perms c.type) LL) = (([] ++ rowF Cap.cells (LL.take at_)) ++ rowF Cap.cells [(Cap.mk c.tag c.base c.top c.at_ c.perms c.type)]) ++ rowF Cap.cells (LL.drop at_) by rw [← HIN.out, rowF_append, rowF_cons, rowF_one, List.nil_append, List.append_assoc]]
                          exact HV.out.weak HX7.out.size)
                        have HXf := hid (HX7.out.trans HE.out)
                        go_wp2
                        go_roundw
                        case rel => exact ⟨k + 1, by omega, by go_num, HOf, HXf⟩
                        case measure => simp [intOf]; omega
                    · have HE := hid (Ext.refl W4)
                      refine step_act (by rfl) (fun K hK => ?_)
                      refine wp_build1 22 24 (.tmp 73) rfl #[.bool c.tag, .int .i64 c.base, .int .i64 c.top, .int .i64 c.at_, .int .i64 c.perms, .int .i64 c.type] 6 rfl rfl (by omega) (by omega) Try.underlying22 (by kernel_rfl) (by kernel_rfl) ?_
                      refine hK _ _ ⟨_, Ext.refl _, HE.out.trans (Ext.alloc (Ext.refl _) _), ?_⟩
                      clear hK K
                      refine step_gen (fun W => Hid (Ext W4 W) ∧ Hid (Row W W4.heap.size 0 (Cap.cells (Cap.mk c.tag c.base c.top c.at_ c.perms c.type)))) ⟨hid (HE.out.trans (Ext.alloc (Ext.refl _) _)), hid (Row.new W4 #[.bool c.tag, .int .i64 c.base, .int .i64 c.top, .int .i64 c.at_, .int .i64 c.perms, .int .i64 c.type] 24)⟩ ?_
                      rintro U1 ⟨HE2, HB⟩
                      obtain ⟨b1, hb1⟩ : ∃ x, W4.heap.size = x := ⟨_, rfl⟩
                      rw [hb1] at HB ⊢
                      clear hb1 HE
                      have HE := HE2
                      clear HE2
                      refine step_act (by rfl) (fun K hK => ?_)
                      refine wp_build0 rfl ?_
                      refine hK _ _ ⟨_, Ext.refl _, HE.out.trans (Ext.alloc (Ext.refl _) _), ?_⟩
                      clear hK K
                      refine step_gen (fun W => Hid (Ext W4 W) ∧ Hid (ownsAt W W4.heap.size 24 6 (.slice (some ⟨U1.heap.size, 0, none⟩) 0 0) 0 []) ∧ Hid (Row W b1 0 (Cap.cells (Cap.mk c.tag c.base c.top c.at_ c.perms c.type)))) ⟨hid (HE.out.trans (Ext.alloc (Ext.refl _) _)), hid ((own0 U1).weak HE.out.size), hid (HB.out.ext (Ext.alloc (Ext.refl _) _))⟩ ?_
                      rintro U2 ⟨HE2, HV, HB2⟩
                      have HNB := hid (show ∀ g, (Value.slice (some ⟨U1.heap.size, 0, none⟩) 0 0).ownBlock = some g → ¬ g = b1 from fun g e e2 => by (have h9 := HB.out.lt; simp only [Value.ownBlock, Option.some.injEq] at e; omega))
                      clear HB
                      have HB := HB2
                      clear HB2
                      clear HE
                      have HE := HE2
                      clear HE2
                      refine step_act (by rfl) (fun K hK => ?_)
                      refine wp_app_row cap_len (by decide) cap_one Try.underlying22 info_capN (.tmp 68) (.tmp 71) rfl W4.heap.size _ _ _ rfl HV.out _ _ _ (LL.take at_) rfl (by rw [List.length_take, HLN.out]; omega) (((HO7.out.rdF HLN.out).take cap_len at_).ext HE.out) (by unfold maxLen; omega) (by omega) HE.out.size ?_
                      intro v3 U3 hown hgrow hat
                      obtain ⟨Q3, d3, hv3, _, _⟩ := hown.shape
                      subst hv3
                      have HE2 := hid (Ext.only HE.out (grownOnly (S := fun i => W4.heap.size ≤ i) hgrow fun g e => (HV.out.lt g e).1) fun i hi => hi)
                      have HB2 := hid (HB.out.only (grownOnly (S := fun i => i ≠ b1) hgrow fun g e => HNB.out g e) fun e => e rfl)
                      have HNB2 := hid (show ∀ g, (Value.slice Q3 _ d3).ownBlock = some g → ¬ g = b1 from fun g e e2 => by
                        rcases hat with h' | ⟨g', h', h3⟩
                        · exact HNB.out g (h' ▸ e) e2
                        · rw [h'] at e
                          cases e
                          have h9 := HB.out.lt
                          omega)
                      clear HB HNB
                      have HB := HB2
                      have HNB := HNB2
                      clear HB2 HNB2
                      refine hK _ _ ⟨_, Ext.refl _, HE2.out, ?_⟩
                      clear hK K hgrow hat HV HE
                      have HV := hid hown
                      have HE := HE2
                      clear hown HE2
                      simp only [Act.put, List.setIfInBounds_toArray, List.set_cons_zero, List.set_cons_succ]
                      refine step_act (by rfl) (fun K hK => ?_)
                      refine wp_app_row cap_len (by decide) cap_one Try.underlying22 info_capN (.tmp 72) (.tmp 74) rfl W4.heap.size _ _ _ rfl HV.out _ _ _ [(Cap.mk c.tag c.base c.top c.at_ c.perms c.type)] rfl rfl (rdF_row0 (f := Cap.cells) (z := (Cap.mk c.tag c.base c.top c.at_ c.perms c.type)) HB.out) (by unfold maxLen; omega) (by omega) HE.out.size ?_
                      intro v4 U4 hown hgrow hat
                      obtain ⟨Q4, d4, hv4, _, _⟩ := hown.shape
                      subst hv4
                      have HE2 := hid (Ext.only HE.out (grownOnly (S := fun i => W4.heap.size ≤ i) hgrow fun g e => (HV.out.lt g e).1) fun i hi => hi)
                      have HB2 := hid (HB.out.only (grownOnly (S := fun i => i ≠ b1) hgrow fun g e => HNB.out g e) fun e => e rfl)
                      have HNB2 := hid (show ∀ g, (Value.slice Q4 _ d4).ownBlock = some g → ¬ g = b1 from fun g e e2 => by
                        rcases hat with h' | ⟨g', h', h3⟩
                        · exact HNB.out g (h' ▸ e) e2
                        · rw [h'] at e
                          cases e
                          have h9 := HB.out.lt
                          omega)
                      clear HB HNB
                      have HB := HB2
                      have HNB := HNB2
                      clear HB2 HNB2
                      refine hK _ _ ⟨_, Ext.refl _, HE2.out, ?_⟩
                      clear hK K hgrow hat HV HE
                      have HV := hid hown
                      have HE := HE2
                      clear hown HE2
                      simp only [Act.put, List.setIfInBounds_toArray, List.set_cons_zero, List.set_cons_succ]
                      refine step_act (by rfl) (fun K hK => ?_)
                      refine wp_app_row cap_len (by decide) cap_one Try.underlying22 info_capN (.tmp 75) (.tmp 78) rfl W4.heap.size _ _ _ rfl HV.out _ _ _ (LL.drop at_) rfl (by rw [List.length_drop, HLN.out]; omega) (by rw [List.drop_eq_nil_of_le (by rw [HLN.out]; omega)]; exact RdF.nil _ _) (by unfold maxLen; omega) (by omega) HE.out.size ?_
                      intro v5 U5 hown hgrow hat
                      obtain ⟨Q5, d5, hv5, _, _⟩ := hown.shape
                      subst hv5
                      have HE2 := hid (Ext.only HE.out (grownOnly (S := fun i => W4.heap.size ≤ i) hgrow fun g e => (HV.out.lt g e).1) fun i hi => hi)
                      refine hK _ _ ⟨_, Ext.refl _, HE2.out, ?_⟩
                      clear hK K hgrow hat HV HE
                      have HV := hid hown
                      have HE := HE2
                      clear hown HE2
                      simp only [Act.put, List.setIfInBounds_toArray, List.set_cons_zero, List.set_cons_succ]
                      refine step_read (by rfl) (fun K hK => ?_)
                      go_big_quiet_op
                      refine hK _ ?_
                      clear hK K
                      refine step_nil ?_
                      have HOf : Hid (ownsAt U5 w.heap.size 24 6 (.slice Q5 (0 + at_ + 1 + 0) d5) (mxL O (O.take (k + 1))).length (rowF Cap.cells (mxL O (O.take (k + 1))))) := hid (by
                        rw [HT2.out, show (insS (Cap.mk c.tag c.base c.top c.at_ c.perms c.type) LL).length = 0 + at_ + 1 + 0 by rw [ins_len, HLN.out]; omega, show rowF Cap.cells (insS (Cap.mk c.tag c.base c.top c.at_ c.perms c.type) LL) = (([] ++ rowF Cap.cells (LL.take at_)) ++ rowF Cap.cells [(Cap.mk c.tag c.base c.top c.at_ c.perms c.type)]) ++ rowF Cap.cells (LL.drop at_) by rw [← HIN.out, rowF_append, rowF_cons, rowF_one, List.nil_append, List.append_assoc]]
                        exact HV.out.weak HX7.out.size)
                      have HXf := hid (HX7.out.trans HE.out)
                      go_wp2
                      go_roundw
                      case rel => exact ⟨k + 1, by omega, by go_num, HOf, HXf⟩
                      case measure => simp [intOf]; omega
                  · refine step_read (by rfl) (fun K hK => ?_)
                    go_big_quiet_op
                    refine hK _ ?_
                    clear hK K
                    refine step_read (by rfl) (fun K hK => ?_)
                    go_big_quiet_op
                    refine hK _ ?_
                    clear hK K
                    refine step_read (by rfl) (fun K hK => ?_)
                    go_big_quiet_op
                    refine hK _ ?_
                    clear hK K
                    refine step_read (by rfl) (fun K hK => ?_)
                    go_big_quiet_op
                    refine hK _ ?_
                    clear hK K
                    refine step_read (by rfl) (fun K hK => ?_)
                    go_big_quiet_op
                    refine hK _ ?_
                    clear hK K
                    refine step_read (by rfl) (fun K hK => ?_)
                    go_big_quiet_op
                    refine hK _ ?_
                    clear hK K
                    refine step_read (by rfl) (fun K hK => ?_)
                    go_big_quiet_op
                    refine hK _ ?_
                    clear hK K
                    refine step_br ?_ ?_
                    · have HE := hid (Ext.refl W4)
                      refine step_act (by rfl) (fun K hK => ?_)
                      refine wp_build0 rfl ?_
                      refine hK _ _ ⟨_, Ext.refl _, HE.out.trans (Ext.alloc (Ext.refl _) _), ?_⟩
                      clear hK K
                      refine step_gen (fun W => Hid (Ext W4 W) ∧ Hid (ownsAt W W4.heap.size 24 6 (.slice (some ⟨W4.heap.size, 0, none⟩) 0 0) 0 [])) ⟨hid (HE.out.trans (Ext.alloc (Ext.refl _) _)), hid ((own0 W4).weak HE.out.size)⟩ ?_
                      rintro U1 ⟨HE2, HV⟩
                      clear HE
                      have HE := HE2
                      clear HE2
                      refine step_br ?_ ?_
                      · refine step_act (by rfl) (fun K hK => ?_)
                        refine wp_app_row cap_len (by decide) cap_one Try.underlying22 info_capN (.tmp 68) (.tmp 71) rfl W4.heap.size _ _ _ rfl HV.out _ _ _ (LL.take at_) rfl (by rw [List.length_take, HLN.out]; omega) (((HO7.out.rdF HLN.out).take cap_len at_).ext HE.out) (by unfold maxLen; omega) (by omega) HE.out.size ?_
                        intro v2 U2 hown hgrow hat
                        obtain ⟨Q2, d2, hv2, _, _⟩ := hown.shape
                        subst hv2
                        have HE2 := hid (Ext.only HE.out (grownOnly (S := fun i => W4.heap.size ≤ i) hgrow fun g e => (HV.out.lt g e).1) fun i hi => hi)
                        refine hK _ _ ⟨_, Ext.refl _, HE2.out, ?_⟩
                        clear hK K hgrow hat HV HE
                        have HV := hid hown
                        have HE := HE2
                        clear hown HE2
                        simp only [Act.put, List.setIfInBounds_toArray, List.set_cons_zero, List.set_cons_succ]
                        refine step_act (by rfl) (fun K hK => ?_)
                        refine wp_build1 22 24 (.tmp 73) rfl #[.bool c.tag, .int .i64 c.base, .int .i64 c.top, .int .i64 c.at_, .int .i64 c.perms, .int .i64 c.type] 6 rfl rfl (by omega) (by omega) Try.underlying22 (by kernel_rfl) (by kernel_rfl) ?_
                        refine hK _ _ ⟨_, Ext.refl _, HE.out.trans (Ext.alloc (Ext.refl _) _), ?_⟩
                        clear hK K
                        refine step_gen (fun W => Hid (Ext W4 W) ∧ Hid (Row W U2.heap.size 0 (Cap.cells (Cap.mk c.tag c.base c.top c.at_ c.perms c.type))) ∧ Hid (ownsAt W W4.heap.size 24 6 (.slice Q2 (0 + at_) d2) (0 + at_) ([] ++ rowF Cap.cells (LL.take at_)))) ⟨hid (HE.out.trans (Ext.alloc (Ext.refl _) _)), hid (Row.new U2 #[.bool c.tag, .int .i64 c.base, .int .i64 c.top, .int .i64 c.at_, .int .i64 c.perms, .int .i64 c.type] 24), hid (HV.out.ext (Ext.alloc (Ext.refl _) _))⟩ ?_
                        rintro U3 ⟨HE2, HB, HV2⟩
                        obtain ⟨b1, hb1⟩ : ∃ x, U2.heap.size = x := ⟨_, rfl⟩
                        rw [hb1] at HB ⊢
                        have HNB := hid (show ∀ g, ((.slice Q2 (0 + at_) d2) : Value).ownBlock = some g → ¬ g = b1 from fun g e e2 => by have h9 := (HV.out.lt g e).2; omega)
                        clear HV
                        have HV := HV2
                        clear HV2
                        clear hb1 HE
                        have HE := HE2
                        clear HE2
                        refine step_act (by rfl) (fun K hK => ?_)
                        refine wp_app_row cap_len (by decide) cap_one Try.underlying22 info_capN (.tmp 72) (.tmp 74) rfl W4.heap.size _ _ _ rfl HV.out _ _ _ [(Cap.mk c.tag c.base c.top c.at_ c.perms c.type)] rfl rfl (rdF_row0 (f := Cap.cells) (z := (Cap.mk c.tag c.base c.top c.at_ c.perms c.type)) HB.out) (by unfold maxLen; omega) (by omega) HE.out.size ?_
                        intro v4 U4 hown hgrow hat
                        obtain ⟨Q4, d4, hv4, _, _⟩ := hown.shape
                        subst hv4
                        have HE2 := hid (Ext.only HE.out (grownOnly (S := fun i => W4.heap.size ≤ i) hgrow fun g e => (HV.out.lt g e).1) fun i hi => hi)
                        have HB2 := hid (HB.out.only (grownOnly (S := fun i => i ≠ b1) hgrow fun g e => HNB.out g e) fun e => e rfl)
                        have HNB2 := hid (show ∀ g, (Value.slice Q4 _ d4).ownBlock = some g → ¬ g = b1 from fun g e e2 => by
                          rcases hat with h' | ⟨g', h', h3⟩
                          · exact HNB.out g (h' ▸ e) e2
                          · rw [h'] at e
                            cases e
                            have h9 := HB.out.lt
                            omega)
                        clear HB HNB
                        have HB := HB2
                        have HNB := HNB2
                        clear HB2 HNB2
                        refine hK _ _ ⟨_, Ext.refl _, HE2.out, ?_⟩
                        clear hK K hgrow hat HV HE
                        have HV := hid hown
                        have HE := HE2
                        clear hown HE2
                        simp only [Act.put, List.setIfInBounds_toArray, List.set_cons_zero, List.set_cons_succ]
                        refine step_act (by rfl) (fun K hK => ?_)
                        refine wp_app_row cap_len (by decide) cap_one Try.underlying22 info_capN (.tmp 75) (.tmp 78) rfl W4.heap.size _ _ _ rfl HV.out _ _ _ (LL.drop at_) rfl (by rw [List.length_drop, HLN.out]; omega) (((HO7.out.rdF HLN.out).drop cap_len at_).ext HE.out) (by unfold maxLen; omega) (by omega) HE.out.size ?_
                        intro v5 U5 hown hgrow hat
                        obtain ⟨Q5, d5, hv5, _, _⟩ := hown.shape
                        subst hv5
                        have HE2 := hid (Ext.only HE.out (grownOnly (S := fun i => W4.heap.size ≤ i) hgrow fun g e => (HV.out.lt g e).1) fun i hi => hi)
                        refine hK _ _ ⟨_, Ext.refl _, HE2.out, ?_⟩
                        clear hK K hgrow hat HV HE
                        have HV := hid hown
                        have HE := HE2
                        clear hown HE2
                        simp only [Act.put, List.setIfInBounds_toArray, List.set_cons_zero, List.set_cons_succ]
                        refine step_read (by rfl) (fun K hK => ?_)
                        go_big_quiet_op
                        refine hK _ ?_
                        clear hK K
                        refine step_nil ?_
                        have HOf : Hid (ownsAt U5 w.heap.size 24 6 (.slice Q5 (0 + at_ + 1 + 0) d5) (mxL O (O.take (k + 1))).length (rowF Cap.cells (mxL O (O.take (k + 1))))) := hid (by
                          rw [HT2.out, show (insS (Cap.mk c.tag c.base c.top c.at_ c.perms c.type) LL).length = 0 + at_ + 1 + 0 by rw [ins_len, HLN.out]; omega, show rowF Cap.cells (insS (Cap.mk c.tag c.base c.top c.at_ c.perms c.type) LL) = (([] ++ rowF Cap.cells (LL.take at_)) ++ rowF Cap.cells [(Cap.mk c.tag c.base c.top c.at_ c.perms c.type)]) ++ rowF Cap.cells (LL.drop at_) by rw [← HIN.out, rowF_append, rowF_cons, rowF_one, List.nil_append, List.append_assoc]]
                          exact HV.out.weak HX7.out.size)
                        have HXf := hid (HX7.out.trans HE.out)
                        go_wp2
                        go_roundw
                        case rel => exact ⟨k + 1, by omega, by go_num, HOf, HXf⟩
                        case measure => simp [intOf]; omega
                      · refine step_act (by rfl) (fun K hK => ?_)
                        refine wp_build1 22 24 (.tmp 73) rfl #[.bool c.tag, .int .i64 c.base, .int .i64 c.top, .int .i64 c.at_, .int .i64 c.perms, .int .i64 c.type] 6 rfl rfl (by omega) (by omega) Try.underlying22 (by kernel_rfl) (by kernel_rfl) ?_
                        refine hK _ _ ⟨_, Ext.refl _, HE.out.trans (Ext.alloc (Ext.refl _) _), ?_⟩
                        clear hK K
                        refine step_gen (fun W => Hid (Ext W4 W) ∧ Hid (Row W U1.heap.size 0 (Cap.cells (Cap.mk c.tag c.base c.top c.at_ c.perms c.type))) ∧ Hid (ownsAt W W4.heap.size 24 6 (.slice (some ⟨W4.heap.size, 0, none⟩) 0 0) 0 [])) ⟨hid (HE.out.trans (Ext.alloc (Ext.refl _) _)), hid (Row.new U1 #[.bool c.tag, .int .i64 c.base, .int .i64 c.top, .int .i64 c.at_, .int .i64 c.perms, .int .i64 c.type] 24), hid (HV.out.ext (Ext.alloc (Ext.refl _) _))⟩ ?_
                        rintro U2 ⟨HE2, HB, HV2⟩
                        obtain ⟨b1, hb1⟩ : ∃ x, U1.heap.size = x := ⟨_, rfl⟩
                        rw [hb1] at HB ⊢
                        have HNB := hid (show ∀ g, ((.slice (some ⟨W4.heap.size, 0, none⟩) 0 0) : Value).ownBlock = some g → ¬ g = b1 from fun g e e2 => by have h9 := (HV.out.lt g e).2; omega)
                        clear HV
                        have HV := HV2
                        clear HV2
                        clear hb1 HE
                        have HE := HE2
                        clear HE2
                        refine step_act (by rfl) (fun K hK => ?_)
                        refine wp_app_row cap_len (by decide) cap_one Try.underlying22 info_capN (.tmp 68) (.tmp 71) rfl W4.heap.size _ _ _ rfl HV.out _ _ _ (LL.take at_) rfl (by rw [List.length_take, HLN.out]; omega) (((HO7.out.rdF HLN.out).take cap_len at_).ext HE.out) (by unfold maxLen; omega) (by omega) HE.out.size ?_
                        intro v3 U3 hown hgrow hat
                        obtain ⟨Q3, d3, hv3, _, _⟩ := hown.shape
                        subst hv3
                        have HE2 := hid (Ext.only HE.out (grownOnly (S := fun i => W4.heap.size ≤ i) hgrow fun g e => (HV.out.lt g e).1) fun i hi => hi)
                        have HB2 := hid (HB.out.only (grownOnly (S := fun i => i ≠ b1) hgrow fun g e => HNB.out g e) fun e => e rfl)
                        have HNB2 := hid (show ∀ g, (Value.slice Q3 _ d3).ownBlock = some g → ¬ g = b1 from fun g e e2 => by
                          rcases hat with h' | ⟨g', h', h3⟩
                          · exact HNB.out g (h' ▸ e) e2
                          · rw [h'] at e
                            cases e
                            have h9 := HB.out.lt
                            omega)
                        clear HB HNB
                        have HB := HB2
                        have HNB := HNB2
                        clear HB2 HNB2
                        refine hK _ _ ⟨_, Ext.refl _, HE2.out, ?_⟩
                        clear hK K hgrow hat HV HE
                        have HV := hid hown
                        have HE := HE2
                        clear hown HE2
                        simp only [Act.put, List.setIfInBounds_toArray, List.set_cons_zero, List.set_cons_succ]
                        refine step_act (by rfl) (fun K hK => ?_)
                        refine wp_app_row cap_len (by decide) cap_one Try.underlying22 info_capN (.tmp 72) (.tmp 74) rfl W4.heap.size _ _ _ rfl HV.out _ _ _ [(Cap.mk c.tag c.base c.top c.at_ c.perms c.type)] rfl rfl (rdF_row0 (f := Cap.cells) (z := (Cap.mk c.tag c.base c.top c.at_ c.perms c.type)) HB.out) (by unfold maxLen; omega) (by omega) HE.out.size ?_
                        intro v4 U4 hown hgrow hat
                        obtain ⟨Q4, d4, hv4, _, _⟩ := hown.shape
                        subst hv4
                        have HE2 := hid (Ext.only HE.out (grownOnly (S := fun i => W4.heap.size ≤ i) hgrow fun g e => (HV.out.lt g e).1) fun i hi => hi)
                        have HB2 := hid (HB.out.only (grownOnly (S := fun i => i ≠ b1) hgrow fun g e => HNB.out g e) fun e => e rfl)
                        have HNB2 := hid (show ∀ g, (Value.slice Q4 _ d4).ownBlock = some g → ¬ g = b1 from fun g e e2 => by
                          rcases hat with h' | ⟨g', h', h3⟩
                          · exact HNB.out g (h' ▸ e) e2
                          · rw [h'] at e
                            cases e
                            have h9 := HB.out.lt
                            omega)
                        clear HB HNB
                        have HB := HB2
                        have HNB := HNB2
                        clear HB2 HNB2
                        refine hK _ _ ⟨_, Ext.refl _, HE2.out, ?_⟩
                        clear hK K hgrow hat HV HE
                        have HV := hid hown
                        have HE := HE2
                        clear hown HE2
                        simp only [Act.put, List.setIfInBounds_toArray, List.set_cons_zero, List.set_cons_succ]
                        refine step_act (by rfl) (fun K hK => ?_)
                        refine wp_app_row cap_len (by decide) cap_one Try.underlying22 info_capN (.tmp 75) (.tmp 78) rfl W4.heap.size _ _ _ rfl HV.out _ _ _ (LL.drop at_) rfl (by rw [List.length_drop, HLN.out]; omega) (((HO7.out.rdF HLN.out).drop cap_len at_).ext HE.out) (by unfold maxLen; omega) (by omega) HE.out.size ?_
                        intro v5 U5 hown hgrow hat
                        obtain ⟨Q5, d5, hv5, _, _⟩ := hown.shape
                        subst hv5
                        have HE2 := hid (Ext.only HE.out (grownOnly (S := fun i => W4.heap.size ≤ i) hgrow fun g e => (HV.out.lt g e).1) fun i hi => hi)
                        refine hK _ _ ⟨_, Ext.refl _, HE2.out, ?_⟩
                        clear hK K hgrow hat HV HE
                        have HV := hid hown
                        have HE := HE2
                        clear hown HE2
                        simp only [Act.put, List.setIfInBounds_toArray, List.set_cons_zero, List.set_cons_succ]
                        refine step_read (by rfl) (fun K hK => ?_)
                        go_big_quiet_op
                        refine hK _ ?_
                        clear hK K
                        refine step_nil ?_
                        have HOf : Hid (ownsAt U5 w.heap.size 24 6 (.slice Q5 (0 + at_ + 1 + 0) d5) (mxL O (O.take (k + 1))).length (rowF Cap.cells (mxL O (O.take (k + 1))))) := hid (by
                          rw [HT2.out, show (insS (Cap.mk c.tag c.base c.top c.at_ c.perms c.type) LL).length = 0 + at_ + 1 + 0 by rw [ins_len, HLN.out]; omega, show rowF Cap.cells (insS (Cap.mk c.tag c.base c.top c.at_ c.perms c.type) LL) = (([] ++ rowF Cap.cells (LL.take at_)) ++ rowF Cap.cells [(Cap.mk c.tag c.base c.top c.at_ c.perms c.type)]) ++ rowF Cap.cells (LL.drop at_) by rw [← HIN.out, rowF_append, rowF_cons, rowF_one, List.nil_append, List.append_assoc]]
                          exact HV.out.weak HX7.out.size)
                        have HXf := hid (HX7.out.trans HE.out)
                        go_wp2
                        go_roundw
                        case rel => exact ⟨k + 1, by omega, by go_num, HOf, HXf⟩
                        case measure => simp [intOf]; omega
                    · have HE := hid (Ext.refl W4)
                      refine step_act (by rfl) (fun K hK => ?_)
                      refine wp_build1 22 24 (.tmp 73) rfl #[.bool c.tag, .int .i64 c.base, .int .i64 c.top, .int .i64 c.at_, .int .i64 c.perms, .int .i64 c.type] 6 rfl rfl (by omega) (by omega) Try.underlying22 (by kernel_rfl) (by kernel_rfl) ?_
                      refine hK _ _ ⟨_, Ext.refl _, HE.out.trans (Ext.alloc (Ext.refl _) _), ?_⟩
                      clear hK K
                      refine step_gen (fun W => Hid (Ext W4 W) ∧ Hid (Row W W4.heap.size 0 (Cap.cells (Cap.mk c.tag c.base c.top c.at_ c.perms c.type)))) ⟨hid (HE.out.trans (Ext.alloc (Ext.refl _) _)), hid (Row.new W4 #[.bool c.tag, .int .i64 c.base, .int .i64 c.top, .int .i64 c.at_, .int .i64 c.perms, .int .i64 c.type] 24)⟩ ?_
                      rintro U1 ⟨HE2, HB⟩
                      obtain ⟨b1, hb1⟩ : ∃ x, W4.heap.size = x := ⟨_, rfl⟩
                      rw [hb1] at HB ⊢
                      clear hb1 HE
                      have HE := HE2
                      clear HE2
                      refine step_act (by rfl) (fun K hK => ?_)
                      refine wp_build0 rfl ?_
                      refine hK _ _ ⟨_, Ext.refl _, HE.out.trans (Ext.alloc (Ext.refl _) _), ?_⟩
                      clear hK K
                      refine step_gen (fun W => Hid (Ext W4 W) ∧ Hid (ownsAt W W4.heap.size 24 6 (.slice (some ⟨U1.heap.size, 0, none⟩) 0 0) 0 []) ∧ Hid (Row W b1 0 (Cap.cells (Cap.mk c.tag c.base c.top c.at_ c.perms c.type)))) ⟨hid (HE.out.trans (Ext.alloc (Ext.refl _) _)), hid ((own0 U1).weak HE.out.size), hid (HB.out.ext (Ext.alloc (Ext.refl _) _))⟩ ?_
                      rintro U2 ⟨HE2, HV, HB2⟩
                      have HNB := hid (show ∀ g, (Value.slice (some ⟨U1.heap.size, 0, none⟩) 0 0).ownBlock = some g → ¬ g = b1 from fun g e e2 => by (have h9 := HB.out.lt; simp only [Value.ownBlock, Option.some.injEq] at e; omega))
                      clear HB
                      have HB := HB2
                      clear HB2
                      clear HE
                      have HE := HE2
                      clear HE2
                      refine step_act (by rfl) (fun K hK => ?_)
                      refine wp_app_row cap_len (by decide) cap_one Try.underlying22 info_capN (.tmp 68) (.tmp 71) rfl W4.heap.size _ _ _ rfl HV.out _ _ _ (LL.take at_) rfl (by rw [List.length_take, HLN.out]; omega) (((HO7.out.rdF HLN.out).take cap_len at_).ext HE.out) (by unfold maxLen; omega) (by omega) HE.out.size ?_
                      intro v3 U3 hown hgrow hat
                      obtain ⟨Q3, d3, hv3, _, _⟩ := hown.shape
                      subst hv3
                      have HE2 := hid (Ext.only HE.out (grownOnly (S := fun i => W4.heap.size ≤ i) hgrow fun g e => (HV.out.lt g e).1) fun i hi => hi)
                      have HB2 := hid (HB.out.only (grownOnly (S := fun i => i ≠ b1) hgrow fun g e => HNB.out g e) fun e => e rfl)
                      have HNB2 := hid (show ∀ g, (Value.slice Q3 _ d3).ownBlock = some g → ¬ g = b1 from fun g e e2 => by
                        rcases hat with h' | ⟨g', h', h3⟩
                        · exact HNB.out g (h' ▸ e) e2
                        · rw [h'] at e
                          cases e
                          have h9 := HB.out.lt
                          omega)
                      clear HB HNB
                      have HB := HB2
                      have HNB := HNB2
                      clear HB2 HNB2
                      refine hK _ _ ⟨_, Ext.refl _, HE2.out, ?_⟩
                      clear hK K hgrow hat HV HE
                      have HV := hid hown
                      have HE := HE2
                      clear hown HE2
                      simp only [Act.put, List.setIfInBounds_toArray, List.set_cons_zero, List.set_cons_succ]
                      refine step_act (by rfl) (fun K hK => ?_)
                      refine wp_app_row cap_len (by decide) cap_one Try.underlying22 info_capN (.tmp 72) (.tmp 74) rfl W4.heap.size _ _ _ rfl HV.out _ _ _ [(Cap.mk c.tag c.base c.top c.at_ c.perms c.type)] rfl rfl (rdF_row0 (f := Cap.cells) (z := (Cap.mk c.tag c.base c.top c.at_ c.perms c.type)) HB.out) (by unfold maxLen; omega) (by omega) HE.out.size ?_
                      intro v4 U4 hown hgrow hat
                      obtain ⟨Q4, d4, hv4, _, _⟩ := hown.shape
                      subst hv4
                      have HE2 := hid (Ext.only HE.out (grownOnly (S := fun i => W4.heap.size ≤ i) hgrow fun g e => (HV.out.lt g e).1) fun i hi => hi)
                      have HB2 := hid (HB.out.only (grownOnly (S := fun i => i ≠ b1) hgrow fun g e => HNB.out g e) fun e => e rfl)
                      have HNB2 := hid (show ∀ g, (Value.slice Q4 _ d4).ownBlock = some g → ¬ g = b1 from fun g e e2 => by
                        rcases hat with h' | ⟨g', h', h3⟩
                        · exact HNB.out g (h' ▸ e) e2
                        · rw [h'] at e
                          cases e
                          have h9 := HB.out.lt
                          omega)
                      clear HB HNB
                      have HB := HB2
                      have HNB := HNB2
                      clear HB2 HNB2
                      refine hK _ _ ⟨_, Ext.refl _, HE2.out, ?_⟩
                      clear hK K hgrow hat HV HE
                      have HV := hid hown
                      have HE := HE2
                      clear hown HE2
                      simp only [Act.put, List.setIfInBounds_toArray, List.set_cons_zero, List.set_cons_succ]
                      refine step_act (by rfl) (fun K hK => ?_)
                      refine wp_app_row cap_len (by decide) cap_one Try.underlying22 info_capN (.tmp 75) (.tmp 78) rfl W4.heap.size _ _ _ rfl HV.out _ _ _ (LL.drop at_) rfl (by rw [List.length_drop, HLN.out]; omega) (((HO7.out.rdF HLN.out).drop cap_len at_).ext HE.out) (by unfold maxLen; omega) (by omega) HE.out.size ?_
                      intro v5 U5 hown hgrow hat
                      obtain ⟨Q5, d5, hv5, _, _⟩ := hown.shape
                      subst hv5
                      have HE2 := hid (Ext.only HE.out (grownOnly (S := fun i => W4.heap.size ≤ i) hgrow fun g e => (HV.out.lt g e).1) fun i hi => hi)
                      refine hK _ _ ⟨_, Ext.refl _, HE2.out, ?_⟩
                      clear hK K hgrow hat HV HE
                      have HV := hid hown
                      have HE := HE2
                      clear hown HE2
                      simp only [Act.put, List.setIfInBounds_toArray, List.set_cons_zero, List.set_cons_succ]
                      refine step_read (by rfl) (fun K hK => ?_)
                      go_big_quiet_op
                      refine hK _ ?_
                      clear hK K
                      refine step_nil ?_
                      have HOf : Hid (ownsAt U5 w.heap.size 24 6 (.slice Q5 (0 + at_ + 1 + 0) d5) (mxL O (O.take (k + 1))).length (rowF Cap.cells (mxL O (O.take (k + 1))))) := hid (by
                        rw [HT2.out, show (insS (Cap.mk c.tag c.base c.top c.at_ c.perms c.type) LL).length = 0 + at_ + 1 + 0 by rw [ins_len, HLN.out]; omega, show rowF Cap.cells (insS (Cap.mk c.tag c.base c.top c.at_ c.perms c.type) LL) = (([] ++ rowF Cap.cells (LL.take at_)) ++ rowF Cap.cells [(Cap.mk c.tag c.base c.top c.at_ c.perms c.type)]) ++ rowF Cap.cells (LL.drop at_) by rw [← HIN.out, rowF_append, rowF_cons, rowF_one, List.nil_append, List.append_assoc]]
                        exact HV.out.weak HX7.out.size)
                      have HXf := hid (HX7.out.trans HE.out)
                      go_wp2
                      go_roundw
                      case rel => exact ⟨k + 1, by omega, by go_num, HOf, HXf⟩
                      case measure => simp [intOf]; omega
    · obtain rfl : n = k := by omega
      have hk1 : ¬ (n : Int) < (n : Int) := by omega
      rw [show O.take n = O from List.take_of_length_le (by rw [HN.out]; exact Nat.le_refl _)] at HOU ⊢
      go_wp2
      go_ret
      exact ⟨Av, cv, mxL O O, rfl, hid (mx_grt HNR.out HND.out), hid (HOU.out.rdF rfl), hid (mx_len (O := O) HNR.out HND.out), HX⟩

end Go.Proofs.Ytlapemeoffpmgaa
