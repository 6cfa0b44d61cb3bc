/- Layer 6: the walk of ClosMore. -/
import Derived.Test.YtlapemeoffpmgaaCloLr
namespace Go.Proofs.Ytlapemeoffpmgaa
set_option linter.unusedSimpArgs false
set_option linter.unusedVariables false
open Go.RowKit

theorem run_b0 (w : World) : (Instr.buildSlice 22 0 #[]).run Try.prog w = .ok (.slice (some ⟨w.heap.size, 0, none⟩) 0 0) (w.alloc (.cells #[] 24)) := by kernel_rfl
theorem wp_build0 {o : Oper} {a : Act} {w : World} {K : Act → World → Prop} {Q : Exit → Act → World → Prop} (ho : o.op = .buildSlice 22 0 #[])
    (h : K (a.put o.dst (.slice (some ⟨w.heap.size, 0, none⟩) 0 0)) (w.alloc (.cells #[] 24))) : o.wp Try.prog a w K Q := by
  unfold Oper.wp execOp
  simp only [ho, Sem.run_bind, List.map_toArray, List.map_nil, run_b0, Result.andThen_ok]
  exact h
theorem own0 (w : World) : ownsAt (w.alloc (.cells #[] 24)) w.heap.size 24 6 (.slice (some ⟨w.heap.size, 0, none⟩) 0 0) 0 [] :=
  ⟨rfl, .inr ⟨w.heap.size, 0, 0, #[], by simp, Nat.le_refl _, World.alloc_heap_new w _, Nat.le_refl _, by unfold maxLen; omega, .inl rfl, by simp⟩⟩
namespace closMore
set_option linter.unusedSimpArgs false
set_option linter.unusedVariables false
set_option maxRecDepth 100000 in
set_option maxHeartbeats 8000000 in
theorem walk (A0 : Option Addr) (cap0 : Nat) (zs0 : List Cap) (A1 : Option Addr) (cap1 : Nat) (zs1 : List Cap) (t2 : Bool) (b2 tp2 at2 pm2 ty2 : Int) (w : World) (wl0 : zs0.length ≤ maxLen) (hs0 : SlAtN w A0 6 (zs0.map Cap.cells)) (wz0 : ∀ z ∈ zs0, wfC z) (wr0 : zs0.length * 48 ≤ 140737488351232) (wl1 : zs1.length ≤ maxLen) (hs1 : SlAtN w A1 6 (zs1.map Cap.cells)) (wz1 : ∀ z ∈ zs1, wfC z) (wr1 : zs1.length * 48 ≤ 140737488351232) (wb2 : (Lit.int .i64 b2).wf = true) (wtp2 : (Lit.int .i64 tp2).wf = true) (wat2 : (Lit.int .i64 at2).wf = true) (wpm2 : (Lit.int .i64 pm2).wf = true) (wty2 : (Lit.int .i64 ty2).wf = true) :
    Calls Try.prog 6 #[.slice A0 zs0.length cap0, .slice A1 zs1.length cap1, .agg #[.bool t2, .int .i64 b2, .int .i64 tp2, .int .i64 at2, .int .i64 pm2, .int .i64 ty2]] w fun e w' => e = .returned (.bool true) ∧ Ext w w' := by
  have HA := hid (rdF_of cap_len (by decide) hs0)
  have HA1 := hid (rdF_of cap_len (by decide) hs1)
  clear hs0 hs1
  obtain ⟨m, hm⟩ : ∃ x, zs0.length = x := ⟨_, rfl⟩
  obtain ⟨m1, hm1⟩ : ∃ x, zs1.length = x := ⟨_, rfl⟩
  rw [hm] at wr0 ⊢
  rw [hm1] at wr1 ⊢
  have HM := hid hm
  have HM1 := hid hm1
  clear hm hm1 wl0 wl1
  by_cases hb : 40 < m + m1
  · have hb1 : (40 : Int) < (m : Int) + (m1 : Int) := by omega
    go_enter Try.func6, Try.ntmps6
    go_upto_region 1 with (fail)
    refine wp_gen (fun V => Hid (Ext w V) ∧ Hid (Row V (w.heap.size) 0 (Cap.cells (Cap.mk t2 b2 tp2 at2 pm2 ty2)))) ⟨hid (by repeat (first | (with_reducible exact Ext.refl _) | (with_reducible refine Ext.undrew ?_) | (with_reducible refine Ext.grow ?_ _) | (with_reducible refine Ext.drew ?_) | (with_reducible refine Ext.drewN ?_ _) | (with_reducible refine Ext.alloc ?_ _) | (with_reducible assumption) | ((with_reducible refine Ext.setCell ?_ ?_ _); rotate_left; (first | exact Nat.le_refl _ | ((try dsimp only); (try simp only [World.size_alloc, grow_size, World.size_setCell]); omega))))), hid (by have h9 := (Row.new w #[.bool t2, .int .i64 b2, .int .i64 tp2, .int .i64 at2, .int .i64 pm2, .int .i64 ty2] 24); exact h9)⟩ ?_
    rintro V ⟨HB, HR2⟩
    generalize w.heap.size = x1 at HR2 ⊢
    go_wp2_with fail
    refine (head_ _).mono ?_
    rintro e W1 ⟨rfl, hx⟩
    go_wp2
    go_ret
    exact ⟨rfl, HB.out.trans hx⟩
  · have hb1 : ¬ (40 : Int) < (m : Int) + (m1 : Int) := by omega
    go_enter Try.func6, Try.ntmps6
    go_upto_region 1 with (fail)
    refine wp_gen (fun V => Hid (Ext w V) ∧ Hid (Row V (w.heap.size) 0 (Cap.cells (Cap.mk t2 b2 tp2 at2 pm2 ty2)))) ⟨hid (by repeat (first | (with_reducible exact Ext.refl _) | (with_reducible refine Ext.undrew ?_) | (with_reducible refine Ext.grow ?_ _) | (with_reducible refine Ext.drew ?_) | (with_reducible refine Ext.drewN ?_ _) | (with_reducible refine Ext.alloc ?_ _) | (with_reducible assumption) | ((with_reducible refine Ext.setCell ?_ ?_ _); rotate_left; (first | exact Nat.le_refl _ | ((try dsimp only); (try simp only [World.size_alloc, grow_size, World.size_setCell]); omega))))), hid (by have h9 := (Row.new w #[.bool t2, .int .i64 b2, .int .i64 tp2, .int .i64 at2, .int .i64 pm2, .int .i64 ty2] 24); exact h9)⟩ ?_
    rintro V ⟨HB, HR2⟩
    generalize w.heap.size = x1 at HR2 ⊢
    go_wp2_with fail
    refine (head_ _).mono ?_
    rintro e W1 ⟨rfl, hx1⟩
    go_wp2_with fail
    refine (sNew A0 m cap0 zs0 _ (HA.out.ext (HB.out.trans hx1)) HM.out (by omega)).mono ?_
    rintro e W2 ⟨s, out, rfl, HS, HG, hx2⟩
    have HE2 := hid (hx1.trans hx2)
    clear hx1 hx2
    have HA0w := hid (HA.out.ext (HB.out.trans HE2.out))
    have HA1w := hid (HA1.out.ext (HB.out.trans HE2.out))
    have hmm : m + m1 ≤ 40 := by omega
    go_wp2_with (first | (refine wpList_plain rfl fun K hK => ?_; refine wp_build0 rfl ?_; refine hK _ _ ?_; clear hK K) | (at_builtin; refine wpList_plain rfl fun K hK => ?_; refine wp_app_row cap_len (by decide) cap_one Try.underlying22 info_capN _ _ rfl W2.heap.size (.slice (some ⟨W2.heap.size, 0, none⟩) 0 0) 0 [] rfl (own0 W2) A0 m cap0 zs0 rfl HM.out (HA0w.out.ext (Ext.alloc (Ext.refl _) _)) (by unfold maxLen; omega) (by omega) (by simp) ?_; intro v7 W7 hown hgrow hat; obtain ⟨A7, c7, rfl, _, _⟩ := hown.shape; have HE7 := hid (Ext.only (Ext.alloc (Ext.refl W2) _) (grownOnly (S := fun i => W2.heap.size ≤ i) hgrow (fun g e => ((own0 W2).lt g e).1)) (fun i hi => hi)); rw [Nat.zero_add, List.nil_append] at hown; have HO7 := hid hown; refine hK _ _ ?_; clear hK K hown hgrow hat; simp only [Nat.zero_add]) | (at_builtin; refine wpList_plain rfl fun K hK => ?_; refine wp_app_row cap_len (by decide) cap_one Try.underlying22 info_capN _ _ rfl W2.heap.size (.slice A7 m c7) m (rowF Cap.cells zs0) rfl HO7.out A1 m1 cap1 zs1 rfl HM1.out (HA1w.out.ext HE7.out) (by unfold maxLen; omega) (by omega) HE7.out.size ?_; intro v8 W8 hown hgrow hat; obtain ⟨A8, c8, rfl, _, _⟩ := hown.shape; have HE8 := hid (Ext.only HE7.out (grownOnly (S := fun i => W2.heap.size ≤ i) hgrow (fun g e => (HO7.out.lt g e).1)) (fun i hi => hi)); rw [← rowF_append] at hown; have HO8 := hid hown; refine hK _ _ ?_; clear hK K hown hgrow hat))
    have hml : (zs0 ++ zs1).length = m + m1 := by rw [List.length_append, HM.out, HM1.out]
    refine (sNew A8 (m + m1) c8 (zs0 ++ zs1) W8 (HO8.out.rdF hml) hml (by omega)).mono ?_
    rintro e W9 ⟨s2, out2, rfl, HS2, HG2, hx9⟩
    have HS9 := hid (HS.out.ext (HE8.out.trans hx9))
    have HE9 := hid (HE2.out.trans (HE8.out.trans hx9))
    clear HS HE2 HE7 HE8 HO7 HO8 hx9 hml
    obtain ⟨p0, p1, p2, p3, p4, p5, p6⟩ := Row.six (c := (Cap.mk t2 b2 tp2 at2 pm2 ty2)) (HR2.out.ext HE9.out)
    simp only [Nat.zero_add] at p2 p3 p4 p5 p6
    go_wp2_with fail
    refine (sHas t2 b2 tp2 at2 pm2 ty2 _ HS9.out).mono ?_
    rintro e W10 ⟨he, hx⟩
    have HE10 := hid (HE9.out.trans hx)
    have HT10 := hid (HS2.out.ext hx)
    clear hx HS9 HE9 HS2
    clear p0 p1 p2 p3 p4 p5 p6
    cases h1 : hv zs0 (Cap.mk t2 b2 tp2 at2 pm2 ty2) with
    | false =>
      rw [h1] at he
      subst he
      go_wp2
      go_ret
      exact ⟨rfl, HB.out.trans HE10.out⟩
    | true =>
      rw [h1] at he
      subst he
      have HLs := hid (show (!t2 || zs0.any (fun g : Cap => g.tag && (rightC g && underC (Cap.mk t2 b2 tp2 at2 pm2 ty2) g))) = true by
        cases ht : t2 with
        | false => rfl
        | true => subst ht; exact hv_less h1 rfl)
      have HMo := hid (show hv (zs0 ++ zs1) (Cap.mk t2 b2 tp2 at2 pm2 ty2) = true from hv_more (fun x hx => List.mem_append_left _ hx) h1)
      clear h1
      obtain ⟨p0, p1, p2, p3, p4, p5, p6⟩ := Row.six (c := (Cap.mk t2 b2 tp2 at2 pm2 ty2)) (HR2.out.ext HE10.out)
      simp only [Nat.zero_add] at p2 p3 p4 p5 p6
      go_wp2
      go_loopw [10, 11] (fun b i wr => ∃ k : Nat, k ≤ m ∧ i = .int .i64 k ∧ b = .bool (!t2 || (zs0.take k).any (fun g : Cap => g.tag && (rightC g && underC (Cap.mk t2 b2 tp2 at2 pm2 ty2) g))) ∧ Hid (Ext W10 wr)) (fun _ i _ => m - (intOf i).toNat)
      case atStart => exact ⟨0, Nat.zero_le _, rfl, by simp, hid (Ext.refl _)⟩
      case round =>
        clear p0 p1 p2 p3 p4 p5 p6
        obtain ⟨k, hk, rfl, rfl, HX⟩ := hrel
        have hk0 : (0 : Int) ≤ (k : Int) := by omega
        have HXa := hid (HE10.out.trans HX.out)
        obtain ⟨p0, p1, p2, p3, p4, p5, p6⟩ := Row.six (c := (Cap.mk t2 b2 tp2 at2 pm2 ty2)) (HR2.out.ext HXa.out)
        simp only [Nat.zero_add] at p2 p3 p4 p5 p6
        by_cases hlt : k < m
        · have hk1 : (k : Int) < (m : Int) := by omega
          have hkl : k < zs0.length := by rw [HM.out]; exact hlt
          obtain ⟨d, hd⟩ : ∃ d, zs0[k] = d := ⟨_, rfl⟩
          have HV := hid (show (!t2 || (zs0.take (k + 1)).any (fun g : Cap => g.tag && (rightC g && underC (Cap.mk t2 b2 tp2 at2 pm2 ty2) g))) = ((!t2 || (zs0.take k).any (fun g : Cap => g.tag && (rightC g && underC (Cap.mk t2 b2 tp2 at2 pm2 ty2) g))) || (d.tag && (rightC d && underC (Cap.mk t2 b2 tp2 at2 pm2 ty2) d))) by rw [List.take_succ_eq_append_getElem hkl, List.any_append, hd, ← Bool.or_assoc]; simp)
          generalize (!t2 || (zs0.take k).any (fun g : Cap => g.tag && (rightC g && underC (Cap.mk t2 b2 tp2 at2 pm2 ty2) g))) = v at HV ⊢
          obtain ⟨b', o', rfl, hb1', q0, q1, q2, q3, q4, q5⟩ := (HA.out.ext (HB.out.trans HXa.out)).cap hkl d hd
          clear hd
          cases v with
          | true =>
            go_upto_region 14 with (fail)
            refine wp_region_grow (by kernel_rfl) (by kernel_rfl) (by first | (simp only [List.append]; rfl) | rfl) ?_
            (repeat (go_big_quiet_step (fail)))
            refine wpQuiet_nil ?_
            intro wq hq
            obtain ⟨dq, rfl⟩ := hq
            go_wp2
            go_roundw
            case rel => exact ⟨k + 1, by omega, by go_num, by rw [HV.out]; rfl, hid (HX.out.trans (by repeat (first | (with_reducible exact Ext.refl _) | (with_reducible refine Ext.undrew ?_) | (with_reducible refine Ext.grow ?_ _) | (with_reducible refine Ext.drew ?_) | (with_reducible refine Ext.drewN ?_ _) | (with_reducible refine Ext.alloc ?_ _) | (with_reducible assumption) | ((with_reducible refine Ext.setCell ?_ ?_ _); rotate_left; (first | exact Nat.le_refl _ | ((try dsimp only); (try simp only [World.size_alloc, grow_size, World.size_setCell]); omega))))))⟩
            case measure => simp [intOf]; omega
          | false =>
            cases hdt : d.tag with
            | false =>
              rw [hdt] at q0 HV
              go_upto_region 14 with (fail)
              refine wp_region_grow (by kernel_rfl) (by kernel_rfl) (by first | (simp only [List.append]; rfl) | rfl) ?_
              (repeat (go_big_quiet_step (fail)))
              refine wpQuiet_nil ?_
              intro wq hq
              obtain ⟨dq, rfl⟩ := hq
              go_wp2
              go_roundw
              case rel => exact ⟨k + 1, by omega, by go_num, by rw [HV.out]; rfl, hid (HX.out.trans (by repeat (first | (with_reducible exact Ext.refl _) | (with_reducible refine Ext.undrew ?_) | (with_reducible refine Ext.grow ?_ _) | (with_reducible refine Ext.drew ?_) | (with_reducible refine Ext.drewN ?_ _) | (with_reducible refine Ext.alloc ?_ _) | (with_reducible assumption) | ((with_reducible refine Ext.setCell ?_ ?_ _); rotate_left; (first | exact Nat.le_refl _ | ((try dsimp only); (try simp only [World.size_alloc, grow_size, World.size_setCell]); omega))))))⟩
              case measure => simp [intOf]; omega
            | true =>
              have HRI : Hid (∀ W, Ext wr W → Calls Try.prog 22 #[.agg #[.bool true, .int .i64 d.base, .int .i64 d.top, .int .i64 d.at_, .int .i64 d.perms, .int .i64 d.type]] W fun e w' => e = .returned (.bool (rightC d)) ∧ Ext W w') := hid (fun W _ => by
                have h9 := rcapRight d.tag d.base d.top d.at_ d.perms d.type W
                rw [hdt] at h9
                have e9 : (Cap.mk true d.base d.top d.at_ d.perms d.type) = d := by rw [← hdt]
                rw [e9] at h9
                exact h9)
              have HUI : Hid (∀ W, Ext wr W → Calls Try.prog 23 #[.agg #[.bool t2, .int .i64 b2, .int .i64 tp2, .int .i64 at2, .int .i64 pm2, .int .i64 ty2], .agg #[.bool true, .int .i64 d.base, .int .i64 d.top, .int .i64 d.at_, .int .i64 d.perms, .int .i64 d.type]] W fun e w' => e = .returned (.bool (underC (Cap.mk t2 b2 tp2 at2 pm2 ty2) d)) ∧ Ext W w') := hid (fun W _ => by
                have h9 := rcapUnder t2 b2 tp2 at2 pm2 ty2 d.tag d.base d.top d.at_ d.perms d.type W
                rw [hdt, underR_under] at h9
                have e9 : (Cap.mk true d.base d.top d.at_ d.perms d.type) = d := by rw [← hdt]
                rw [e9] at h9
                exact h9)
              rw [hdt] at q0 HV
              clear hdt
              generalize rightC d = vr at HRI HV
              generalize underC (Cap.mk t2 b2 tp2 at2 pm2 ty2) d = vu at HUI HV
              cases vr with
              | false =>
                go_upto_region 14 with (fail)
                refine wp_region_grow (by kernel_rfl) (by kernel_rfl) (by first | (simp only [List.append]; rfl) | rfl) ?_
                (repeat (go_big_quiet_step ((go_at_call 22; exact growOf (HRI.out _ (by repeat (first | (with_reducible exact Ext.refl _) | (with_reducible refine Ext.undrew ?_) | (with_reducible refine Ext.grow ?_ _) | (with_reducible refine Ext.drew ?_) | (with_reducible refine Ext.drewN ?_ _) | (with_reducible refine Ext.alloc ?_ _) | (with_reducible assumption) | ((with_reducible refine Ext.setCell ?_ ?_ _); rotate_left; (first | exact Nat.le_refl _ | ((try dsimp only); (try simp only [World.size_alloc, grow_size, World.size_setCell]); omega))))))))))
                refine wpQuiet_nil ?_
                intro wq hq
                obtain ⟨dq, rfl⟩ := hq
                go_wp2
                go_roundw
                case rel => exact ⟨k + 1, by omega, by go_num, by rw [HV.out]; rfl, hid (HX.out.trans (by repeat (first | (with_reducible exact Ext.refl _) | (with_reducible refine Ext.undrew ?_) | (with_reducible refine Ext.grow ?_ _) | (with_reducible refine Ext.drew ?_) | (with_reducible refine Ext.drewN ?_ _) | (with_reducible refine Ext.alloc ?_ _) | (with_reducible assumption) | ((with_reducible refine Ext.setCell ?_ ?_ _); rotate_left; (first | exact Nat.le_refl _ | ((try dsimp only); (try simp only [World.size_alloc, grow_size, World.size_setCell]); omega))))))⟩
                case measure => simp [intOf]; omega
              | true =>
                cases vu with
                | false =>
                  go_upto_region 14 with (fail)
                  refine wp_region_grow (by kernel_rfl) (by kernel_rfl) (by first | (simp only [List.append]; rfl) | rfl) ?_
                  (repeat (go_big_quiet_step ((first | (go_at_call 22; exact growOf (HRI.out _ (by repeat (first | (with_reducible exact Ext.refl _) | (with_reducible refine Ext.undrew ?_) | (with_reducible refine Ext.grow ?_ _) | (with_reducible refine Ext.drew ?_) | (with_reducible refine Ext.drewN ?_ _) | (with_reducible refine Ext.alloc ?_ _) | (with_reducible assumption) | ((with_reducible refine Ext.setCell ?_ ?_ _); rotate_left; (first | exact Nat.le_refl _ | ((try dsimp only); (try simp only [World.size_alloc, grow_size, World.size_setCell]); omega))))))) | (go_at_call 23; exact growOf (HUI.out _ (by repeat (first | (with_reducible exact Ext.refl _) | (with_reducible refine Ext.undrew ?_) | (with_reducible refine Ext.grow ?_ _) | (with_reducible refine Ext.drew ?_) | (with_reducible refine Ext.drewN ?_ _) | (with_reducible refine Ext.alloc ?_ _) | (with_reducible assumption) | ((with_reducible refine Ext.setCell ?_ ?_ _); rotate_left; (first | exact Nat.le_refl _ | ((try dsimp only); (try simp only [World.size_alloc, grow_size, World.size_setCell]); omega)))))))))))
                  refine wpQuiet_nil ?_
                  intro wq hq
                  obtain ⟨dq, rfl⟩ := hq
                  go_wp2
                  go_roundw
                  case rel => exact ⟨k + 1, by omega, by go_num, by rw [HV.out]; rfl, hid (HX.out.trans (by repeat (first | (with_reducible exact Ext.refl _) | (with_reducible refine Ext.undrew ?_) | (with_reducible refine Ext.grow ?_ _) | (with_reducible refine Ext.drew ?_) | (with_reducible refine Ext.drewN ?_ _) | (with_reducible refine Ext.alloc ?_ _) | (with_reducible assumption) | ((with_reducible refine Ext.setCell ?_ ?_ _); rotate_left; (first | exact Nat.le_refl _ | ((try dsimp only); (try simp only [World.size_alloc, grow_size, World.size_setCell]); omega))))))⟩
                  case measure => simp [intOf]; omega
                | true =>
                  go_upto_region 14 with (fail)
                  refine wp_region_grow (by kernel_rfl) (by kernel_rfl) (by first | (simp only [List.append]; rfl) | rfl) ?_
                  (repeat (go_big_quiet_step ((first | (go_at_call 22; exact growOf (HRI.out _ (by repeat (first | (with_reducible exact Ext.refl _) | (with_reducible refine Ext.undrew ?_) | (with_reducible refine Ext.grow ?_ _) | (with_reducible refine Ext.drew ?_) | (with_reducible refine Ext.drewN ?_ _) | (with_reducible refine Ext.alloc ?_ _) | (with_reducible assumption) | ((with_reducible refine Ext.setCell ?_ ?_ _); rotate_left; (first | exact Nat.le_refl _ | ((try dsimp only); (try simp only [World.size_alloc, grow_size, World.size_setCell]); omega))))))) | (go_at_call 23; exact growOf (HUI.out _ (by repeat (first | (with_reducible exact Ext.refl _) | (with_reducible refine Ext.undrew ?_) | (with_reducible refine Ext.grow ?_ _) | (with_reducible refine Ext.drew ?_) | (with_reducible refine Ext.drewN ?_ _) | (with_reducible refine Ext.alloc ?_ _) | (with_reducible assumption) | ((with_reducible refine Ext.setCell ?_ ?_ _); rotate_left; (first | exact Nat.le_refl _ | ((try dsimp only); (try simp only [World.size_alloc, grow_size, World.size_setCell]); omega)))))))))))
                  refine wpQuiet_nil ?_
                  intro wq hq
                  obtain ⟨dq, rfl⟩ := hq
                  go_wp2
                  go_roundw
                  case rel => exact ⟨k + 1, by omega, by go_num, by rw [HV.out]; rfl, hid (HX.out.trans (by repeat (first | (with_reducible exact Ext.refl _) | (with_reducible refine Ext.undrew ?_) | (with_reducible refine Ext.grow ?_ _) | (with_reducible refine Ext.drew ?_) | (with_reducible refine Ext.drewN ?_ _) | (with_reducible refine Ext.alloc ?_ _) | (with_reducible assumption) | ((with_reducible refine Ext.setCell ?_ ?_ _); rotate_left; (first | exact Nat.le_refl _ | ((try dsimp only); (try simp only [World.size_alloc, grow_size, World.size_setCell]); omega))))))⟩
                  case measure => simp [intOf]; omega
        · obtain rfl : k = m := by omega
          have hk1 : ¬ (k : Int) < (k : Int) := by omega
          rw [show zs0.take k = zs0 from List.take_of_length_le (by rw [HM.out]; exact Nat.le_refl _), HLs.out]
          go_wp2_with fail
          refine (sHas t2 b2 tp2 at2 pm2 ty2 _ (HT10.out.ext HX.out)).mono ?_
          rintro e W11 ⟨he, hx⟩
          rw [HMo.out] at he
          subst he
          have HX11 := hid (HX.out.trans hx)
          clear hx
          clear p0 p1 p2 p3 p4 p5 p6
          go_wp2
          go_ret
          exact ⟨rfl, HB.out.trans (HE10.out.trans HX11.out)⟩
end closMore

end Go.Proofs.Ytlapemeoffpmgaa
