/- Layer 6: clos.New. -/
import Derived.Test.YtlapemeoffpmgaaCloNa
import Derived.Deep.RegionHeld3
import Derived.RangeFuncNested
import Derived.RangeFuncBound
import Derived.RangeFuncCalls
import Derived.RangeFuncLeaves
import Derived.Shelf.Abstract
import Derived.Shelf.RegionOpen
import Derived.WalkKit
import Derived.OwnWalkIn
import Derived.TacticsInMore
import Derived.LoopNIn
import Derived.LoopIn
namespace Go.Proofs.Ytlapemeoffpmgaa
set_option linter.unusedSimpArgs false
set_option linter.unusedVariables false
open Go.RowKit

attribute [local go_sem] Oper.semAt_some
set_option maxRecDepth 100000 in
set_option maxHeartbeats 4000000 in
theorem cnew_ (m ca : Nat) (A : Option Addr) (l : List Cap) (w : World) (hA : RdF Cap.cells w A l) (hm : l.length = m) (hm1 : m ≤ 1000) : Calls Try.prog 11 #[.slice A m ca] w fun e w' => ∃ s A cg B co out, e = .returned (.pointer (some ⟨s, 0, none⟩)) ∧ Hid (ClS w' s A cg (grantsC l) B co out) ∧ Hid (GrtL (Opn (grantsC l)) out) ∧ Hid (B = none → co = 0) ∧ Hid (Ext w w') ∧ Hid (out.length ≤ m + 1) := by
  refine (callsIn_wide (n := 6)).1 ?_
  refine callsIn_of_wp_marks Try.func11 rfl trivial ?_ rfl
  simp only [Try.ntmps11]
  simp only [List.size_toArray, List.length_cons, List.length_nil, Nat.reduceAdd, Nat.reduceSub, Array.replicate_succ, Array.replicate_zero, List.push_toArray, List.append_toArray, List.nil_append, List.cons_append]
  refine wpIn_wide.2 ?_
  have HA := hid hA
  have HM := hid hm
  clear hA hm
  go_upto_region 2 with (fail)
  obtain ⟨s, hs⟩ : ∃ x, w.heap.size = x := ⟨_, rfl⟩
  refine wp_gen (fun W1 => Hid (Ext w W1) ∧ Hid (NwS W1 s (.slice none 0 0) [] (.slice none 0 0) [])) ⟨hid (by repeat (first | (with_reducible exact Ext.refl _) | (with_reducible refine Ext.undrew ?_) | (with_reducible refine Ext.grow ?_ _) | (with_reducible refine Ext.drew ?_) | (with_reducible refine Ext.drewN ?_ _) | (with_reducible refine Ext.alloc ?_ _) | (with_reducible assumption) | ((with_reducible refine Ext.setCell ?_ ?_ _); rotate_left; (first | exact Nat.le_refl _ | ((try dsimp only); (try simp only [World.size_alloc, grow_size, World.size_setCell]); omega))))), hid ?sea0⟩ ?_
  case sea0 =>
    subst hs
    exact ⟨by simp, by simp [go_sem], by simp [go_sem], by simp [go_sem], by simp [go_sem], ownsAt_nil _ _ _ _, ownsAt_nil _ _ _ _, fun b e => by cases e⟩
  rintro W1 ⟨HX1, HS1⟩
  rw [hs]
  go_wp2
  go_loopw [12] (fun i wr => ∃ k v, k ≤ m ∧ i = .int .i64 (k : Nat) ∧ Hid (NwS wr s v (grantsC (l.take k)) (.slice none 0 0) []) ∧ Hid (Ext w wr)) (fun i _ => m - (intOf i).toNat)
  case atStart => exact ⟨0, _, Nat.zero_le _, rfl, HS1, HX1⟩
  case round =>
    clear HS1 HX1
    obtain ⟨k, vk, hk, rfl, HS, HX⟩ := hrel
    by_cases hlt : k < m
    · have hk1 : (k : Int) < (m : Int) := by omega
      have hk0 : (0 : Int) ≤ (k : Int) := by omega
      have hkl : k < l.length := by rw [HM.out]; exact hlt
      obtain ⟨d, hd⟩ : ∃ d, l[k] = d := ⟨_, rfl⟩
      have HT0 := hid (show grantsC (l.take (k + 1)) = if (d.tag && rightC d) = true then grantsC (l.take k) ++ [d] else grantsC (l.take k) by rw [List.take_succ_eq_append_getElem hkl, hd]; exact grantsC_snoc _ d)
      obtain ⟨b', o', rfl, hb1, q0, q1, q2, q3, q4, q5⟩ := (HA.out.ext HX.out).cap hkl d hd
      clear hd
      have HRI := hid (fun W => capRight d.tag d.base d.top d.at_ d.perms d.type W)
      have HDD := hid (show rightC (Cap.mk d.tag d.base d.top d.at_ d.perms d.type) = rightC d from rfl)
      cases hdt : d.tag with
      | false =>
        rw [hdt] at q0
        have HT := hid (show grantsC (l.take (k + 1)) = grantsC (l.take k) by rw [HT0.out, hdt]; rfl)
        go_wp2_with fail
        go_roundw
        case rel => exact ⟨k + 1, vk, by omega, by go_num, by rw [HT.out]; exact hid (HS.out.ext (by repeat (first | (with_reducible exact Ext.refl _) | (with_reducible refine Ext.undrew ?_) | (with_reducible refine Ext.grow ?_ _) | (with_reducible refine Ext.drew ?_) | (with_reducible refine Ext.drewN ?_ _) | (with_reducible refine Ext.alloc ?_ _) | (with_reducible assumption) | ((with_reducible refine Ext.setCell ?_ ?_ _); rotate_left; (first | exact Nat.le_refl _ | ((try dsimp only); (try simp only [World.size_alloc, grow_size, World.size_setCell]); omega)))))), hid (HX.out.trans (by repeat (first | (with_reducible exact Ext.refl _) | (with_reducible refine Ext.undrew ?_) | (with_reducible refine Ext.grow ?_ _) | (with_reducible refine Ext.drew ?_) | (with_reducible refine Ext.drewN ?_ _) | (with_reducible refine Ext.alloc ?_ _) | (with_reducible assumption) | ((with_reducible refine Ext.setCell ?_ ?_ _); rotate_left; (first | exact Nat.le_refl _ | ((try dsimp only); (try simp only [World.size_alloc, grow_size, World.size_setCell]); omega))))))⟩
        case measure => simp [intOf]; omega
      | true =>
        cases hdr : rightC d with
        | false =>
          have HT := hid (show grantsC (l.take (k + 1)) = grantsC (l.take k) by rw [HT0.out, hdt, hdr]; rfl)
          rw [hdt] at q0 HRI HDD
          rw [← HDD.out] at hdr
          go_wp2_with fail
          refine (HRI.out _).mono ?_; rintro e W2 ⟨he, hy⟩
          rw [hdr] at he
          subst he
          have HY := hid hy
          clear hy hdr
          go_wp2
          go_roundw
          case rel => exact ⟨k + 1, vk, by omega, by go_num, by rw [HT.out]; exact hid (HS.out.ext (Ext.trans ((Ext.refl _).alloc _) HY.out)), hid (HX.out.trans (Ext.trans ((Ext.refl _).alloc _) HY.out))⟩
          case measure => simp [intOf]; omega
        | true =>
          have HT := hid (show grantsC (l.take (k + 1)) = grantsC (l.take k) ++ [(Cap.mk d.tag d.base d.top d.at_ d.perms d.type)] by rw [HT0.out, if_pos (show (d.tag && rightC d) = true by rw [hdt, hdr]; rfl)])
          rw [hdt] at q0 HRI HDD
          rw [← HDD.out] at hdr
          go_wp2_with fail
          refine (HRI.out _).mono ?_; rintro e W2 ⟨he, hy⟩
          rw [hdr] at he
          subst he
          have HR2 := hid (((Row.new wr #[.bool true, .int .i64 d.base, .int .i64 d.top, .int .i64 d.at_, .int .i64 d.perms, .int .i64 d.type] 24)).ext hy)
          have HY := hid (Ext.trans ((Ext.refl _).alloc _) hy)
          clear hy hdr
          rw [← hdt] at HR2
          clear hdt
          go_upto_region 6 with (fail)
          refine wp_gen (fun W3 => Hid (Ext wr W3) ∧ Hid (Row W3 wr.heap.size 0 (Cap.cells (Cap.mk d.tag d.base d.top d.at_ d.perms d.type)))) ⟨hid (HY.out.trans (by repeat (first | (with_reducible exact Ext.refl _) | (with_reducible refine Ext.undrew ?_) | (with_reducible refine Ext.grow ?_ _) | (with_reducible refine Ext.drew ?_) | (with_reducible refine Ext.drewN ?_ _) | (with_reducible refine Ext.alloc ?_ _) | (with_reducible assumption) | ((with_reducible refine Ext.setCell ?_ ?_ _); rotate_left; (first | exact Nat.le_refl _ | ((try dsimp only); (try simp only [World.size_alloc, grow_size, World.size_setCell]); omega)))))), hid (HR2.out.ext (by repeat (first | (with_reducible exact Ext.refl _) | (with_reducible refine Ext.undrew ?_) | (with_reducible refine Ext.grow ?_ _) | (with_reducible refine Ext.drew ?_) | (with_reducible refine Ext.drewN ?_ _) | (with_reducible refine Ext.alloc ?_ _) | (with_reducible assumption) | ((with_reducible refine Ext.setCell ?_ ?_ _); rotate_left; (first | exact Nat.le_refl _ | ((try dsimp only); (try simp only [World.size_alloc, grow_size, World.size_setCell]); omega))))))⟩ ?_
          rintro W3 ⟨HX3, HR3⟩
          have HS3 := hid (HS.out.ext HX3.out)
          have hx3 := HX3.out.size
          have hlt0 := HS.out.lt
          have HLN := hid (show (grantsC (l.take k)).length ≤ 1000000 by have h9 := grantsC_len (l.take k); rw [List.length_take] at h9; omega)
          have HNA := hid (show ∀ g, vk.ownBlock = some g → ¬ g = s from fun g e e2 => by have := (HS.out.g.lt g e).1; omega)
          have HVK := hid (show ∀ g, vk.ownBlock = some g → g < wr.heap.size from fun g e => (HS.out.g.lt g e).2)
          clear q0 q1 q2 q3 q4 q5
          obtain ⟨bx, hbx⟩ : ∃ x, wr.heap.size = x := ⟨_, rfl⟩
          rw [hbx] at hx3 HVK HR3 hlt0 ⊢
          have HBX := hid hbx
          clear hbx
          have hc3 := HS3.out.c0
          have hf3 := HS3.out.f0
          refine wp_region_noPanic ?_
          refine wp_region_only (S := (fun i => i = s ∨ vk.ownBlock = some i)) (.rd 0 (.rd 1 (.rd 2 (.rd 3 (.rd 5 (.br 4 (.ac 6 (.ac 7 (.rd 8 (.rd 9 (.ac 10 .done))))) 6 (.ac 4 (.ac 7 (.rd 8 (.rd 9 (.ac 10 .done))))))))))) (by kernel_rfl) (by kernel_rfl) (fun _ _ d _ _ h => by cases d <;> exact h) (by simp only [Ord.map, nthOp, List.append]; rfl) ?_
          intro d1
          have HX4 := hid (HX3.out.trans (Ext.grow (Ext.refl W3) d1))
          have HS4 := hid (HS3.out.ext (Ext.grow (Ext.refl W3) d1))
          have HR4 := hid (HR3.out.ext (Ext.grow (Ext.refl W3) d1))
          generalize Go.Proofs.Ytlapemeoffpmgaa.grow W3 d1 = W4 at HX4 HS4 HR4 ⊢
          have hc4 := HS4.out.c0
          have hf4 := HS4.out.f0
          have HO4 := hid HS4.out.g
          clear HX3 HS3 HR3 hc3 hf3
          have hn4 := HS4.out.lt
          have hbl4 := HR4.out.lt
          have hb4 := HS4.out.lt
          have HBS := hid (show s + 1 ≤ W4.heap.size by omega)
          have hSb : ¬ (bx = s ∨ vk.ownBlock = some bx) := by
            rintro (h | h)
            · omega
            · have := HVK.out bx h; omega
          refine only_read (by rfl) (fun K hK => ?_)
          go_big_quiet_op
          refine hK _ ?_
          clear hK K
          refine only_read (by rfl) (fun K hK => ?_)
          go_big_quiet_op
          refine hK _ ?_
          clear hK K
          refine only_read (by rfl) (fun K hK => ?_)
          refine quiet_runD 24 rfl (.pointer (some ⟨s, 0, none⟩)) (fun w => by go_simp) ?_
          refine hK _ ?_
          clear hK K
          simp only [Act.put, List.setIfInBounds_toArray, List.set_cons_zero, List.set_cons_succ]
          refine only_read (by rfl) (fun K hK => ?_)
          refine quiet_runD 25 rfl (.pointer (some ⟨s, 0, none⟩)) (fun w => by go_simp) ?_
          refine hK _ ?_
          clear hK K
          simp only [Act.put, List.setIfInBounds_toArray, List.set_cons_zero, List.set_cons_succ]
          refine only_read (by rfl) (fun K hK => ?_)
          refine quiet_loadC 24 (.tmp 5) rfl bx 0 rfl (Cap.cells (Cap.mk d.tag d.base d.top d.at_ d.perms d.type)) _ (fun w' hw' => (HR4.out.only hw' hSb).range) Try.underlying24 rfl (by kernel_rfl) ?_
          refine hK _ ?_
          clear hK K
          simp only [Act.put, List.setIfInBounds_toArray, List.set_cons_zero, List.set_cons_succ]
          refine only_br ?_ ?_
          · refine only_act (by rfl) (fun K hK => ?_)
            go_wp2_with fail
            refine ⟨_, Only.refl _ _, Only.refl _ _, ?_⟩
            refine only_act (by rfl) (fun K hK => ?_)
            refine wp_build1 22 24 (.tmp 27) rfl #[.bool d.tag, .int .i64 d.base, .int .i64 d.top, .int .i64 d.at_, .int .i64 d.perms, .int .i64 d.type] 6 rfl rfl (by omega) (by omega) Try.underlying22 (by kernel_rfl) (by kernel_rfl) ?_
            refine hK _ _ ⟨_, Only.refl _ _, Only.ofExt (Ext.alloc (Ext.refl _) _), ?_⟩
            refine only_gen (fun W => Hid (Ext W4 W) ∧ Hid (Row W W4.heap.size 0 (Cap.cells (Cap.mk d.tag d.base d.top d.at_ d.perms d.type)))) ⟨hid (Ext.alloc (Ext.refl _) _), hid (Row.new W4 _ _)⟩ ?_
            clear hK K
            rintro w4 ⟨hE4, hR4⟩
            have hS5 : Hid (Only (fun i => i = s ∨ vk.ownBlock = some i) W4 w4) := hid (Only.ofExt hE4.out)
            have hc5 := (hE4.out.cells s 0 hb4).trans hc4
            refine only_act (by rfl) (fun K hK => ?_)
            refine wp_app_row cap_len (by decide) cap_one Try.underlying22 info_capN (.tmp 26) (.tmp 28) rfl (s + 1) vk ((grantsC (l.take k))).length (rowF Cap.cells ((grantsC (l.take k)))) rfl (HO4.out.ext hE4.out) (some ⟨W4.heap.size, 0, none⟩) 1 1 [(Cap.mk d.tag d.base d.top d.at_ d.perms d.type)] rfl rfl (rdF_row0 (f := Cap.cells) (z := (Cap.mk d.tag d.base d.top d.at_ d.perms d.type)) hR4.out) (by have := HLN.out; unfold maxLen; omega) (by have := HLN.out; omega) (Nat.le_trans HBS.out hE4.out.size) ?_
            intro v6 w6 hown6 hgrow hat
            obtain ⟨A6, c6, hv6, _, _⟩ := hown6.shape
            subst hv6
            have HO6 : Hid (ownsAt w6 (s + 1) 24 6 (.slice A6 (((grantsC (l.take k))).length + 1) c6) ((grantsC (l.take k)) ++ [(Cap.mk d.tag d.base d.top d.at_ d.perms d.type)]).length (rowF Cap.cells ((grantsC (l.take k)) ++ [(Cap.mk d.tag d.base d.top d.at_ d.perms d.type)]))) := hid (by rw [rowF_append, List.length_append]; exact hown6)
            have HT6 : Hid (Only (fun i => vk.ownBlock = some i) W4 w6) := hid ((Only.ofExt hE4.out).trans' (grownOnly hgrow fun g hg => hg))
            have hS6 : Hid (Only (fun i => i = s ∨ vk.ownBlock = some i) W4 w6) := hid (Only.trans' hS5.out (grownOnly hgrow fun g hg => .inr hg))
            have HAT : Hid (∀ g, (Value.slice A6 (((grantsC (l.take k))).length + 1) c6).ownBlock = some g → vk.ownBlock = some g ∨ W4.heap.size ≤ g) := hid (fun g h => by
              rcases hat with h' | ⟨g', h', hlt⟩
              · exact .inl (h' ▸ h)
              · rw [h] at h'
                simp only [Option.some.injEq] at h'
                have := hE4.out.size
                exact .inr (by omega))
            have hc6 := (HT6.out.cells s 0 hb4 (fun e => HNA.out s e rfl)).trans hc4
            have hf6 := (HT6.out.frozens s 0 hb4 (fun e => HNA.out s e rfl)).trans hf4
            have hb6 : s < w6.heap.size := Nat.lt_of_lt_of_le hb4 HT6.out.size
            refine hK _ _ ⟨_, Only.refl _ _, hS6.out, ?_⟩
            clear hK K hgrow hS5 hR4 hE4 hc5 hat hown6
            simp only [Act.put, List.setIfInBounds_toArray, List.set_cons_zero, List.set_cons_succ]
            refine only_read (by rfl) (fun K hK => ?_)
            refine quiet_runD 30 rfl (.pointer (some ⟨s, 0, none⟩)) (fun w => by go_simp) ?_
            refine hK _ ?_
            clear hK K
            simp only [Act.put, List.setIfInBounds_toArray, List.set_cons_zero, List.set_cons_succ]
            refine only_read (by rfl) (fun K hK => ?_)
            refine quiet_runD 31 rfl (.pointer (some ⟨s, 0, none⟩)) (fun w => by go_simp) ?_
            refine hK _ ?_
            clear hK K
            simp only [Act.put, List.setIfInBounds_toArray, List.set_cons_zero, List.set_cons_succ]
            refine only_act (by rfl) (fun K hK => ?_)
            go_wp2_with fail
            refine ⟨_, Only.refl _ _, Only.setCell (S := (fun i => i = s ∨ vk.ownBlock = some i)) hS6.out (Or.inl (Or.inl rfl)) _, ?_⟩
            refine only_nil ?_
            refine NoPanic.normal ?_
            have HS7 := hid (HS4.out.put0 (T := fun i => vk.ownBlock = some i) HT6.out (fun i h => .inl h) HO6.out HAT.out)
            rw [← HT.out] at HS7
            have HE7 : Hid (Ext w (w6.setCell ⟨s, 0, none⟩ (.slice A6 ((grantsC (l.take k)).length + 1) c6))) := hid (Ext.only (HX.out.trans HX4.out) (Only.setCell (S := fun i => s ≤ i) (Only.trans (Only.refl _ W4) HT6.out (fun i h => .inl (by have := (HO4.out.lt i h).1; omega))) (.inl (Nat.le_refl _)) _) (fun i hi => by omega))
            clear HS4 HT6 HO6 HAT hc6 hf6 hb6
            go_wp2
            go_roundw
            case rel => exact ⟨k + 1, _, by omega, by go_num, HS7, HE7⟩
            case measure => simp [intOf]; omega
          · refine only_act (by rfl) (fun K hK => ?_)
            refine wp_build1 22 24 (.tmp 27) rfl #[.bool d.tag, .int .i64 d.base, .int .i64 d.top, .int .i64 d.at_, .int .i64 d.perms, .int .i64 d.type] 6 rfl rfl (by omega) (by omega) Try.underlying22 (by kernel_rfl) (by kernel_rfl) ?_
            refine hK _ _ ⟨_, Only.refl _ _, Only.ofExt (Ext.alloc (Ext.refl _) _), ?_⟩
            refine only_gen (fun W => Hid (Ext W4 W) ∧ Hid (Row W W4.heap.size 0 (Cap.cells (Cap.mk d.tag d.base d.top d.at_ d.perms d.type)))) ⟨hid (Ext.alloc (Ext.refl _) _), hid (Row.new W4 _ _)⟩ ?_
            clear hK K
            rintro w4 ⟨hE4, hR4⟩
            have hS5 : Hid (Only (fun i => i = s ∨ vk.ownBlock = some i) W4 w4) := hid (Only.ofExt hE4.out)
            have hc5 := (hE4.out.cells s 0 hb4).trans hc4
            refine only_act (by rfl) (fun K hK => ?_)
            go_wp2_with fail
            refine ⟨_, Only.refl _ _, hS5.out, ?_⟩
            refine only_act (by rfl) (fun K hK => ?_)
            refine wp_app_row cap_len (by decide) cap_one Try.underlying22 info_capN (.tmp 26) (.tmp 28) rfl (s + 1) vk ((grantsC (l.take k))).length (rowF Cap.cells ((grantsC (l.take k)))) rfl (HO4.out.ext hE4.out) (some ⟨W4.heap.size, 0, none⟩) 1 1 [(Cap.mk d.tag d.base d.top d.at_ d.perms d.type)] rfl rfl (rdF_row0 (f := Cap.cells) (z := (Cap.mk d.tag d.base d.top d.at_ d.perms d.type)) hR4.out) (by have := HLN.out; unfold maxLen; omega) (by have := HLN.out; omega) (Nat.le_trans HBS.out hE4.out.size) ?_
            intro v6 w6 hown6 hgrow hat
            obtain ⟨A6, c6, hv6, _, _⟩ := hown6.shape
            subst hv6
            have HO6 : Hid (ownsAt w6 (s + 1) 24 6 (.slice A6 (((grantsC (l.take k))).length + 1) c6) ((grantsC (l.take k)) ++ [(Cap.mk d.tag d.base d.top d.at_ d.perms d.type)]).length (rowF Cap.cells ((grantsC (l.take k)) ++ [(Cap.mk d.tag d.base d.top d.at_ d.perms d.type)]))) := hid (by rw [rowF_append, List.length_append]; exact hown6)
            have HT6 : Hid (Only (fun i => vk.ownBlock = some i) W4 w6) := hid ((Only.ofExt hE4.out).trans' (grownOnly hgrow fun g hg => hg))
            have hS6 : Hid (Only (fun i => i = s ∨ vk.ownBlock = some i) W4 w6) := hid (Only.trans' hS5.out (grownOnly hgrow fun g hg => .inr hg))
            have HAT : Hid (∀ g, (Value.slice A6 (((grantsC (l.take k))).length + 1) c6).ownBlock = some g → vk.ownBlock = some g ∨ W4.heap.size ≤ g) := hid (fun g h => by
              rcases hat with h' | ⟨g', h', hlt⟩
              · exact .inl (h' ▸ h)
              · rw [h] at h'
                simp only [Option.some.injEq] at h'
                have := hE4.out.size
                exact .inr (by omega))
            have hc6 := (HT6.out.cells s 0 hb4 (fun e => HNA.out s e rfl)).trans hc4
            have hf6 := (HT6.out.frozens s 0 hb4 (fun e => HNA.out s e rfl)).trans hf4
            have hb6 : s < w6.heap.size := Nat.lt_of_lt_of_le hb4 HT6.out.size
            refine hK _ _ ⟨_, Only.refl _ _, hS6.out, ?_⟩
            clear hK K hgrow hS5 hR4 hE4 hc5 hat hown6
            simp only [Act.put, List.setIfInBounds_toArray, List.set_cons_zero, List.set_cons_succ]
            refine only_read (by rfl) (fun K hK => ?_)
            refine quiet_runD 30 rfl (.pointer (some ⟨s, 0, none⟩)) (fun w => by go_simp) ?_
            refine hK _ ?_
            clear hK K
            simp only [Act.put, List.setIfInBounds_toArray, List.set_cons_zero, List.set_cons_succ]
            refine only_read (by rfl) (fun K hK => ?_)
            refine quiet_runD 31 rfl (.pointer (some ⟨s, 0, none⟩)) (fun w => by go_simp) ?_
            refine hK _ ?_
            clear hK K
            simp only [Act.put, List.setIfInBounds_toArray, List.set_cons_zero, List.set_cons_succ]
            refine only_act (by rfl) (fun K hK => ?_)
            go_wp2_with fail
            refine ⟨_, Only.refl _ _, Only.setCell (S := (fun i => i = s ∨ vk.ownBlock = some i)) hS6.out (Or.inl (Or.inl rfl)) _, ?_⟩
            refine only_nil ?_
            refine NoPanic.normal ?_
            have HS7 := hid (HS4.out.put0 (T := fun i => vk.ownBlock = some i) HT6.out (fun i h => .inl h) HO6.out HAT.out)
            rw [← HT.out] at HS7
            have HE7 : Hid (Ext w (w6.setCell ⟨s, 0, none⟩ (.slice A6 ((grantsC (l.take k)).length + 1) c6))) := hid (Ext.only (HX.out.trans HX4.out) (Only.setCell (S := fun i => s ≤ i) (Only.trans (Only.refl _ W4) HT6.out (fun i h => .inl (by have := (HO4.out.lt i h).1; omega))) (.inl (Nat.le_refl _)) _) (fun i hi => by omega))
            clear HS4 HT6 HO6 HAT hc6 hf6 hb6
            go_wp2
            go_roundw
            case rel => exact ⟨k + 1, _, by omega, by go_num, HS7, HE7⟩
            case measure => simp [intOf]; omega

    · obtain rfl : k = m := by omega
      have hk1 : ¬ (k : Int) < (k : Int) := by omega
      have e9 : l.take k = l := List.take_of_length_le (by rw [HM.out]; exact Nat.le_refl _)
      rw [e9] at HS
      clear e9 hk hlt
      obtain ⟨Ag, cg, rfl, _, _⟩ := HS.out.g.shape
      have c0 := HS.out.c0
      have hlt0 := HS.out.lt
      go_wp2_with fail
      refine (found_ Ag _ cg _).mono ?_
      rintro e w1 ⟨rfl, rfl⟩
      go_wp2_with fail
      have HX0 := HX
      obtain ⟨lb, hlbe⟩ : ∃ x, wr.heap.size = x := ⟨_, rfl⟩
      have HGB : Hid (∀ b, (Value.slice Ag (grantsC l).length cg).ownBlock = some b → b < lb) := hid (fun b e => by have := (HS.out.g.lt b e).2; omega)
      have hslb : s < lb := by omega
      refine wp_gen (fun W => Hid (Ext w W) ∧ Hid (NwS W s (.slice Ag (grantsC l).length cg) (grantsC l) (.slice none 0 0) []) ∧ Hid (W.heap.size = lb + 2) ∧ Hid (Boxed W lb 22 (.slice none 0 0)) ∧ Hid (W.cell? ⟨lb + 1, 0, none⟩ = some (.slice Ag (grantsC l).length cg))) ⟨hid (HX.out.trans (by repeat (first | (with_reducible exact Ext.refl _) | (with_reducible refine Ext.undrew ?_) | (with_reducible refine Ext.grow ?_ _) | (with_reducible refine Ext.drew ?_) | (with_reducible refine Ext.drewN ?_ _) | (with_reducible refine Ext.alloc ?_ _) | (with_reducible assumption) | ((with_reducible refine Ext.setCell ?_ ?_ _); rotate_left; (first | exact Nat.le_refl _ | ((try dsimp only); (try simp only [World.size_alloc, grow_size, World.size_setCell]); omega)))))), hid (HS.out.ext (by repeat (first | (with_reducible exact Ext.refl _) | (with_reducible refine Ext.undrew ?_) | (with_reducible refine Ext.grow ?_ _) | (with_reducible refine Ext.drew ?_) | (with_reducible refine Ext.drewN ?_ _) | (with_reducible refine Ext.alloc ?_ _) | (with_reducible assumption) | ((with_reducible refine Ext.setCell ?_ ?_ _); rotate_left; (first | exact Nat.le_refl _ | ((try dsimp only); (try simp only [World.size_alloc, grow_size, World.size_setCell]); omega)))))), hid (by simp [hlbe]), hid ?p2, hid (by subst hlbe; simp [go_sem])⟩ ?_
      case p2 => subst hlbe; exact (Boxed.new wr 22 (.slice none 0 0)).alloc _
      rintro W0 ⟨hE0, hS0, hZ0, hB0, hc2⟩
      rw [hlbe]
      have hZ := hZ0.out
      have hlb : lb < W0.heap.size := by omega
      clear HS HX HX0 c0 hlt0 hlbe
      have HGL := grantsC_len l
      rw [HM.out] at HGL
      have HRG := hid (hS0.out.g.rdF rfl)
      obtain ⟨i0, z0, hi0, hz0, hzz2, hz3, hz1⟩ := info_capN
      refine (wpIn_wide (n := 6)).1 ?_
      refine wpIn_rangeFunc_cells rfl (by omega) (gf := 51) (lb := #[.pointer (some ⟨lb + 1, 0, none⟩)]) rfl trivial (enters_of Try.func51 (by kernel_rfl) rfl)
        (foundS_ 5 (by omega) lb (lb + 1) cg _ Ag (grantsC l) W0 rfl (by omega) (fun g hg => by have := rightC_bd (grantsC_mem hg).2.2; omega) hc2.out (by omega) HRG.out hlb (fun i => by rintro ⟨o1, n1, c1, e⟩; rw [hB0.out.cell] at e; cases e))
        (fun h k => h.trans k) (fun W l1 o o' hl ho hc _ => KpB.putObj W l1 o o' (by omega) ?kb ho hc) (fun A B h k o ho hc => h.cells k o ho hc) (fun _ _ _ _ _ _ _ _ h => h) (Below.refl _ _) (fun _ => rfl)
        (fun pre W => OpI W0 lb pre W) (OpI.own (Nat.le_refl _)) (OpI.turn hlb)
        ⟨⟨_, hB0.out, ownsAt_nil _ _ _ _⟩, Only.refl _ _⟩
        (fun x a' W => ∃ b, a' = { tmps := #[.slice A k ca, undef, .pointer none, .pointer (some ⟨s, 0, none⟩), undef, u5, .pointer (some ⟨lb, 0, none⟩), .pointer (some ⟨b, 0, none⟩), .agg #[.slice none 0 0, .slice none 0 0], .pointer (some ⟨s, 0, none⟩), .slice A k ca, .int .i64 k, .int .i64 k, .bool false, u14, u15, u16, u17, u18, u19, u20, u21, u22, u23, u24, u25, u26, u27, u28, u29, u30, u31, u32, .pointer (some ⟨s, 0, none⟩), .pointer (some ⟨s, 0, none⟩), .pointer (some ⟨s, 0, none⟩), .slice Ag (grantsC l).length cg, .func (.func 51) #[] #[.pointer (some ⟨lb + 1, 0, none⟩)], .agg #[.bool x.tag, .int .i64 x.base, .int .i64 x.top, .int .i64 x.at_, .int .i64 x.perms, .int .i64 x.type], undef, undef, undef, undef, undef, undef, undef, undef, undef, undef], defers := [] } ∧ Row W b 0 (Cap.cells (Cap.mk x.tag x.base x.top x.at_ x.perms x.type)))
        ?ax ?assign ?body ?done
      case kb => exact Nat.lt_of_le_of_lt (by omega) (Array.getElem?_eq_some_iff.1 ho).1
      case ax =>
        rintro x a' ⟨⟩ W W' row ⟨b, rfl, h⟩ hg hr
        have hcl := (Row.six (c := (Cap.mk x.tag x.base x.top x.at_ x.perms x.type)) h).2.1
        exact ⟨b, rfl, h.only (S := fun i => row = some i) (grownOnly hg fun g e => e) fun e => by
          obtain ⟨_, o, ho, hc⟩ := hr b e
          exact cell_isCells hcl ⟨o, ho, hc⟩⟩
      case assign =>
        rintro l0 pre x W K hI hK
        gi_wp2
        exact hK _ _ (keepsFrom_ext (Ext.alloc (Ext.refl _) _)) (KpB.alloc hI.1.choose_spec.1.lt _) (OpI.own (Nat.le_refl _) pre W _ none hI (World.grownBy_alloc _ _ _) (fun r e => by cases e)) ⟨_, rfl, Row.new W #[.bool x.tag, .int .i64 x.base, .int .i64 x.top, .int .i64 x.at_, .int .i64 x.perms, .int .i64 x.type] 24⟩
      case body =>
        rintro l0 pre x a' W hl0 hI ⟨b, rfl, hrw⟩ hlen
        obtain ⟨⟨vr, hvb, hvr⟩, hO⟩ := hI
        obtain ⟨Av, cv, rfl, _, _⟩ := hvr.shape
        obtain ⟨g0, g1, g2, g3, g4, g5, g6⟩ := Row.six (c := (Cap.mk x.tag x.base x.top x.at_ x.perms x.type)) hrw
        simp only [Nat.zero_add] at g1 g2 g3 g4 g5 g6
        have hv1 := hvb.cell
        have hv2 := hvb.frozen
        have hsz := hO.size
        have HVR := hid hvr
        have HVB := hid hvb
        have HO := hid hO
        clear hvr hvb hO hrw
        gi_wp2_with (gi_at_builtin; go_loud (refine wpListIn_append_at _ rfl _ _ 22 rfl W0.heap.size 24 i0 z0 6 48 Try.underlying22 hi0 hz0 hzz2 hz3 hz1 (by decide) (.slice Av pre.length cv) pre.length (rowF Cap.cells pre) rfl (HVR.out.only (S := fun _ => False) (Only.alloc (Only.refl _ _) _) (fun _ _ h => h)) ⟨W.heap.size, 0, none⟩ 1 1 (Cap.cells (Cap.mk x.tag x.base x.top x.at_ x.perms x.type)) rfl rfl (fun j u hj => by rw [Addr.add_lit]; exact (Row.new W #[.bool x.tag, .int .i64 x.base, .int .i64 x.top, .int .i64 x.at_, .int .i64 x.perms, .int .i64 x.type] _).range j u hj) (cap_one (Cap.mk x.tag x.base x.top x.at_ x.perms x.type)) (by unfold maxLen; omega) (by omega) (by simp; omega) (by omega) ?_; intro v' w1 hown' hgrow hat'; obtain ⟨A', ca', rfl, _, _⟩ := hown'.shape; have hfin := hid (open_round hlb HO.out HVB.out HVR.out hgrow hown' hat'); have hb1 := ((HVB.out.alloc _).kept hgrow (fun e => by have := (HVR.out.lt lb e.symm).1; omega)); have hc1 := hb1.cell; have hf1 := hb1.frozen; clear hown' hgrow hat' hb1))
        exact hfin.out
      case done =>
        rintro Dd ys W hD rfl ⟨⟨vr, hvb, hvr⟩, hO⟩ hK
        obtain ⟨Av, cv, rfl, _, _⟩ := hvr.shape
        have hbl := bfs_len ((grantsC l).length + 1) (sealedC (grantsC l) 0 ++ sealedC (grantsC l) 1) (sealedC (grantsC l))
        have HFI := hid (show ∀ x, x ∈ foundC (grantsC l) ↔ Opn (grantsC l) x from fun x => found_iff (fun g hg => by have := rightC_bd (grantsC_mem hg).2.2; omega) x)
        have HFN := hid (show ∀ x ∈ foundC (grantsC l), NrmC x from fun x hx => opn_nrm (fun g hg => (grantsC_mem hg).2) ((HFI.out x).1 hx))
        change (foundC (grantsC l)).length ≤ _ at hbl
        generalize foundC (grantsC l) = F at hvr hvb hbl HFI HFN
        obtain ⟨nv, hnv⟩ : ∃ x, F.length = x := ⟨_, rfl⟩
        rw [hnv] at hvr hvb hbl
        have HNV := hid hnv
        clear hnv
        have HS1 := hid (hS0.out.only hO (by omega) (fun b e h => by have := HGB.out b e; omega) (fun b e => by cases e))
        have hsz := hO.size
        have hv1 := hvb.cell
        have hbx := hvb.lt
        have HVB := hid hvb
        have HVR := hid hvr
        have HO := hid hO
        have HK := hid hK
        clear hvb hvr hO hK
        go_wp2_with fail
        refine (greatest_ W0.heap.size nv _ F W HVR.out HNV.out (by omega) HFN.out).mono ?_
        rintro e W3 ⟨Ao, co, out, mo, rfl, hmo, hmn, HG, HOO, HX3⟩
        have HC3 := hid (HS1.out.only HX3.out (fun e => by have := (HVR.out.lt s e.symm).1; omega) (fun b e e2 => by have := HGB.out b e; have := (HVR.out.lt b e2.symm).1; omega) (fun b e => by cases e))
        subst hmo
        have k1 := HC3.out.c1
        have kf := HC3.out.f1
        have kl := HC3.out.lt
        (try simp only [])
        go_wp2
        have hDd : ¬ some Dd = (Value.slice Av nv cv).ownBlock := fun e => by
          have := HVR.out.isCells e.symm _ HK.out
          cases this
        have hk3 : W3.heap[Dd]? = some (.deferred (some [])) := (HX3.out.block Dd (Array.getElem?_eq_some_iff.1 HK.out).1 hDd).trans HK.out
        have hs1 : w.heap.size = s := hs
        have hNW := HC3.out.set1 (u' := .slice Ao out.length co) (O' := out) (HOO.out.weak (by omega)) (fun b e e2 => by have := HGB.out b e; have := (HOO.out.lt b e2).1; omega)
        have hk4 : (W3.setCell ⟨s, 1, none⟩ (.slice Ao out.length co)).heap[Dd]? = some (.deferred (some [])) := by
          rw [Below.heap_setCell _ _ _ _ (show Dd ≠ s by omega)]
          exact hk3
        have hp : Only (fun i => i = Dd) (W3.setCell ⟨s, 1, none⟩ (.slice Ao out.length co)) ((W3.setCell ⟨s, 1, none⟩ (.slice Ao out.length co)).putObj Dd (.deferred none)) := grownOnly (grownBy_putObj' _ Dd _) fun g e => by cases e; rfl
        have hNF := hNW.only hp (by omega) (fun b e h => by have := HGB.out b e; omega) (fun b e h => by
          have := hNW.o.isCells e _ (by rw [h]; exact hk4)
          cases this)
        have hX0 : Only (fun i => w.heap.size ≤ i) w W3 := Only.trans (Only.trans (Only.ofExt (S := fun i => w.heap.size ≤ i) hE0.out) HO.out (fun i h => by (try simp only at h); have := hE0.out.size; omega)) HX3.out (fun i h => .inl (by have := (HVR.out.lt i h.symm).1; have := hE0.out.size; omega))
        have hX1 : Only (fun i => w.heap.size ≤ i) w (W3.setCell ⟨s, 1, none⟩ (.slice Ao out.length co)) := Only.setCell hX0 (.inl (by omega)) _
        have hX2 : Ext w ((W3.setCell ⟨s, 1, none⟩ (.slice Ao out.length co)).putObj Dd (.deferred none)) := (Only.trans hX1 hp fun i h => .inl (by have := hE0.out.size; omega)).ext fun i h => h
        obtain ⟨A9, c9, e9, _, h9⟩ := HOO.out.shape
        simp only [Value.slice.injEq, true_and] at e9
        refine ⟨by simp, .inl ⟨_, _, rfl, run_takeDeferred (ds := []) hk4, ?fin⟩⟩
        case fin =>
          refine ⟨_, results_tmp rfl _ _ _, s, Ag, cg, Ao, co, out, rfl, hid hNF.clS, hid (HG.out.congr HFI.out), hid (fun e => by rw [e9.2]; exact h9 (e9.1 ▸ e)), hid hX2, hid (by have := hmn.out; omega)⟩

end Go.Proofs.Ytlapemeoffpmgaa
