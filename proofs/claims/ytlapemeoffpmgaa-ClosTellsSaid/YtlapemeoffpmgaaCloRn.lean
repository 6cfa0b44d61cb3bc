/- Layer 6: the document's New. -/
import Derived.Test.YtlapemeoffpmgaaCloRa
import Derived.Test.YtlapemeoffpmgaaCloLw
namespace Go.Proofs.Ytlapemeoffpmgaa
set_option linter.unusedSimpArgs false
set_option linter.unusedVariables false
open Go.RowKit

set_option maxRecDepth 100000 in
set_option maxHeartbeats 4000000 in
theorem rnew_ (m ca : Nat) (A : Option Addr) (l : List Cap) (w : World) (hA : RdF Cap.cells w A l) (hm : l.length = m) (hm1 : m ≤ 1000) : Calls Try.prog 12 #[.slice A m ca] w fun e w' => ∃ s A cg B co O, e = .returned (.pointer (some ⟨s, 0, none⟩)) ∧ Hid (ClS w' s A cg (grantsC l) B co O) ∧ Hid (∀ x, x ∈ O ↔ Opn (grantsC l) x) ∧ Hid O.Nodup ∧ Hid (O.length ≤ m) ∧ Hid (Ext w w') := by
  have HA := hid hA
  have HM := hid hm
  clear hA hm
  go_enter Try.func12, Try.ntmps12
  go_upto_region 2 with (fail)
  obtain ⟨s, hs⟩ : ∃ x, w.heap.size = x := ⟨_, rfl⟩
  refine wp_gen (fun W1 => Hid (Ext w W1) ∧ Hid (NwS W1 s (.slice none 0 0) [] (.slice none 0 0) [])) ⟨hid (by repeat (first | (with_reducible exact Ext.refl _) | (with_reducible refine Ext.undrew ?_) | (with_reducible refine Ext.grow ?_ _) | (with_reducible refine Ext.drew ?_) | (with_reducible refine Ext.drewN ?_ _) | (with_reducible refine Ext.alloc ?_ _) | (with_reducible assumption) | ((with_reducible refine Ext.setCell ?_ ?_ _); rotate_left; (first | exact Nat.le_refl _ | ((try dsimp only); (try simp only [World.size_alloc, grow_size, World.size_setCell]); omega))))), hid ?sea0⟩ ?_
  case sea0 =>
    subst hs
    exact ⟨by simp, by simp [go_sem], by simp [go_sem], by simp [go_sem], by simp [go_sem], ownsAt_nil _ _ _ _, ownsAt_nil _ _ _ _, fun b e => by cases e⟩
  rintro W1 ⟨HX1, HS1⟩
  rw [hs]
  go_wp2
  go_loopw [4] (fun i wr => ∃ k v, k ≤ m ∧ i = .int .i64 (k : Nat) ∧ Hid (NwS wr s v (grantsC (l.take k)) (.slice none 0 0) []) ∧ Hid (Ext w wr)) (fun i _ => m - (intOf i).toNat)
  case atStart => exact ⟨0, _, Nat.zero_le _, rfl, HS1, HX1⟩
  case round =>
    clear HS1 HX1
    obtain ⟨k, vk, hk, rfl, HS, HX⟩ := hrel
    by_cases hlt : k < m
    · have hk1 : (k : Int) < (m : Int) := by omega
      have hk0 : (0 : Int) ≤ (k : Int) := by omega
      have hkl : k < l.length := by rw [HM.out]; exact hlt
      obtain ⟨d, hd⟩ : ∃ d, l[k] = d := ⟨_, rfl⟩
      have HT0 := hid (show grantsC (l.take (k + 1)) = if (d.tag && rightC d) = true then (grantsC (l.take k)) ++ [d] else (grantsC (l.take k)) by rw [List.take_succ_eq_append_getElem hkl, hd]; exact grantsC_snoc _ d)
      have HEL := hid (show ∀ W, Ext w W → _ from fun W hxx => (HA.out.ext hxx).elem cap_len hkl d hd)
      obtain ⟨b', o', rfl, hb1, q0, q1, q2, q3, q4, q5⟩ := (HA.out.ext HX.out).cap hkl d hd
      obtain ⟨b2, o2, e2, hbw, _⟩ := HEL.out w (Ext.refl _)
      simp only [Option.some.injEq, Addr.mk.injEq, and_true] at e2
      obtain ⟨rfl, rfl⟩ := e2
      have HBW := hid (show b' < s by omega)
      clear hd hbw
      cases hdt : d.tag with
      | false =>
        have HT := hid (show grantsC (l.take (k + 1)) = (grantsC (l.take k)) by rw [HT0.out, hdt]; rfl)
        rw [hdt] at q0
        go_wp2_with fail
        go_roundw
        case rel => exact ⟨k + 1, vk, by omega, by go_num, by rw [HT.out]; exact hid (HS.out.ext (by repeat (first | (with_reducible exact Ext.refl _) | (with_reducible refine Ext.undrew ?_) | (with_reducible refine Ext.grow ?_ _) | (with_reducible refine Ext.drew ?_) | (with_reducible refine Ext.drewN ?_ _) | (with_reducible refine Ext.alloc ?_ _) | (with_reducible assumption) | ((with_reducible refine Ext.setCell ?_ ?_ _); rotate_left; (first | exact Nat.le_refl _ | ((try dsimp only); (try simp only [World.size_alloc, grow_size, World.size_setCell]); omega)))))), hid (HX.out.trans (by repeat (first | (with_reducible exact Ext.refl _) | (with_reducible refine Ext.undrew ?_) | (with_reducible refine Ext.grow ?_ _) | (with_reducible refine Ext.drew ?_) | (with_reducible refine Ext.drewN ?_ _) | (with_reducible refine Ext.alloc ?_ _) | (with_reducible assumption) | ((with_reducible refine Ext.setCell ?_ ?_ _); rotate_left; (first | exact Nat.le_refl _ | ((try dsimp only); (try simp only [World.size_alloc, grow_size, World.size_setCell]); omega))))))⟩
        case measure => simp [intOf]; omega
      | true =>
        have HDT := hid (show d = (Cap.mk true d.base d.top d.at_ d.perms d.type) by rw [← hdt])
        have HRI := hid (show ∀ W, Calls Try.prog 22 #[.agg #[.bool true, .int .i64 d.base, .int .i64 d.top, .int .i64 d.at_, .int .i64 d.perms, .int .i64 d.type]] W fun e w' => e = .returned (.bool (rightC d)) ∧ Ext W w' from fun W => by
          have h9 := rcapRight true d.base d.top d.at_ d.perms d.type W
          rw [← HDT.out] at h9
          exact h9)
        rw [hdt] at q0
        cases hdr : rightC d with
        | false =>
          have HT := hid (show grantsC (l.take (k + 1)) = (grantsC (l.take k)) by rw [HT0.out, hdt, hdr]; rfl)
          rw [hdr] at HRI
          clear hdt
          go_wp2_with fail
          refine (HRI.out _).mono ?_
          rintro e W2 ⟨rfl, hy⟩
          have HY := hid hy
          clear hy hdr
          go_wp2
          go_roundw
          case rel => exact ⟨k + 1, vk, by omega, by go_num, by rw [HT.out]; exact hid (HS.out.ext HY.out), hid (HX.out.trans HY.out)⟩
          case measure => simp [intOf]; omega
        | true =>
          have HT := hid (show grantsC (l.take (k + 1)) = (grantsC (l.take k)) ++ [(Cap.mk true d.base d.top d.at_ d.perms d.type)] by rw [HT0.out, if_pos (show (d.tag && rightC d) = true by rw [hdt, hdr]; rfl), ← HDT.out])
          rw [hdr] at HRI
          clear hdt hdr
          go_wp2_with fail
          refine (HRI.out _).mono ?_
          rintro e W2 ⟨rfl, hy⟩
          clear q0 q1 q2 q3 q4 q5
          go_upto_region 6 with (fail)
          refine wp_gen (fun W3 => Hid (Ext wr W3)) (hid (hy.trans (by repeat (first | (with_reducible exact Ext.refl _) | (with_reducible refine Ext.undrew ?_) | (with_reducible refine Ext.grow ?_ _) | (with_reducible refine Ext.drew ?_) | (with_reducible refine Ext.drewN ?_ _) | (with_reducible refine Ext.alloc ?_ _) | (with_reducible assumption) | ((with_reducible refine Ext.setCell ?_ ?_ _); rotate_left; (first | exact Nat.le_refl _ | ((try dsimp only); (try simp only [World.size_alloc, grow_size, World.size_setCell]); omega))))))) ?_
          clear hy
          rintro W3 HX3
          have HS3 := hid (HS.out.ext HX3.out)
          have HLN := hid (show (grantsC (l.take k)).length ≤ 1000000 by have h9 := grantsC_len (l.take k); rw [List.length_take] at h9; omega)
          have HNA := hid (show ∀ g, vk.ownBlock = some g → ¬ g = s from fun g e e2 => by have := (HS.out.g.lt g e).1; omega)
          refine wp_region_only (S := (fun i => i = s ∨ vk.ownBlock = some i)) (.rd 0 (.rd 1 (.rd 2 (.rd 3 (.rd 5 (.rd 6 (.rd 7 (.rd 8 (.br 4 (.ac 9 (.ac 10 (.rd 11 (.rd 12 (.ac 13 .done))))) 9 (.ac 4 (.ac 10 (.rd 11 (.rd 12 (.ac 13 .done)))))))))))))) (by kernel_rfl) (by kernel_rfl) (fun _ _ d _ _ h => by cases d <;> exact h) (by simp only [Ord.map, nthOp, List.append]; rfl) ?_
          intro d1
          have HX4 := hid (HX3.out.trans (Ext.grow (Ext.refl W3) d1))
          have HS4 := hid (HS3.out.ext (Ext.grow (Ext.refl W3) d1))
          generalize Go.Proofs.Ytlapemeoffpmgaa.grow W3 d1 = W4 at HX4 HS4 ⊢
          have hc4 := HS4.out.c0
          have hf4 := HS4.out.f0
          have HO4 := hid HS4.out.g
          clear HX3 HS3
          have hb4 := HS4.out.lt
          have HBS := hid (show s + 1 ≤ W4.heap.size by omega)
          have HRA := hid (show ∀ w', Only (fun i => i = s ∨ vk.ownBlock = some i) W4 w' → w'.rangeAt b' (o' + k * 6) (Cap.cells (Cap.mk true d.base d.top d.at_ d.perms d.type)) from fun w' hw' => by
            obtain ⟨b2, o2, e2, hb2, hr2⟩ := HEL.out W4 (HX.out.trans HX4.out)
            simp only [Option.some.injEq, Addr.mk.injEq, and_true] at e2
            obtain ⟨rfl, rfl⟩ := e2
            rw [HDT.out] at hr2
            intro j u hj
            exact (hw'.cells b' _ hb2 (by
              have h9 := HBW.out
              rintro (e | e)
              · omega
              · have := (HS4.out.g.lt b' e).1; omega)).trans (hr2 j u hj))
          refine only_read (by rfl) (fun K hK => ?_)
          go_big_quiet_op
          refine hK _ ?_
          clear hK K
          refine only_read (by rfl) (fun K hK => ?_)
          go_big_quiet_op
          refine hK _ ?_
          clear hK K
          refine only_read (by rfl) (fun K hK => ?_)
          refine quiet_runD 31 rfl (.pointer (some ⟨s, 0, none⟩)) (fun w => by go_simp) ?_
          refine hK _ ?_
          clear hK K
          simp only [Act.put, List.setIfInBounds_toArray, List.set_cons_zero, List.set_cons_succ]
          refine only_read (by rfl) (fun K hK => ?_)
          refine quiet_runD 32 rfl (.pointer (some ⟨s, 0, none⟩)) (fun w => by go_simp) ?_
          refine hK _ ?_
          clear hK K
          simp only [Act.put, List.setIfInBounds_toArray, List.set_cons_zero, List.set_cons_succ]
          refine only_read (by rfl) (fun K hK => ?_)
          go_big_quiet_op
          refine hK _ ?_
          clear hK K
          refine only_read (by rfl) (fun K hK => ?_)
          go_big_quiet_op
          refine hK _ ?_
          clear hK K
          refine only_read (by rfl) (fun K hK => ?_)
          refine quiet_runD 36 rfl (.pointer (some ⟨b', o' + k * 6, none⟩)) (fun w => by go_simp) ?_
          refine hK _ ?_
          clear hK K
          simp only [Act.put, List.setIfInBounds_toArray, List.set_cons_zero, List.set_cons_succ]
          refine only_read (by rfl) (fun K hK => ?_)
          refine quiet_loadC 24 (.tmp 36) rfl b' (o' + k * 6) rfl (Cap.cells (Cap.mk true d.base d.top d.at_ d.perms d.type)) _ (fun w' hw' => HRA.out w' hw') Try.underlying24 rfl (by kernel_rfl) ?_
          refine hK _ ?_
          clear hK K
          simp only [Act.put, List.setIfInBounds_toArray, List.set_cons_zero, List.set_cons_succ]
          refine only_br ?_ ?_
          · refine only_act (by rfl) (fun K hK => ?_)
            go_wp2_with fail
            refine ⟨_, Only.refl _ _, Only.refl _ _, ?_⟩
            refine only_act (by rfl) (fun K hK => ?_)
            refine wp_build1 22 24 (.tmp 37) rfl #[.bool true, .int .i64 d.base, .int .i64 d.top, .int .i64 d.at_, .int .i64 d.perms, .int .i64 d.type] 6 rfl rfl (by omega) (by omega) Try.underlying22 (by kernel_rfl) (by kernel_rfl) ?_
            refine hK _ _ ⟨_, Only.refl _ _, Only.ofExt (Ext.alloc (Ext.refl _) _), ?_⟩
            refine only_gen (fun W => Hid (Ext W4 W) ∧ Hid (Row W W4.heap.size 0 (Cap.cells (Cap.mk true d.base d.top d.at_ d.perms d.type)))) ⟨hid (Ext.alloc (Ext.refl _) _), hid (Row.new W4 _ _)⟩ ?_
            clear hK K
            rintro w4 ⟨hE4, hR4⟩
            have hS5 : Hid (Only (fun i => i = s ∨ vk.ownBlock = some i) W4 w4) := hid (Only.ofExt hE4.out)
            have hc5 := (hE4.out.cells s 0 hb4).trans hc4
            refine only_act (by rfl) (fun K hK => ?_)
            refine wp_app_row cap_len (by decide) cap_one Try.underlying22 info_capN (.tmp 33) (.tmp 38) rfl (s + 1) vk ((grantsC (l.take k))).length (rowF Cap.cells ((grantsC (l.take k)))) rfl (HO4.out.ext hE4.out) (some ⟨W4.heap.size, 0, none⟩) 1 1 [(Cap.mk true d.base d.top d.at_ d.perms d.type)] rfl rfl (rdF_row0 (f := Cap.cells) (z := (Cap.mk true d.base d.top d.at_ d.perms d.type)) hR4.out) (by have := HLN.out; unfold maxLen; omega) (by have := HLN.out; omega) (Nat.le_trans HBS.out hE4.out.size) ?_
            intro v6 w6 hown6 hgrow hat
            obtain ⟨A6, c6, hv6, _, _⟩ := hown6.shape
            subst hv6
            have HO6 : Hid (ownsAt w6 (s + 1) 24 6 (.slice A6 (((grantsC (l.take k))).length + 1) c6) ((grantsC (l.take k)) ++ [(Cap.mk true d.base d.top d.at_ d.perms d.type)]).length (rowF Cap.cells ((grantsC (l.take k)) ++ [(Cap.mk true d.base d.top d.at_ d.perms d.type)]))) := hid (by rw [rowF_append, List.length_append]; exact hown6)
            have HT6 : Hid (Only (fun i => vk.ownBlock = some i) W4 w6) := hid ((Only.ofExt hE4.out).trans' (grownOnly hgrow fun g hg => hg))
            have hS6 : Hid (Only (fun i => i = s ∨ vk.ownBlock = some i) W4 w6) := hid (Only.trans' hS5.out (grownOnly hgrow fun g hg => .inr hg))
            have HAT : Hid (∀ g, (Value.slice A6 (((grantsC (l.take k))).length + 1) c6).ownBlock = some g → vk.ownBlock = some g ∨ W4.heap.size ≤ g) := hid (fun g h => by
              rcases hat with h' | ⟨g', h', hlt⟩
              · exact .inl (h' ▸ h)
              · rw [h] at h'
                simp only [Option.some.injEq] at h'
                have := hE4.out.size
                exact .inr (by omega))
            have hc6 := (HT6.out.cells s 0 hb4 (fun e => HNA.out s e rfl)).trans hc4
            have hf6 := (HT6.out.frozens s 0 hb4 (fun e => HNA.out s e rfl)).trans hf4
            have hb6 : s < w6.heap.size := Nat.lt_of_lt_of_le hb4 HT6.out.size
            refine hK _ _ ⟨_, Only.refl _ _, hS6.out, ?_⟩
            clear hK K hgrow hS5 hR4 hE4 hc5 hat hown6
            simp only [Act.put, List.setIfInBounds_toArray, List.set_cons_zero, List.set_cons_succ]
            refine only_read (by rfl) (fun K hK => ?_)
            refine quiet_runD 40 rfl (.pointer (some ⟨s, 0, none⟩)) (fun w => by go_simp) ?_
            refine hK _ ?_
            clear hK K
            simp only [Act.put, List.setIfInBounds_toArray, List.set_cons_zero, List.set_cons_succ]
            refine only_read (by rfl) (fun K hK => ?_)
            refine quiet_runD 41 rfl (.pointer (some ⟨s, 0, none⟩)) (fun w => by go_simp) ?_
            refine hK _ ?_
            clear hK K
            simp only [Act.put, List.setIfInBounds_toArray, List.set_cons_zero, List.set_cons_succ]
            refine only_act (by rfl) (fun K hK => ?_)
            go_wp2_with fail
            refine ⟨_, Only.refl _ _, Only.setCell (S := (fun i => i = s ∨ vk.ownBlock = some i)) hS6.out (Or.inl (Or.inl rfl)) _, ?_⟩
            refine only_nil ?_
            have HS7 := hid (HS4.out.put0 (T := fun i => vk.ownBlock = some i) HT6.out (fun i h => .inl h) HO6.out HAT.out)
            have HE7 : Hid (Ext w (w6.setCell ⟨s, 0, none⟩ (.slice A6 ((grantsC (l.take k)).length + 1) c6))) := hid (Ext.only (HX.out.trans HX4.out) (Only.setCell (S := fun i => s ≤ i) (Only.trans (Only.refl _ W4) HT6.out (fun i h => .inl (by have := (HO4.out.lt i h).1; omega))) (.inl (Nat.le_refl _)) _) (fun i hi => by omega))
            clear HS4 HT6 HO6 HAT hc6 hf6 hb6
            rw [← HT.out] at HS7
            go_wp2
            go_roundw
            case rel => exact ⟨k + 1, _, by omega, by go_num, HS7, HE7⟩
            case measure => simp [intOf]; omega
          · refine only_act (by rfl) (fun K hK => ?_)
            refine wp_build1 22 24 (.tmp 37) rfl #[.bool true, .int .i64 d.base, .int .i64 d.top, .int .i64 d.at_, .int .i64 d.perms, .int .i64 d.type] 6 rfl rfl (by omega) (by omega) Try.underlying22 (by kernel_rfl) (by kernel_rfl) ?_
            refine hK _ _ ⟨_, Only.refl _ _, Only.ofExt (Ext.alloc (Ext.refl _) _), ?_⟩
            refine only_gen (fun W => Hid (Ext W4 W) ∧ Hid (Row W W4.heap.size 0 (Cap.cells (Cap.mk true d.base d.top d.at_ d.perms d.type)))) ⟨hid (Ext.alloc (Ext.refl _) _), hid (Row.new W4 _ _)⟩ ?_
            clear hK K
            rintro w4 ⟨hE4, hR4⟩
            have hS5 : Hid (Only (fun i => i = s ∨ vk.ownBlock = some i) W4 w4) := hid (Only.ofExt hE4.out)
            have hc5 := (hE4.out.cells s 0 hb4).trans hc4
            refine only_act (by rfl) (fun K hK => ?_)
            go_wp2_with fail
            refine ⟨_, Only.refl _ _, hS5.out, ?_⟩
            refine only_act (by rfl) (fun K hK => ?_)
            refine wp_app_row cap_len (by decide) cap_one Try.underlying22 info_capN (.tmp 33) (.tmp 38) rfl (s + 1) vk ((grantsC (l.take k))).length (rowF Cap.cells ((grantsC (l.take k)))) rfl (HO4.out.ext hE4.out) (some ⟨W4.heap.size, 0, none⟩) 1 1 [(Cap.mk true d.base d.top d.at_ d.perms d.type)] rfl rfl (rdF_row0 (f := Cap.cells) (z := (Cap.mk true d.base d.top d.at_ d.perms d.type)) hR4.out) (by have := HLN.out; unfold maxLen; omega) (by have := HLN.out; omega) (Nat.le_trans HBS.out hE4.out.size) ?_
            intro v6 w6 hown6 hgrow hat
            obtain ⟨A6, c6, hv6, _, _⟩ := hown6.shape
            subst hv6
            have HO6 : Hid (ownsAt w6 (s + 1) 24 6 (.slice A6 (((grantsC (l.take k))).length + 1) c6) ((grantsC (l.take k)) ++ [(Cap.mk true d.base d.top d.at_ d.perms d.type)]).length (rowF Cap.cells ((grantsC (l.take k)) ++ [(Cap.mk true d.base d.top d.at_ d.perms d.type)]))) := hid (by rw [rowF_append, List.length_append]; exact hown6)
            have HT6 : Hid (Only (fun i => vk.ownBlock = some i) W4 w6) := hid ((Only.ofExt hE4.out).trans' (grownOnly hgrow fun g hg => hg))
            have hS6 : Hid (Only (fun i => i = s ∨ vk.ownBlock = some i) W4 w6) := hid (Only.trans' hS5.out (grownOnly hgrow fun g hg => .inr hg))
            have HAT : Hid (∀ g, (Value.slice A6 (((grantsC (l.take k))).length + 1) c6).ownBlock = some g → vk.ownBlock = some g ∨ W4.heap.size ≤ g) := hid (fun g h => by
              rcases hat with h' | ⟨g', h', hlt⟩
              · exact .inl (h' ▸ h)
              · rw [h] at h'
                simp only [Option.some.injEq] at h'
                have := hE4.out.size
                exact .inr (by omega))
            have hc6 := (HT6.out.cells s 0 hb4 (fun e => HNA.out s e rfl)).trans hc4
            have hf6 := (HT6.out.frozens s 0 hb4 (fun e => HNA.out s e rfl)).trans hf4
            have hb6 : s < w6.heap.size := Nat.lt_of_lt_of_le hb4 HT6.out.size
            refine hK _ _ ⟨_, Only.refl _ _, hS6.out, ?_⟩
            clear hK K hgrow hS5 hR4 hE4 hc5 hat hown6
            simp only [Act.put, List.setIfInBounds_toArray, List.set_cons_zero, List.set_cons_succ]
            refine only_read (by rfl) (fun K hK => ?_)
            refine quiet_runD 40 rfl (.pointer (some ⟨s, 0, none⟩)) (fun w => by go_simp) ?_
            refine hK _ ?_
            clear hK K
            simp only [Act.put, List.setIfInBounds_toArray, List.set_cons_zero, List.set_cons_succ]
            refine only_read (by rfl) (fun K hK => ?_)
            refine quiet_runD 41 rfl (.pointer (some ⟨s, 0, none⟩)) (fun w => by go_simp) ?_
            refine hK _ ?_
            clear hK K
            simp only [Act.put, List.setIfInBounds_toArray, List.set_cons_zero, List.set_cons_succ]
            refine only_act (by rfl) (fun K hK => ?_)
            go_wp2_with fail
            refine ⟨_, Only.refl _ _, Only.setCell (S := (fun i => i = s ∨ vk.ownBlock = some i)) hS6.out (Or.inl (Or.inl rfl)) _, ?_⟩
            refine only_nil ?_
            have HS7 := hid (HS4.out.put0 (T := fun i => vk.ownBlock = some i) HT6.out (fun i h => .inl h) HO6.out HAT.out)
            have HE7 : Hid (Ext w (w6.setCell ⟨s, 0, none⟩ (.slice A6 ((grantsC (l.take k)).length + 1) c6))) := hid (Ext.only (HX.out.trans HX4.out) (Only.setCell (S := fun i => s ≤ i) (Only.trans (Only.refl _ W4) HT6.out (fun i h => .inl (by have := (HO4.out.lt i h).1; omega))) (.inl (Nat.le_refl _)) _) (fun i hi => by omega))
            clear HS4 HT6 HO6 HAT hc6 hf6 hb6
            rw [← HT.out] at HS7
            go_wp2
            go_roundw
            case rel => exact ⟨k + 1, _, by omega, by go_num, HS7, HE7⟩
            case measure => simp [intOf]; omega
    · obtain rfl : m = k := by omega
      have hk1 : ¬ (m : Int) < (m : Int) := by omega
      rw [show l.take m = l from List.take_of_length_le (by rw [HM.out]; exact Nat.le_refl _)] at HS
      have HGT0 := hid (grants_ty l)
      have HGL := hid (show (grantsC l).length ≤ 1000 by have := grantsC_len l; have := HM.out; omega)
      have HGM := hid (show (grantsC l).length ≤ m by have := grantsC_len l; have := HM.out; omega)
      generalize hG : grantsC l = G at HS HGL HGM
      have HGG := hid hG
      clear hG
      obtain ⟨mg, hmg⟩ : ∃ x, G.length = x := ⟨_, rfl⟩
      obtain ⟨Ag, cg, rfl, _, _⟩ := HS.out.g.shape
      rw [hmg] at HS HGL HGM
      have HMG := hid hmg
      have hmg1 := HGL.out
      clear hmg
      go_wp2
      go_loopw [5] (fun v wr => ∃ (mo : Bool) (u : Value) (O : List Cap), v = .bool mo ∧ Hid (NwS wr s (.slice Ag mg cg) G u O) ∧ Hid O.Nodup ∧ Hid (∀ x ∈ O, Opn G x) ∧ Hid (mo = false → ∀ g ∈ G, opensB O g = true → g.norm ∈ O) ∧ Hid (Ext w wr)) (fun v wr => 2 * (mg + 1 - lenC wr s) + boolN v)
      case atStart => exact ⟨true, _, [], rfl, HS, hid List.nodup_nil, hid (fun x hx => by cases hx), hid (fun e => by cases e), HX⟩
      case round =>
        clear HS HX
        obtain ⟨mo, u, O, rfl, HSo, HNo, HPo, HCo, HXo⟩ := hrel
        cases mo with
        | false =>
          have HFI := hid (show ∀ x, x ∈ O ↔ Opn G x from closed_opn HPo.out (HCo.out rfl) fun g hg => by rw [← HGG.out] at hg; exact (HGT0.out g hg).2)
          obtain ⟨Au, cu, rfl, _, _⟩ := HSo.out.o.shape
          go_wp2
          go_ret
          refine ⟨s, rfl, Ag, cg, Au, cu, O, hid ?cls, hid ?ifo, HNo, hid ?nle, HXo⟩
          case cls => rw [HGG.out]; have h := HSo.out; rw [← HMG.out] at h; exact h.clS
          case ifo => rw [HGG.out]; exact HFI.out
          case nle => have := opn_len HNo.out HPo.out; have := HMG.out; have := HGM.out; omega
        | true =>
          go_wp2
          go_loopw [5, 6] (fun v i wx => ∃ (k : Nat) (mo : Bool) (u' : Value) (O' : List Cap), k ≤ mg ∧ i = .int .i64 k ∧ v = .bool mo ∧ Hid (NwS wx s (.slice Ag mg cg) G u' O') ∧ Hid O'.Nodup ∧ Hid (∀ x ∈ O', Opn G x) ∧ Hid (StpN mo O O' (G.take k)) ∧ Hid (Ext w wx)) (fun _ i _ => mg - (intOf i).toNat)
          case atStart => exact ⟨0, false, u, O, Nat.zero_le _, rfl, rfl, HSo, HNo, HPo, hid (StpN.start O), HXo⟩
          case round =>
            obtain ⟨k, mo, u', O', hk, rfl, rfl, HS, HN, HP, HT, HX⟩ := hrel
            obtain ⟨Au, cu, rfl, _, _⟩ := HS.out.o.shape
            obtain ⟨lo, hlo⟩ : ∃ x, O'.length = x := ⟨_, rfl⟩
            have hlo1 : lo ≤ 1000 := by have := opn_len HN.out HP.out; have := HMG.out; have := HGL.out; omega
            rw [hlo] at HS
            have HLO := hid hlo
            clear hlo
            have hk0 : (0 : Int) ≤ (k : Int) := by omega
            have hc0 := HS.out.c0
            have hsl0 := HS.out.lt
            by_cases hlt : k < mg
            · have hk1 : (k : Int) < (mg : Int) := by omega
              have hkl : k < G.length := by rw [HMG.out]; exact hlt
              obtain ⟨g, hg⟩ : ∃ g, G[k] = g := ⟨_, rfl⟩
              have HGI := hid (show g ∈ G by rw [← hg]; exact List.getElem_mem hkl)
              have HTK := hid (show G.take (k + 1) = G.take k ++ [g] by rw [← hg]; exact List.take_succ_eq_append_getElem hkl)
              obtain ⟨bg, og, eg, hbg, q0, q1, q2, q3, q4, q5⟩ := (HS.out.rdG HMG.out).cap hkl g hg
              have HEG := hid eg
              rw [eg] at hc0
              clear hg eg
              go_upto_region 14 with (fail)
              obtain ⟨bx, hbx⟩ : ∃ x, wr.heap.size = x := ⟨_, rfl⟩
              refine wp_gen (fun W => Hid (Ext wr W) ∧ Hid (Row W bx 0 (Cap.cells (Cap.mk g.tag g.base g.top g.at_ g.perms g.type)))) ⟨hid (by repeat (first | (with_reducible exact Ext.refl _) | (with_reducible refine Ext.undrew ?_) | (with_reducible refine Ext.grow ?_ _) | (with_reducible refine Ext.drew ?_) | (with_reducible refine Ext.drewN ?_ _) | (with_reducible refine Ext.alloc ?_ _) | (with_reducible assumption) | ((with_reducible refine Ext.setCell ?_ ?_ _); rotate_left; (first | exact Nat.le_refl _ | ((try dsimp only); (try simp only [World.size_alloc, grow_size, World.size_setCell]); omega))))), hid (by subst hbx; exact Row.new wr #[.bool g.tag, .int .i64 g.base, .int .i64 g.top, .int .i64 g.at_, .int .i64 g.perms, .int .i64 g.type] 24)⟩ ?_
              rintro W3 ⟨HX3, HR3⟩
              rw [hbx]
              have hx3 := HX3.out
              have HS3 := hid (HS.out.ext hx3)
              have hc1 := HS3.out.c1
              have hsl := HS3.out.lt
              clear HX3 q0 q1 q2 q3 q4 q5
              obtain ⟨p0, p1, p2, p3, p4, p5, p6⟩ := Row.six (c := (Cap.mk g.tag g.base g.top g.at_ g.perms g.type)) (HR3.out)
              simp only [Nat.zero_add] at p2 p3 p4 p5 p6
              by_cases ht : g.type ≤ 1
              · have d1 : decide (g.type ≤ 1) = true := decide_eq_true ht
                have HOPB := hid (show opensB O' g = true by unfold opensB; rw [d1]; rfl)
                go_upto_region 14 with (fail)
                refine wp_region_grow (by kernel_rfl) (by kernel_rfl) (by first | (simp only [List.append]; rfl) | rfl) ?_
                (repeat (go_big_quiet_step (fail)))
                refine wpQuiet_nil ?_
                intro wq hq
                obtain ⟨dq, rfl⟩ := hq
                have f5 : World.frozen? W3 ⟨bx, 5, none⟩ = false := by have h9 := HR3.out.free 5 (by show 5 < 6; decide); rwa [Nat.zero_add] at h9
                have f3 : World.frozen? W3 ⟨bx, 3, none⟩ = false := by have h9 := HR3.out.free 3 (by show 3 < 6; decide); rwa [Nat.zero_add] at h9
                go_upto_region 17 with (fail)
                refine wp_gen (fun W => Hid (Ext wr W) ∧ Hid (Row W bx 0 (Cap.cells (Cap.mk g.tag g.base g.top g.base g.perms 0)))) ⟨hid ?ex1, hid ?rw1⟩ ?_
                case ex1 => exact Ext.grow (Ext.only hx3 (Only.setCell (S := fun i => i = bx) (Only.setCell (S := fun i => i = bx) (Only.refl _ _) (.inl rfl) _) (.inl rfl) _) (fun i hi => by omega)) _
                case rw1 => exact ((HR3.out.set1 (j := 5) (.int .i64 0)).set1 (j := 3) (.int .i64 g.base)).ext (Ext.grow (Ext.refl _) _)
                rintro W4g ⟨HX4g, HR4g⟩
                clear f3 f5 hx3 HR3 p0 p1 p2 p3 p4 p5 p6
                have HS4g := hid (HS.out.ext HX4g.out)
                have hc1 := HS4g.out.c1
                have hsl := HS4g.out.lt
                obtain ⟨p0, p1, p2, p3, p4, p5, p6⟩ := Row.six (c := (Cap.mk g.tag g.base g.top g.base g.perms 0)) (HR4g.out)
                simp only [Nat.zero_add] at p2 p3 p4 p5 p6
                have HHL := hid (show ∀ W, Ext W4g W → Calls Try.prog 28 #[.slice Au lo cu, .agg #[.bool g.tag, .int .i64 g.base, .int .i64 g.top, .int .i64 g.base, .int .i64 g.perms, .int .i64 0]] W fun e w' => e = .returned (.bool (decide ((Cap.mk g.tag g.base g.top g.base g.perms 0) ∈ O'))) ∧ Ext W w' from fun W hxx => by
                  rw [← any_mem]
                  exact rhasl_ Au lo cu O' g.tag g.base g.top g.base g.perms 0 W ((HS4g.out.rdO HLO.out).ext hxx) HLO.out (by omega))
                have HGO := hid (show Opn G (Cap.mk g.tag g.base g.top g.base g.perms 0) from opens_opn HGI.out HP.out HOPB.out)
                by_cases hin : (Cap.mk g.tag g.base g.top g.base g.perms 0) ∈ O'
                · have HIN := hid hin
                  rw [decide_eq_true hin] at HHL
                  clear hin
                  go_upto_region 17 with (fail)
                  refine wp_region_grow (by kernel_rfl) (by kernel_rfl) (by first | (simp only [List.append]; rfl) | rfl) ?_
                  (repeat (go_big_quiet_step ((go_at_call 28; exact growOf (HHL.out _ (by repeat (first | (with_reducible exact Ext.refl _) | (with_reducible refine Ext.undrew ?_) | (with_reducible refine Ext.grow ?_ _) | (with_reducible refine Ext.drew ?_) | (with_reducible refine Ext.drewN ?_ _) | (with_reducible refine Ext.alloc ?_ _) | (with_reducible assumption) | ((with_reducible refine Ext.setCell ?_ ?_ _); rotate_left; (first | exact Nat.le_refl _ | ((try dsimp only); (try simp only [World.size_alloc, grow_size, World.size_setCell]); omega))))))))))
                  refine wpQuiet_nil ?_
                  intro wq hq
                  obtain ⟨dq, rfl⟩ := hq
                  go_wp2
                  go_roundw
                  case rel => exact ⟨k + 1, mo, _, O', by omega, by go_num, rfl, hid (HS.out.ext (HX4g.out.trans (by repeat (first | (with_reducible exact Ext.refl _) | (with_reducible refine Ext.undrew ?_) | (with_reducible refine Ext.grow ?_ _) | (with_reducible refine Ext.drew ?_) | (with_reducible refine Ext.drewN ?_ _) | (with_reducible refine Ext.alloc ?_ _) | (with_reducible assumption) | ((with_reducible refine Ext.setCell ?_ ?_ _); rotate_left; (first | exact Nat.le_refl _ | ((try dsimp only); (try simp only [World.size_alloc, grow_size, World.size_setCell]); omega))))))), HN, HP, hid (by rw [HTK.out]; exact HT.out.no fun _ => HIN.out), hid (HX.out.trans (HX4g.out.trans (by repeat (first | (with_reducible exact Ext.refl _) | (with_reducible refine Ext.undrew ?_) | (with_reducible refine Ext.grow ?_ _) | (with_reducible refine Ext.drew ?_) | (with_reducible refine Ext.drewN ?_ _) | (with_reducible refine Ext.alloc ?_ _) | (with_reducible assumption) | ((with_reducible refine Ext.setCell ?_ ?_ _); rotate_left; (first | exact Nat.le_refl _ | ((try dsimp only); (try simp only [World.size_alloc, grow_size, World.size_setCell]); omega)))))))⟩
                  case measure => simp [intOf]; omega
                · have HNI := hid hin
                  rw [decide_eq_false hin] at HHL
                  clear hin
                  go_upto_region 17 with (fail)
                  refine wp_region_grow (by kernel_rfl) (by kernel_rfl) (by first | (simp only [List.append]; rfl) | rfl) ?_
                  (repeat (go_big_quiet_step ((go_at_call 28; exact growOf (HHL.out _ (by repeat (first | (with_reducible exact Ext.refl _) | (with_reducible refine Ext.undrew ?_) | (with_reducible refine Ext.grow ?_ _) | (with_reducible refine Ext.drew ?_) | (with_reducible refine Ext.drewN ?_ _) | (with_reducible refine Ext.alloc ?_ _) | (with_reducible assumption) | ((with_reducible refine Ext.setCell ?_ ?_ _); rotate_left; (first | exact Nat.le_refl _ | ((try dsimp only); (try simp only [World.size_alloc, grow_size, World.size_setCell]); omega))))))))))
                  refine wpQuiet_nil ?_
                  intro wq hq
                  obtain ⟨dq, rfl⟩ := hq
                  go_upto_region 18 with (fail)
                  refine wp_gen (fun W3 => Hid (Ext wr W3) ∧ Hid (Row W3 bx 0 (Cap.cells (Cap.mk g.tag g.base g.top g.base g.perms 0)))) ⟨hid (HX4g.out.trans (by repeat (first | (with_reducible exact Ext.refl _) | (with_reducible refine Ext.undrew ?_) | (with_reducible refine Ext.grow ?_ _) | (with_reducible refine Ext.drew ?_) | (with_reducible refine Ext.drewN ?_ _) | (with_reducible refine Ext.alloc ?_ _) | (with_reducible assumption) | ((with_reducible refine Ext.setCell ?_ ?_ _); rotate_left; (first | exact Nat.le_refl _ | ((try dsimp only); (try simp only [World.size_alloc, grow_size, World.size_setCell]); omega)))))), hid (HR4g.out.ext (by repeat (first | (with_reducible exact Ext.refl _) | (with_reducible refine Ext.undrew ?_) | (with_reducible refine Ext.grow ?_ _) | (with_reducible refine Ext.drew ?_) | (with_reducible refine Ext.drewN ?_ _) | (with_reducible refine Ext.alloc ?_ _) | (with_reducible assumption) | ((with_reducible refine Ext.setCell ?_ ?_ _); rotate_left; (first | exact Nat.le_refl _ | ((try dsimp only); (try simp only [World.size_alloc, grow_size, World.size_setCell]); omega))))))⟩ ?_
                  rintro W3 ⟨HX3, HR3⟩
                  have HS3 := hid (HS.out.ext HX3.out)
                  clear p0 p1 p2 p3 p4 p5 p6
                  clear HX4g HR4g
                  obtain ⟨vk, hvk⟩ : ∃ x, Value.slice Au lo cu = x := ⟨_, rfl⟩
                  rw [hvk] at HS3 HS
                  clear hvk
                  have HLN := hid (show O'.length ≤ 1000000 by have := opn_len HN.out HP.out; have := HMG.out; have := HGL.out; omega)
                  have HNA := hid (show ∀ g, vk.ownBlock = some g → ¬ g = s from fun g e e2 => by have := (HS.out.o.lt g e).1; omega)
                  have HVK := hid (show ∀ g, vk.ownBlock = some g → g < bx from fun g e => by have := (HS.out.o.lt g e).2; omega)
                  have hsb := HS.out.lt
                  refine wp_region_only (S := (fun i => i = s ∨ vk.ownBlock = some i)) (.rd 0 (.rd 1 (.rd 2 (.rd 3 (.rd 5 (.br 4 (.ac 6 (.ac 7 (.rd 8 (.rd 9 (.ac 10 .done))))) 6 (.ac 4 (.ac 7 (.rd 8 (.rd 9 (.ac 10 .done))))))))))) (by kernel_rfl) (by kernel_rfl) (fun _ _ d _ _ h => by cases d <;> exact h) (by simp only [Ord.map, nthOp, List.append]; rfl) ?_
                  intro d1
                  have HX4 := hid (HX3.out.trans (Ext.grow (Ext.refl W3) d1))
                  have HS4 := hid (HS3.out.ext (Ext.grow (Ext.refl W3) d1))
                  have HR4 := hid (HR3.out.ext (Ext.grow (Ext.refl W3) d1))
                  generalize Go.Proofs.Ytlapemeoffpmgaa.grow W3 d1 = W4 at HX4 HS4 HR4 ⊢
                  have hc4 := HS4.out.c1
                  have hf4 := HS4.out.f1
                  have HO4 := hid HS4.out.o
                  clear HX3 HS3 HR3
                  have hb4 := HS4.out.lt
                  have HBS := hid (show s + 1 ≤ W4.heap.size by omega)
                  have hSb : ¬ (bx = s ∨ vk.ownBlock = some bx) := by
                    rintro (h | h)
                    · omega
                    · have := HVK.out bx h; omega
                  refine only_read (by rfl) (fun K hK => ?_)
                  go_big_quiet_op
                  refine hK _ ?_
                  clear hK K
                  refine only_read (by rfl) (fun K hK => ?_)
                  go_big_quiet_op
                  refine hK _ ?_
                  clear hK K
                  refine only_read (by rfl) (fun K hK => ?_)
                  refine quiet_runD 87 rfl (.pointer (some ⟨s, 0, none⟩)) (fun w => by go_simp) ?_
                  refine hK _ ?_
                  clear hK K
                  simp only [Act.put, List.setIfInBounds_toArray, List.set_cons_zero, List.set_cons_succ]
                  refine only_read (by rfl) (fun K hK => ?_)
                  refine quiet_runD 88 rfl (.pointer (some ⟨s, 1, none⟩)) (fun w => by go_simp) ?_
                  refine hK _ ?_
                  clear hK K
                  simp only [Act.put, List.setIfInBounds_toArray, List.set_cons_zero, List.set_cons_succ]
                  refine only_read (by rfl) (fun K hK => ?_)
                  refine quiet_loadC 24 (.tmp 7) rfl bx 0 rfl (Cap.cells (Cap.mk g.tag g.base g.top g.base g.perms 0)) _ (fun w' hw' => (HR4.out.only hw' hSb).range) Try.underlying24 rfl (by kernel_rfl) ?_
                  refine hK _ ?_
                  clear hK K
                  simp only [Act.put, List.setIfInBounds_toArray, List.set_cons_zero, List.set_cons_succ]
                  refine only_br ?_ ?_
                  · refine only_act (by rfl) (fun K hK => ?_)
                    go_wp2_with fail
                    refine ⟨_, Only.refl _ _, Only.refl _ _, ?_⟩
                    refine only_act (by rfl) (fun K hK => ?_)
                    refine wp_build1 22 24 (.tmp 90) rfl #[.bool g.tag, .int .i64 g.base, .int .i64 g.top, .int .i64 g.base, .int .i64 g.perms, .int .i64 0] 6 rfl rfl (by omega) (by omega) Try.underlying22 (by kernel_rfl) (by kernel_rfl) ?_
                    refine hK _ _ ⟨_, Only.refl _ _, Only.ofExt (Ext.alloc (Ext.refl _) _), ?_⟩
                    refine only_gen (fun W => Hid (Ext W4 W) ∧ Hid (Row W W4.heap.size 0 (Cap.cells (Cap.mk g.tag g.base g.top g.base g.perms 0)))) ⟨hid (Ext.alloc (Ext.refl _) _), hid (Row.new W4 _ _)⟩ ?_
                    clear hK K
                    rintro w4 ⟨hE4, hR4⟩
                    have hS5 : Hid (Only (fun i => i = s ∨ vk.ownBlock = some i) W4 w4) := hid (Only.ofExt hE4.out)
                    have hc5 := (hE4.out.cells s 1 hb4).trans hc4
                    refine only_act (by rfl) (fun K hK => ?_)
                    refine wp_app_row cap_len (by decide) cap_one Try.underlying22 info_capN (.tmp 89) (.tmp 91) rfl (s + 1) vk (O').length (rowF Cap.cells (O')) rfl (HO4.out.ext hE4.out) (some ⟨W4.heap.size, 0, none⟩) 1 1 [(Cap.mk g.tag g.base g.top g.base g.perms 0)] rfl rfl (rdF_row0 (f := Cap.cells) (z := (Cap.mk g.tag g.base g.top g.base g.perms 0)) hR4.out) (by have := HLN.out; unfold maxLen; omega) (by have := HLN.out; omega) (Nat.le_trans HBS.out hE4.out.size) ?_
                    intro v6 w6 hown6 hgrow hat
                    obtain ⟨A6, c6, hv6, _, _⟩ := hown6.shape
                    subst hv6
                    have HO6 : Hid (ownsAt w6 (s + 1) 24 6 (.slice A6 ((O').length + 1) c6) (O' ++ [(Cap.mk g.tag g.base g.top g.base g.perms 0)]).length (rowF Cap.cells (O' ++ [(Cap.mk g.tag g.base g.top g.base g.perms 0)]))) := hid (by rw [rowF_append, List.length_append]; exact hown6)
                    have HT6 : Hid (Only (fun i => vk.ownBlock = some i) W4 w6) := hid ((Only.ofExt hE4.out).trans' (grownOnly hgrow fun g hg => hg))
                    have hS6 : Hid (Only (fun i => i = s ∨ vk.ownBlock = some i) W4 w6) := hid (Only.trans' hS5.out (grownOnly hgrow fun g hg => .inr hg))
                    have HAT : Hid (∀ g, (Value.slice A6 ((O').length + 1) c6).ownBlock = some g → vk.ownBlock = some g ∨ W4.heap.size ≤ g) := hid (fun g h => by
                      rcases hat with h' | ⟨g', h', hlt⟩
                      · exact .inl (h' ▸ h)
                      · rw [h] at h'
                        simp only [Option.some.injEq] at h'
                        have := hE4.out.size
                        exact .inr (by omega))
                    have hc6 := (HT6.out.cells s 1 hb4 (fun e => HNA.out s e rfl)).trans hc4
                    have hf6 := (HT6.out.frozens s 1 hb4 (fun e => HNA.out s e rfl)).trans hf4
                    have hb6 : s < w6.heap.size := Nat.lt_of_lt_of_le hb4 HT6.out.size
                    refine hK _ _ ⟨_, Only.refl _ _, hS6.out, ?_⟩
                    clear hK K hgrow hS5 hR4 hE4 hc5 hat hown6
                    simp only [Act.put, List.setIfInBounds_toArray, List.set_cons_zero, List.set_cons_succ]
                    refine only_read (by rfl) (fun K hK => ?_)
                    refine quiet_runD 93 rfl (.pointer (some ⟨s, 0, none⟩)) (fun w => by go_simp) ?_
                    refine hK _ ?_
                    clear hK K
                    simp only [Act.put, List.setIfInBounds_toArray, List.set_cons_zero, List.set_cons_succ]
                    refine only_read (by rfl) (fun K hK => ?_)
                    refine quiet_runD 94 rfl (.pointer (some ⟨s, 1, none⟩)) (fun w => by go_simp) ?_
                    refine hK _ ?_
                    clear hK K
                    simp only [Act.put, List.setIfInBounds_toArray, List.set_cons_zero, List.set_cons_succ]
                    refine only_act (by rfl) (fun K hK => ?_)
                    go_wp2_with fail
                    refine ⟨_, Only.refl _ _, Only.setCell (S := (fun i => i = s ∨ vk.ownBlock = some i)) hS6.out (Or.inl (Or.inl rfl)) _, ?_⟩
                    refine only_nil ?_
                    have HS7 := hid (HS4.out.put1 (T := fun i => vk.ownBlock = some i) HT6.out (fun i h => .inl h) HO6.out HAT.out)
                    have HE7 : Hid (Ext w (w6.setCell ⟨s, 1, none⟩ (.slice A6 (O'.length + 1) c6))) := hid (Ext.only (HX.out.trans HX4.out) (Only.setCell (S := fun i => s ≤ i) (Only.trans (Only.refl _ W4) HT6.out (fun i h => .inl (by have := (HO4.out.lt i h).1; omega))) (.inl (Nat.le_refl _)) _) (fun i hi => by omega))
                    clear HS4 HT6 HO6 HAT hc6 hf6 hb6
                    have HND := hid (show (O' ++ [(Cap.mk g.tag g.base g.top g.base g.perms 0)]).Nodup from List.nodup_append.2 ⟨HN.out, by simp, fun a ha b hb e => by
                      obtain rfl := List.mem_singleton.1 hb
                      exact HNI.out (e ▸ ha)⟩)
                    have HOP := hid (show ∀ x ∈ O' ++ [(Cap.mk g.tag g.base g.top g.base g.perms 0)], Opn G x from fun x hx => by
                      rcases List.mem_append.1 hx with h | h
                      · exact HP.out x h
                      · obtain rfl := List.mem_singleton.1 h
                        exact HGO.out)
                    have HST := hid (HT.out.yes (g := (Cap.mk g.tag g.base g.top g.base g.perms 0)) (G.take (k + 1)))
                    go_wp2
                    go_roundw
                    case rel => exact ⟨k + 1, true, _, O' ++ [(Cap.mk g.tag g.base g.top g.base g.perms 0)], by omega, by go_num, rfl, HS7, HND, HOP, HST, HE7⟩
                    case measure => simp [intOf]; omega
                  · refine only_act (by rfl) (fun K hK => ?_)
                    refine wp_build1 22 24 (.tmp 90) rfl #[.bool g.tag, .int .i64 g.base, .int .i64 g.top, .int .i64 g.base, .int .i64 g.perms, .int .i64 0] 6 rfl rfl (by omega) (by omega) Try.underlying22 (by kernel_rfl) (by kernel_rfl) ?_
                    refine hK _ _ ⟨_, Only.refl _ _, Only.ofExt (Ext.alloc (Ext.refl _) _), ?_⟩
                    refine only_gen (fun W => Hid (Ext W4 W) ∧ Hid (Row W W4.heap.size 0 (Cap.cells (Cap.mk g.tag g.base g.top g.base g.perms 0)))) ⟨hid (Ext.alloc (Ext.refl _) _), hid (Row.new W4 _ _)⟩ ?_
                    clear hK K
                    rintro w4 ⟨hE4, hR4⟩
                    have hS5 : Hid (Only (fun i => i = s ∨ vk.ownBlock = some i) W4 w4) := hid (Only.ofExt hE4.out)
                    have hc5 := (hE4.out.cells s 1 hb4).trans hc4
                    refine only_act (by rfl) (fun K hK => ?_)
                    go_wp2_with fail
                    refine ⟨_, Only.refl _ _, hS5.out, ?_⟩
                    refine only_act (by rfl) (fun K hK => ?_)
                    refine wp_app_row cap_len (by decide) cap_one Try.underlying22 info_capN (.tmp 89) (.tmp 91) rfl (s + 1) vk (O').length (rowF Cap.cells (O')) rfl (HO4.out.ext hE4.out) (some ⟨W4.heap.size, 0, none⟩) 1 1 [(Cap.mk g.tag g.base g.top g.base g.perms 0)] rfl rfl (rdF_row0 (f := Cap.cells) (z := (Cap.mk g.tag g.base g.top g.base g.perms 0)) hR4.out) (by have := HLN.out; unfold maxLen; omega) (by have := HLN.out; omega) (Nat.le_trans HBS.out hE4.out.size) ?_
                    intro v6 w6 hown6 hgrow hat
                    obtain ⟨A6, c6, hv6, _, _⟩ := hown6.shape
                    subst hv6
                    have HO6 : Hid (ownsAt w6 (s + 1) 24 6 (.slice A6 ((O').length + 1) c6) (O' ++ [(Cap.mk g.tag g.base g.top g.base g.perms 0)]).length (rowF Cap.cells (O' ++ [(Cap.mk g.tag g.base g.top g.base g.perms 0)]))) := hid (by rw [rowF_append, List.length_append]; exact hown6)
                    have HT6 : Hid (Only (fun i => vk.ownBlock = some i) W4 w6) := hid ((Only.ofExt hE4.out).trans' (grownOnly hgrow fun g hg => hg))
                    have hS6 : Hid (Only (fun i => i = s ∨ vk.ownBlock = some i) W4 w6) := hid (Only.trans' hS5.out (grownOnly hgrow fun g hg => .inr hg))
                    have HAT : Hid (∀ g, (Value.slice A6 ((O').length + 1) c6).ownBlock = some g → vk.ownBlock = some g ∨ W4.heap.size ≤ g) := hid (fun g h => by
                      rcases hat with h' | ⟨g', h', hlt⟩
                      · exact .inl (h' ▸ h)
                      · rw [h] at h'
                        simp only [Option.some.injEq] at h'
                        have := hE4.out.size
                        exact .inr (by omega))
                    have hc6 := (HT6.out.cells s 1 hb4 (fun e => HNA.out s e rfl)).trans hc4
                    have hf6 := (HT6.out.frozens s 1 hb4 (fun e => HNA.out s e rfl)).trans hf4
                    have hb6 : s < w6.heap.size := Nat.lt_of_lt_of_le hb4 HT6.out.size
                    refine hK _ _ ⟨_, Only.refl _ _, hS6.out, ?_⟩
                    clear hK K hgrow hS5 hR4 hE4 hc5 hat hown6
                    simp only [Act.put, List.setIfInBounds_toArray, List.set_cons_zero, List.set_cons_succ]
                    refine only_read (by rfl) (fun K hK => ?_)
                    refine quiet_runD 93 rfl (.pointer (some ⟨s, 0, none⟩)) (fun w => by go_simp) ?_
                    refine hK _ ?_
                    clear hK K
                    simp only [Act.put, List.setIfInBounds_toArray, List.set_cons_zero, List.set_cons_succ]
                    refine only_read (by rfl) (fun K hK => ?_)
                    refine quiet_runD 94 rfl (.pointer (some ⟨s, 1, none⟩)) (fun w => by go_simp) ?_
                    refine hK _ ?_
                    clear hK K
                    simp only [Act.put, List.setIfInBounds_toArray, List.set_cons_zero, List.set_cons_succ]
                    refine only_act (by rfl) (fun K hK => ?_)
                    go_wp2_with fail
                    refine ⟨_, Only.refl _ _, Only.setCell (S := (fun i => i = s ∨ vk.ownBlock = some i)) hS6.out (Or.inl (Or.inl rfl)) _, ?_⟩
                    refine only_nil ?_
                    have HS7 := hid (HS4.out.put1 (T := fun i => vk.ownBlock = some i) HT6.out (fun i h => .inl h) HO6.out HAT.out)
                    have HE7 : Hid (Ext w (w6.setCell ⟨s, 1, none⟩ (.slice A6 (O'.length + 1) c6))) := hid (Ext.only (HX.out.trans HX4.out) (Only.setCell (S := fun i => s ≤ i) (Only.trans (Only.refl _ W4) HT6.out (fun i h => .inl (by have := (HO4.out.lt i h).1; omega))) (.inl (Nat.le_refl _)) _) (fun i hi => by omega))
                    clear HS4 HT6 HO6 HAT hc6 hf6 hb6
                    have HND := hid (show (O' ++ [(Cap.mk g.tag g.base g.top g.base g.perms 0)]).Nodup from List.nodup_append.2 ⟨HN.out, by simp, fun a ha b hb e => by
                      obtain rfl := List.mem_singleton.1 hb
                      exact HNI.out (e ▸ ha)⟩)
                    have HOP := hid (show ∀ x ∈ O' ++ [(Cap.mk g.tag g.base g.top g.base g.perms 0)], Opn G x from fun x hx => by
                      rcases List.mem_append.1 hx with h | h
                      · exact HP.out x h
                      · obtain rfl := List.mem_singleton.1 h
                        exact HGO.out)
                    have HST := hid (HT.out.yes (g := (Cap.mk g.tag g.base g.top g.base g.perms 0)) (G.take (k + 1)))
                    go_wp2
                    go_roundw
                    case rel => exact ⟨k + 1, true, _, O' ++ [(Cap.mk g.tag g.base g.top g.base g.perms 0)], by omega, by go_num, rfl, HS7, HND, HOP, HST, HE7⟩
                    case measure => simp [intOf]; omega
              · have d1 : decide (g.type ≤ 1) = false := decide_eq_false ht
                have HOV := hid (show ∀ W, Ext W3 W → Calls Try.prog 27 #[.slice Au lo cu, .int .i64 g.type, .int .i64 64] W fun e w' => e = .returned (.bool (O'.any (ovC 64 g.type))) ∧ Ext W w' from fun W hxx => rcover_ Au lo cu O' g.type 64 W ((HS3.out.rdO HLO.out).ext hxx) HLO.out (by omega))
                have HOP0 := hid (show opensB O' g = O'.any (ovC 64 g.type) by unfold opensB; rw [d1, Bool.false_or])
                generalize O'.any (ovC 64 g.type) = vo at HOV HOP0
                cases vo with
                | false =>
                  have HOPB := HOP0
                  go_upto_region 14 with (fail)
                  refine wp_region_grow (by kernel_rfl) (by kernel_rfl) (by first | (simp only [List.append]; rfl) | rfl) ?_
                  (repeat (go_big_quiet_step ((go_at_call 27; exact growOf (HOV.out _ (by repeat (first | (with_reducible exact Ext.refl _) | (with_reducible refine Ext.undrew ?_) | (with_reducible refine Ext.grow ?_ _) | (with_reducible refine Ext.drew ?_) | (with_reducible refine Ext.drewN ?_ _) | (with_reducible refine Ext.alloc ?_ _) | (with_reducible assumption) | ((with_reducible refine Ext.setCell ?_ ?_ _); rotate_left; (first | exact Nat.le_refl _ | ((try dsimp only); (try simp only [World.size_alloc, grow_size, World.size_setCell]); omega))))))))))
                  refine wpQuiet_nil ?_
                  intro wq hq
                  obtain ⟨dq, rfl⟩ := hq
                  have f5 : World.frozen? W3 ⟨bx, 5, none⟩ = false := by have h9 := HR3.out.free 5 (by show 5 < 6; decide); rwa [Nat.zero_add] at h9
                  have f3 : World.frozen? W3 ⟨bx, 3, none⟩ = false := by have h9 := HR3.out.free 3 (by show 3 < 6; decide); rwa [Nat.zero_add] at h9
                  go_upto_region 17 with (fail)
                  refine wp_gen (fun W => Hid (Ext wr W) ∧ Hid (Row W bx 0 (Cap.cells (Cap.mk g.tag g.base g.top g.base g.perms 0)))) ⟨hid ?ex2, hid ?rw2⟩ ?_
                  case ex2 => exact Ext.grow (Ext.only hx3 (Only.setCell (S := fun i => i = bx) (Only.setCell (S := fun i => i = bx) (Only.refl _ _) (.inl rfl) _) (.inl rfl) _) (fun i hi => by omega)) _
                  case rw2 => exact ((HR3.out.set1 (j := 5) (.int .i64 0)).set1 (j := 3) (.int .i64 g.base)).ext (Ext.grow (Ext.refl _) _)
                  rintro W4g ⟨HX4g, HR4g⟩
                  clear f3 f5 hx3 HR3 p0 p1 p2 p3 p4 p5 p6
                  have HS4g := hid (HS.out.ext HX4g.out)
                  have hc1 := HS4g.out.c1
                  have hsl := HS4g.out.lt
                  obtain ⟨p0, p1, p2, p3, p4, p5, p6⟩ := Row.six (c := (Cap.mk g.tag g.base g.top g.base g.perms 0)) (HR4g.out)
                  simp only [Nat.zero_add] at p2 p3 p4 p5 p6
                  go_upto_region 17 with (fail)
                  refine wp_region_grow (by kernel_rfl) (by kernel_rfl) (by first | (simp only [List.append]; rfl) | rfl) ?_
                  (repeat (go_big_quiet_step (fail)))
                  refine wpQuiet_nil ?_
                  intro wq hq
                  obtain ⟨dq, rfl⟩ := hq
                  go_wp2
                  go_roundw
                  case rel => exact ⟨k + 1, mo, _, O', by omega, by go_num, rfl, hid (HS.out.ext (HX4g.out.trans (by repeat (first | (with_reducible exact Ext.refl _) | (with_reducible refine Ext.undrew ?_) | (with_reducible refine Ext.grow ?_ _) | (with_reducible refine Ext.drew ?_) | (with_reducible refine Ext.drewN ?_ _) | (with_reducible refine Ext.alloc ?_ _) | (with_reducible assumption) | ((with_reducible refine Ext.setCell ?_ ?_ _); rotate_left; (first | exact Nat.le_refl _ | ((try dsimp only); (try simp only [World.size_alloc, grow_size, World.size_setCell]); omega))))))), HN, HP, hid (by rw [HTK.out]; exact HT.out.no fun h => by rw [HOPB.out] at h; cases h), hid (HX.out.trans (HX4g.out.trans (by repeat (first | (with_reducible exact Ext.refl _) | (with_reducible refine Ext.undrew ?_) | (with_reducible refine Ext.grow ?_ _) | (with_reducible refine Ext.drew ?_) | (with_reducible refine Ext.drewN ?_ _) | (with_reducible refine Ext.alloc ?_ _) | (with_reducible assumption) | ((with_reducible refine Ext.setCell ?_ ?_ _); rotate_left; (first | exact Nat.le_refl _ | ((try dsimp only); (try simp only [World.size_alloc, grow_size, World.size_setCell]); omega)))))))⟩
                  case measure => simp [intOf]; omega
                | true =>
                  have HOPB := HOP0
                  go_upto_region 14 with (fail)
                  refine wp_region_grow (by kernel_rfl) (by kernel_rfl) (by first | (simp only [List.append]; rfl) | rfl) ?_
                  (repeat (go_big_quiet_step ((go_at_call 27; exact growOf (HOV.out _ (by repeat (first | (with_reducible exact Ext.refl _) | (with_reducible refine Ext.undrew ?_) | (with_reducible refine Ext.grow ?_ _) | (with_reducible refine Ext.drew ?_) | (with_reducible refine Ext.drewN ?_ _) | (with_reducible refine Ext.alloc ?_ _) | (with_reducible assumption) | ((with_reducible refine Ext.setCell ?_ ?_ _); rotate_left; (first | exact Nat.le_refl _ | ((try dsimp only); (try simp only [World.size_alloc, grow_size, World.size_setCell]); omega))))))))))
                  refine wpQuiet_nil ?_
                  intro wq hq
                  obtain ⟨dq, rfl⟩ := hq
                  have f5 : World.frozen? W3 ⟨bx, 5, none⟩ = false := by have h9 := HR3.out.free 5 (by show 5 < 6; decide); rwa [Nat.zero_add] at h9
                  have f3 : World.frozen? W3 ⟨bx, 3, none⟩ = false := by have h9 := HR3.out.free 3 (by show 3 < 6; decide); rwa [Nat.zero_add] at h9
                  go_upto_region 17 with (fail)
                  refine wp_gen (fun W => Hid (Ext wr W) ∧ Hid (Row W bx 0 (Cap.cells (Cap.mk g.tag g.base g.top g.base g.perms 0)))) ⟨hid ?ex3, hid ?rw3⟩ ?_
                  case ex3 => exact Ext.grow (Ext.only hx3 (Only.setCell (S := fun i => i = bx) (Only.setCell (S := fun i => i = bx) (Only.refl _ _) (.inl rfl) _) (.inl rfl) _) (fun i hi => by omega)) _
                  case rw3 => exact ((HR3.out.set1 (j := 5) (.int .i64 0)).set1 (j := 3) (.int .i64 g.base)).ext (Ext.grow (Ext.refl _) _)
                  rintro W4g ⟨HX4g, HR4g⟩
                  clear f3 f5 hx3 HR3 p0 p1 p2 p3 p4 p5 p6
                  have HS4g := hid (HS.out.ext HX4g.out)
                  have hc1 := HS4g.out.c1
                  have hsl := HS4g.out.lt
                  obtain ⟨p0, p1, p2, p3, p4, p5, p6⟩ := Row.six (c := (Cap.mk g.tag g.base g.top g.base g.perms 0)) (HR4g.out)
                  simp only [Nat.zero_add] at p2 p3 p4 p5 p6
                  have HHL := hid (show ∀ W, Ext W4g W → Calls Try.prog 28 #[.slice Au lo cu, .agg #[.bool g.tag, .int .i64 g.base, .int .i64 g.top, .int .i64 g.base, .int .i64 g.perms, .int .i64 0]] W fun e w' => e = .returned (.bool (decide ((Cap.mk g.tag g.base g.top g.base g.perms 0) ∈ O'))) ∧ Ext W w' from fun W hxx => by
                    rw [← any_mem]
                    exact rhasl_ Au lo cu O' g.tag g.base g.top g.base g.perms 0 W ((HS4g.out.rdO HLO.out).ext hxx) HLO.out (by omega))
                  have HGO := hid (show Opn G (Cap.mk g.tag g.base g.top g.base g.perms 0) from opens_opn HGI.out HP.out HOPB.out)
                  by_cases hin : (Cap.mk g.tag g.base g.top g.base g.perms 0) ∈ O'
                  · have HIN := hid hin
                    rw [decide_eq_true hin] at HHL
                    clear hin
                    go_upto_region 17 with (fail)
                    refine wp_region_grow (by kernel_rfl) (by kernel_rfl) (by first | (simp only [List.append]; rfl) | rfl) ?_
                    (repeat (go_big_quiet_step ((go_at_call 28; exact growOf (HHL.out _ (by repeat (first | (with_reducible exact Ext.refl _) | (with_reducible refine Ext.undrew ?_) | (with_reducible refine Ext.grow ?_ _) | (with_reducible refine Ext.drew ?_) | (with_reducible refine Ext.drewN ?_ _) | (with_reducible refine Ext.alloc ?_ _) | (with_reducible assumption) | ((with_reducible refine Ext.setCell ?_ ?_ _); rotate_left; (first | exact Nat.le_refl _ | ((try dsimp only); (try simp only [World.size_alloc, grow_size, World.size_setCell]); omega))))))))))
                    refine wpQuiet_nil ?_
                    intro wq hq
                    obtain ⟨dq, rfl⟩ := hq
                    go_wp2
                    go_roundw
                    case rel => exact ⟨k + 1, mo, _, O', by omega, by go_num, rfl, hid (HS.out.ext (HX4g.out.trans (by repeat (first | (with_reducible exact Ext.refl _) | (with_reducible refine Ext.undrew ?_) | (with_reducible refine Ext.grow ?_ _) | (with_reducible refine Ext.drew ?_) | (with_reducible refine Ext.drewN ?_ _) | (with_reducible refine Ext.alloc ?_ _) | (with_reducible assumption) | ((with_reducible refine Ext.setCell ?_ ?_ _); rotate_left; (first | exact Nat.le_refl _ | ((try dsimp only); (try simp only [World.size_alloc, grow_size, World.size_setCell]); omega))))))), HN, HP, hid (by rw [HTK.out]; exact HT.out.no fun _ => HIN.out), hid (HX.out.trans (HX4g.out.trans (by repeat (first | (with_reducible exact Ext.refl _) | (with_reducible refine Ext.undrew ?_) | (with_reducible refine Ext.grow ?_ _) | (with_reducible refine Ext.drew ?_) | (with_reducible refine Ext.drewN ?_ _) | (with_reducible refine Ext.alloc ?_ _) | (with_reducible assumption) | ((with_reducible refine Ext.setCell ?_ ?_ _); rotate_left; (first | exact Nat.le_refl _ | ((try dsimp only); (try simp only [World.size_alloc, grow_size, World.size_setCell]); omega)))))))⟩
                    case measure => simp [intOf]; omega
                  · have HNI := hid hin
                    rw [decide_eq_false hin] at HHL
                    clear hin
                    go_upto_region 17 with (fail)
                    refine wp_region_grow (by kernel_rfl) (by kernel_rfl) (by first | (simp only [List.append]; rfl) | rfl) ?_
                    (repeat (go_big_quiet_step ((go_at_call 28; exact growOf (HHL.out _ (by repeat (first | (with_reducible exact Ext.refl _) | (with_reducible refine Ext.undrew ?_) | (with_reducible refine Ext.grow ?_ _) | (with_reducible refine Ext.drew ?_) | (with_reducible refine Ext.drewN ?_ _) | (with_reducible refine Ext.alloc ?_ _) | (with_reducible assumption) | ((with_reducible refine Ext.setCell ?_ ?_ _); rotate_left; (first | exact Nat.le_refl _ | ((try dsimp only); (try simp only [World.size_alloc, grow_size, World.size_setCell]); omega))))))))))
                    refine wpQuiet_nil ?_
                    intro wq hq
                    obtain ⟨dq, rfl⟩ := hq
                    go_upto_region 18 with (fail)
                    refine wp_gen (fun W3 => Hid (Ext wr W3) ∧ Hid (Row W3 bx 0 (Cap.cells (Cap.mk g.tag g.base g.top g.base g.perms 0)))) ⟨hid (HX4g.out.trans (by repeat (first | (with_reducible exact Ext.refl _) | (with_reducible refine Ext.undrew ?_) | (with_reducible refine Ext.grow ?_ _) | (with_reducible refine Ext.drew ?_) | (with_reducible refine Ext.drewN ?_ _) | (with_reducible refine Ext.alloc ?_ _) | (with_reducible assumption) | ((with_reducible refine Ext.setCell ?_ ?_ _); rotate_left; (first | exact Nat.le_refl _ | ((try dsimp only); (try simp only [World.size_alloc, grow_size, World.size_setCell]); omega)))))), hid (HR4g.out.ext (by repeat (first | (with_reducible exact Ext.refl _) | (with_reducible refine Ext.undrew ?_) | (with_reducible refine Ext.grow ?_ _) | (with_reducible refine Ext.drew ?_) | (with_reducible refine Ext.drewN ?_ _) | (with_reducible refine Ext.alloc ?_ _) | (with_reducible assumption) | ((with_reducible refine Ext.setCell ?_ ?_ _); rotate_left; (first | exact Nat.le_refl _ | ((try dsimp only); (try simp only [World.size_alloc, grow_size, World.size_setCell]); omega))))))⟩ ?_
                    rintro W3 ⟨HX3, HR3⟩
                    have HS3 := hid (HS.out.ext HX3.out)
                    clear p0 p1 p2 p3 p4 p5 p6
                    clear HX4g HR4g
                    obtain ⟨vk, hvk⟩ : ∃ x, Value.slice Au lo cu = x := ⟨_, rfl⟩
                    rw [hvk] at HS3 HS
                    clear hvk
                    have HLN := hid (show O'.length ≤ 1000000 by have := opn_len HN.out HP.out; have := HMG.out; have := HGL.out; omega)
                    have HNA := hid (show ∀ g, vk.ownBlock = some g → ¬ g = s from fun g e e2 => by have := (HS.out.o.lt g e).1; omega)
                    have HVK := hid (show ∀ g, vk.ownBlock = some g → g < bx from fun g e => by have := (HS.out.o.lt g e).2; omega)
                    have hsb := HS.out.lt
                    refine wp_region_only (S := (fun i => i = s ∨ vk.ownBlock = some i)) (.rd 0 (.rd 1 (.rd 2 (.rd 3 (.rd 5 (.br 4 (.ac 6 (.ac 7 (.rd 8 (.rd 9 (.ac 10 .done))))) 6 (.ac 4 (.ac 7 (.rd 8 (.rd 9 (.ac 10 .done))))))))))) (by kernel_rfl) (by kernel_rfl) (fun _ _ d _ _ h => by cases d <;> exact h) (by simp only [Ord.map, nthOp, List.append]; rfl) ?_
                    intro d1
                    have HX4 := hid (HX3.out.trans (Ext.grow (Ext.refl W3) d1))
                    have HS4 := hid (HS3.out.ext (Ext.grow (Ext.refl W3) d1))
                    have HR4 := hid (HR3.out.ext (Ext.grow (Ext.refl W3) d1))
                    generalize Go.Proofs.Ytlapemeoffpmgaa.grow W3 d1 = W4 at HX4 HS4 HR4 ⊢
                    have hc4 := HS4.out.c1
                    have hf4 := HS4.out.f1
                    have HO4 := hid HS4.out.o
                    clear HX3 HS3 HR3
                    have hb4 := HS4.out.lt
                    have HBS := hid (show s + 1 ≤ W4.heap.size by omega)
                    have hSb : ¬ (bx = s ∨ vk.ownBlock = some bx) := by
                      rintro (h | h)
                      · omega
                      · have := HVK.out bx h; omega
                    refine only_read (by rfl) (fun K hK => ?_)
                    go_big_quiet_op
                    refine hK _ ?_
                    clear hK K
                    refine only_read (by rfl) (fun K hK => ?_)
                    go_big_quiet_op
                    refine hK _ ?_
                    clear hK K
                    refine only_read (by rfl) (fun K hK => ?_)
                    refine quiet_runD 87 rfl (.pointer (some ⟨s, 0, none⟩)) (fun w => by go_simp) ?_
                    refine hK _ ?_
                    clear hK K
                    simp only [Act.put, List.setIfInBounds_toArray, List.set_cons_zero, List.set_cons_succ]
                    refine only_read (by rfl) (fun K hK => ?_)
                    refine quiet_runD 88 rfl (.pointer (some ⟨s, 1, none⟩)) (fun w => by go_simp) ?_
                    refine hK _ ?_
                    clear hK K
                    simp only [Act.put, List.setIfInBounds_toArray, List.set_cons_zero, List.set_cons_succ]
                    refine only_read (by rfl) (fun K hK => ?_)
                    refine quiet_loadC 24 (.tmp 7) rfl bx 0 rfl (Cap.cells (Cap.mk g.tag g.base g.top g.base g.perms 0)) _ (fun w' hw' => (HR4.out.only hw' hSb).range) Try.underlying24 rfl (by kernel_rfl) ?_
                    refine hK _ ?_
                    clear hK K
                    simp only [Act.put, List.setIfInBounds_toArray, List.set_cons_zero, List.set_cons_succ]
                    refine only_br ?_ ?_
                    · refine only_act (by rfl) (fun K hK => ?_)
                      go_wp2_with fail
                      refine ⟨_, Only.refl _ _, Only.refl _ _, ?_⟩
                      refine only_act (by rfl) (fun K hK => ?_)
                      refine wp_build1 22 24 (.tmp 90) rfl #[.bool g.tag, .int .i64 g.base, .int .i64 g.top, .int .i64 g.base, .int .i64 g.perms, .int .i64 0] 6 rfl rfl (by omega) (by omega) Try.underlying22 (by kernel_rfl) (by kernel_rfl) ?_
                      refine hK _ _ ⟨_, Only.refl _ _, Only.ofExt (Ext.alloc (Ext.refl _) _), ?_⟩
                      refine only_gen (fun W => Hid (Ext W4 W) ∧ Hid (Row W W4.heap.size 0 (Cap.cells (Cap.mk g.tag g.base g.top g.base g.perms 0)))) ⟨hid (Ext.alloc (Ext.refl _) _), hid (Row.new W4 _ _)⟩ ?_
                      clear hK K
                      rintro w4 ⟨hE4, hR4⟩
                      have hS5 : Hid (Only (fun i => i = s ∨ vk.ownBlock = some i) W4 w4) := hid (Only.ofExt hE4.out)
                      have hc5 := (hE4.out.cells s 1 hb4).trans hc4
                      refine only_act (by rfl) (fun K hK => ?_)
                      refine wp_app_row cap_len (by decide) cap_one Try.underlying22 info_capN (.tmp 89) (.tmp 91) rfl (s + 1) vk (O').length (rowF Cap.cells (O')) rfl (HO4.out.ext hE4.out) (some ⟨W4.heap.size, 0, none⟩) 1 1 [(Cap.mk g.tag g.base g.top g.base g.perms 0)] rfl rfl (rdF_row0 (f := Cap.cells) (z := (Cap.mk g.tag g.base g.top g.base g.perms 0)) hR4.out) (by have := HLN.out; unfold maxLen; omega) (by have := HLN.out; omega) (Nat.le_trans HBS.out hE4.out.size) ?_
                      intro v6 w6 hown6 hgrow hat
                      obtain ⟨A6, c6, hv6, _, _⟩ := hown6.shape
                      subst hv6
                      have HO6 : Hid (ownsAt w6 (s + 1) 24 6 (.slice A6 ((O').length + 1) c6) (O' ++ [(Cap.mk g.tag g.base g.top g.base g.perms 0)]).length (rowF Cap.cells (O' ++ [(Cap.mk g.tag g.base g.top g.base g.perms 0)]))) := hid (by rw [rowF_append, List.length_append]; exact hown6)
                      have HT6 : Hid (Only (fun i => vk.ownBlock = some i) W4 w6) := hid ((Only.ofExt hE4.out).trans' (grownOnly hgrow fun g hg => hg))
                      have hS6 : Hid (Only (fun i => i = s ∨ vk.ownBlock = some i) W4 w6) := hid (Only.trans' hS5.out (grownOnly hgrow fun g hg => .inr hg))
                      have HAT : Hid (∀ g, (Value.slice A6 ((O').length + 1) c6).ownBlock = some g → vk.ownBlock = some g ∨ W4.heap.size ≤ g) := hid (fun g h => by
                        rcases hat with h' | ⟨g', h', hlt⟩
                        · exact .inl (h' ▸ h)
                        · rw [h] at h'
                          simp only [Option.some.injEq] at h'
                          have := hE4.out.size
                          exact .inr (by omega))
                      have hc6 := (HT6.out.cells s 1 hb4 (fun e => HNA.out s e rfl)).trans hc4
                      have hf6 := (HT6.out.frozens s 1 hb4 (fun e => HNA.out s e rfl)).trans hf4
                      have hb6 : s < w6.heap.size := Nat.lt_of_lt_of_le hb4 HT6.out.size
                      refine hK _ _ ⟨_, Only.refl _ _, hS6.out, ?_⟩
                      clear hK K hgrow hS5 hR4 hE4 hc5 hat hown6
                      simp only [Act.put, List.setIfInBounds_toArray, List.set_cons_zero, List.set_cons_succ]
                      refine only_read (by rfl) (fun K hK => ?_)
                      refine quiet_runD 93 rfl (.pointer (some ⟨s, 0, none⟩)) (fun w => by go_simp) ?_
                      refine hK _ ?_
                      clear hK K
                      simp only [Act.put, List.setIfInBounds_toArray, List.set_cons_zero, List.set_cons_succ]
                      refine only_read (by rfl) (fun K hK => ?_)
                      refine quiet_runD 94 rfl (.pointer (some ⟨s, 1, none⟩)) (fun w => by go_simp) ?_
                      refine hK _ ?_
                      clear hK K
                      simp only [Act.put, List.setIfInBounds_toArray, List.set_cons_zero, List.set_cons_succ]
                      refine only_act (by rfl) (fun K hK => ?_)
                      go_wp2_with fail
                      refine ⟨_, Only.refl _ _, Only.setCell (S := (fun i => i = s ∨ vk.ownBlock = some i)) hS6.out (Or.inl (Or.inl rfl)) _, ?_⟩
                      refine only_nil ?_
                      have HS7 := hid (HS4.out.put1 (T := fun i => vk.ownBlock = some i) HT6.out (fun i h => .inl h) HO6.out HAT.out)
                      have HE7 : Hid (Ext w (w6.setCell ⟨s, 1, none⟩ (.slice A6 (O'.length + 1) c6))) := hid (Ext.only (HX.out.trans HX4.out) (Only.setCell (S := fun i => s ≤ i) (Only.trans (Only.refl _ W4) HT6.out (fun i h => .inl (by have := (HO4.out.lt i h).1; omega))) (.inl (Nat.le_refl _)) _) (fun i hi => by omega))
                      clear HS4 HT6 HO6 HAT hc6 hf6 hb6
                      have HND := hid (show (O' ++ [(Cap.mk g.tag g.base g.top g.base g.perms 0)]).Nodup from List.nodup_append.2 ⟨HN.out, by simp, fun a ha b hb e => by
                        obtain rfl := List.mem_singleton.1 hb
                        exact HNI.out (e ▸ ha)⟩)
                      have HOP := hid (show ∀ x ∈ O' ++ [(Cap.mk g.tag g.base g.top g.base g.perms 0)], Opn G x from fun x hx => by
                        rcases List.mem_append.1 hx with h | h
                        · exact HP.out x h
                        · obtain rfl := List.mem_singleton.1 h
                          exact HGO.out)
                      have HST := hid (HT.out.yes (g := (Cap.mk g.tag g.base g.top g.base g.perms 0)) (G.take (k + 1)))
                      go_wp2
                      go_roundw
                      case rel => exact ⟨k + 1, true, _, O' ++ [(Cap.mk g.tag g.base g.top g.base g.perms 0)], by omega, by go_num, rfl, HS7, HND, HOP, HST, HE7⟩
                      case measure => simp [intOf]; omega
                    · refine only_act (by rfl) (fun K hK => ?_)
                      refine wp_build1 22 24 (.tmp 90) rfl #[.bool g.tag, .int .i64 g.base, .int .i64 g.top, .int .i64 g.base, .int .i64 g.perms, .int .i64 0] 6 rfl rfl (by omega) (by omega) Try.underlying22 (by kernel_rfl) (by kernel_rfl) ?_
                      refine hK _ _ ⟨_, Only.refl _ _, Only.ofExt (Ext.alloc (Ext.refl _) _), ?_⟩
                      refine only_gen (fun W => Hid (Ext W4 W) ∧ Hid (Row W W4.heap.size 0 (Cap.cells (Cap.mk g.tag g.base g.top g.base g.perms 0)))) ⟨hid (Ext.alloc (Ext.refl _) _), hid (Row.new W4 _ _)⟩ ?_
                      clear hK K
                      rintro w4 ⟨hE4, hR4⟩
                      have hS5 : Hid (Only (fun i => i = s ∨ vk.ownBlock = some i) W4 w4) := hid (Only.ofExt hE4.out)
                      have hc5 := (hE4.out.cells s 1 hb4).trans hc4
                      refine only_act (by rfl) (fun K hK => ?_)
                      go_wp2_with fail
                      refine ⟨_, Only.refl _ _, hS5.out, ?_⟩
                      refine only_act (by rfl) (fun K hK => ?_)
                      refine wp_app_row cap_len (by decide) cap_one Try.underlying22 info_capN (.tmp 89) (.tmp 91) rfl (s + 1) vk (O').length (rowF Cap.cells (O')) rfl (HO4.out.ext hE4.out) (some ⟨W4.heap.size, 0, none⟩) 1 1 [(Cap.mk g.tag g.base g.top g.base g.perms 0)] rfl rfl (rdF_row0 (f := Cap.cells) (z := (Cap.mk g.tag g.base g.top g.base g.perms 0)) hR4.out) (by have := HLN.out; unfold maxLen; omega) (by have := HLN.out; omega) (Nat.le_trans HBS.out hE4.out.size) ?_
                      intro v6 w6 hown6 hgrow hat
                      obtain ⟨A6, c6, hv6, _, _⟩ := hown6.shape
                      subst hv6
                      have HO6 : Hid (ownsAt w6 (s + 1) 24 6 (.slice A6 ((O').length + 1) c6) (O' ++ [(Cap.mk g.tag g.base g.top g.base g.perms 0)]).length (rowF Cap.cells (O' ++ [(Cap.mk g.tag g.base g.top g.base g.perms 0)]))) := hid (by rw [rowF_append, List.length_append]; exact hown6)
                      have HT6 : Hid (Only (fun i => vk.ownBlock = some i) W4 w6) := hid ((Only.ofExt hE4.out).trans' (grownOnly hgrow fun g hg => hg))
                      have hS6 : Hid (Only (fun i => i = s ∨ vk.ownBlock = some i) W4 w6) := hid (Only.trans' hS5.out (grownOnly hgrow fun g hg => .inr hg))
                      have HAT : Hid (∀ g, (Value.slice A6 ((O').length + 1) c6).ownBlock = some g → vk.ownBlock = some g ∨ W4.heap.size ≤ g) := hid (fun g h => by
                        rcases hat with h' | ⟨g', h', hlt⟩
                        · exact .inl (h' ▸ h)
                        · rw [h] at h'
                          simp only [Option.some.injEq] at h'
                          have := hE4.out.size
                          exact .inr (by omega))
                      have hc6 := (HT6.out.cells s 1 hb4 (fun e => HNA.out s e rfl)).trans hc4
                      have hf6 := (HT6.out.frozens s 1 hb4 (fun e => HNA.out s e rfl)).trans hf4
                      have hb6 : s < w6.heap.size := Nat.lt_of_lt_of_le hb4 HT6.out.size
                      refine hK _ _ ⟨_, Only.refl _ _, hS6.out, ?_⟩
                      clear hK K hgrow hS5 hR4 hE4 hc5 hat hown6
                      simp only [Act.put, List.setIfInBounds_toArray, List.set_cons_zero, List.set_cons_succ]
                      refine only_read (by rfl) (fun K hK => ?_)
                      refine quiet_runD 93 rfl (.pointer (some ⟨s, 0, none⟩)) (fun w => by go_simp) ?_
                      refine hK _ ?_
                      clear hK K
                      simp only [Act.put, List.setIfInBounds_toArray, List.set_cons_zero, List.set_cons_succ]
                      refine only_read (by rfl) (fun K hK => ?_)
                      refine quiet_runD 94 rfl (.pointer (some ⟨s, 1, none⟩)) (fun w => by go_simp) ?_
                      refine hK _ ?_
                      clear hK K
                      simp only [Act.put, List.setIfInBounds_toArray, List.set_cons_zero, List.set_cons_succ]
                      refine only_act (by rfl) (fun K hK => ?_)
                      go_wp2_with fail
                      refine ⟨_, Only.refl _ _, Only.setCell (S := (fun i => i = s ∨ vk.ownBlock = some i)) hS6.out (Or.inl (Or.inl rfl)) _, ?_⟩
                      refine only_nil ?_
                      have HS7 := hid (HS4.out.put1 (T := fun i => vk.ownBlock = some i) HT6.out (fun i h => .inl h) HO6.out HAT.out)
                      have HE7 : Hid (Ext w (w6.setCell ⟨s, 1, none⟩ (.slice A6 (O'.length + 1) c6))) := hid (Ext.only (HX.out.trans HX4.out) (Only.setCell (S := fun i => s ≤ i) (Only.trans (Only.refl _ W4) HT6.out (fun i h => .inl (by have := (HO4.out.lt i h).1; omega))) (.inl (Nat.le_refl _)) _) (fun i hi => by omega))
                      clear HS4 HT6 HO6 HAT hc6 hf6 hb6
                      have HND := hid (show (O' ++ [(Cap.mk g.tag g.base g.top g.base g.perms 0)]).Nodup from List.nodup_append.2 ⟨HN.out, by simp, fun a ha b hb e => by
                        obtain rfl := List.mem_singleton.1 hb
                        exact HNI.out (e ▸ ha)⟩)
                      have HOP := hid (show ∀ x ∈ O' ++ [(Cap.mk g.tag g.base g.top g.base g.perms 0)], Opn G x from fun x hx => by
                        rcases List.mem_append.1 hx with h | h
                        · exact HP.out x h
                        · obtain rfl := List.mem_singleton.1 h
                          exact HGO.out)
                      have HST := hid (HT.out.yes (g := (Cap.mk g.tag g.base g.top g.base g.perms 0)) (G.take (k + 1)))
                      go_wp2
                      go_roundw
                      case rel => exact ⟨k + 1, true, _, O' ++ [(Cap.mk g.tag g.base g.top g.base g.perms 0)], by omega, by go_num, rfl, HS7, HND, HOP, HST, HE7⟩
                      case measure => simp [intOf]; omega
            · obtain rfl : mg = k := by omega
              have hk1 : ¬ (mg : Int) < (mg : Int) := by omega
              rw [show G.take mg = G from List.take_of_length_le (by rw [HMG.out]; exact Nat.le_refl _)] at HT
              have HLE := hid (show mo = false → ∀ g ∈ G, opensB O' g = true → g.norm ∈ O' from fun e => by
                have h := HT.out
                unfold StpN at h
                rw [if_neg (by rw [e]; decide)] at h
                obtain ⟨rfl, h2⟩ := h
                exact h2)
              go_wp2
              go_roundw
              case rel => exact ⟨mo, _, O', rfl, HS, HN, HP, HLE, HX⟩
              case measure =>
                have h1 := HS.out.lenC_
                have h2 := HSo.out.lenC_
                have h3 := opn_len HN.out HP.out
                have h4 := HMG.out
                have h := HT.out
                unfold StpN at h
                cases mo with
                | true =>
                  rw [if_pos rfl] at h
                  simp only [boolN]
                  omega
                | false =>
                  rw [if_neg (by decide)] at h
                  obtain ⟨rfl, _⟩ := h
                  simp only [boolN]
                  omega

end Go.Proofs.Ytlapemeoffpmgaa
