/- The walk of the law PermAny. -/
import Derived.Test.YtgjnobjoijehaaaHeadA1
import Derived.Test.YtgjnobjoijehaaaOneV
namespace Go.Proofs.Ytgjnobjoijehaaa
set_option linter.unusedSimpArgs false
set_option linter.unusedVariables false
open Go.RowKit

theorem slAt_ext' {w w' : World} {A : Option Addr} {xs : List Value} (h : SlAt w A xs) (x : Ext w w') : SlAt w' A xs := fun h0 => by
  obtain ⟨b, o, hA, hb, hc⟩ := h h0
  exact ⟨b, o, hA, Nat.lt_of_lt_of_le hb x.size, fun j hj => by rw [x.cells b _ hb]; exact hc j hj⟩
namespace permAny
set_option maxRecDepth 100000 in
set_option maxHeartbeats 4000000 in
theorem walk (A0 : Option Addr) (cap0 : Nat) (zs0 : List Int) (w : World) (wl0 : zs0.length ≤ maxLen) (hs0 : SlAt w A0 (zs0.map (Value.int .i64))) (wz0 : ∀ z ∈ zs0, (Lit.int .i64 z).wf = true) :
    Calls Try.prog 9 #[.slice A0 zs0.length cap0] w fun e w' => e = .returned (.bool true) ∧ Ext w w' := by
  have HS := hid hs0
  clear hs0 wz0
  obtain ⟨i0, hi0, hz0, hz1, hz2⟩ := info_parts info_int
  by_cases h9 : (zs0.length : Int) ≤ 900
  · skip
    go_enter Try.func9, Try.ntmps9
    go_wp2_with (go_at_call 10; refine Calls.mono (head _) ?_; rintro e wh ⟨rfl, hxh⟩; obtain ⟨dh, rfl⟩ := hxh.grown; clear hxh)
    go_loopw [4, 5, 6] (fun vb vr iv wr => ∃ k : Nat, k ≤ zs0.length ∧ iv = .int .i64 ((k : Int) - 1) ∧ Hid (OwnI wr w.heap.size vb (backL zs0 k)) ∧ Hid (OwnI wr w.heap.size vr (rightL zs0 k)) ∧ Hid (∀ g, vb.ownBlock = some g → ¬ vr.ownBlock = some g) ∧ Hid (Ext w wr)) (fun _ _ iv _ => (intOf iv + 1).toNat)
    case atStart =>
      refine ⟨zs0.length, Nat.le_refl _, rfl, hid ?_, hid ?_, hid (fun g hg => by cases hg), hid (by repeat (first | (with_reducible exact Ext.refl _) | (with_reducible refine Ext.undrew ?_) | (with_reducible refine Ext.grow ?_ _) | (with_reducible refine Ext.drew ?_) | (with_reducible refine Ext.drewN ?_ _) | (with_reducible refine Ext.alloc ?_ _) | (with_reducible assumption) | ((with_reducible refine Ext.setCell ?_ ?_ _); rotate_left; (first | exact Nat.le_refl _ | ((try dsimp only); (try simp only [World.size_alloc, grow_size, World.size_setCell]); omega)))))⟩
      · rw [show backL zs0 zs0.length = [] by simp [backL]]; exact OwnI.nil _ _
      · rw [show rightL zs0 zs0.length = [] by simp [rightL]]; exact OwnI.nil _ _
    case round =>
      obtain ⟨k, hk, rfl, hbk, hrt, hap, hx⟩ := hrel
      match k, hk with
      | j + 1, hk =>
        have ej : ((j + 1 : Nat) : Int) - 1 = (j : Int) := by omega
        rw [ej]
        have hlt : j < zs0.length := by omega
        obtain ⟨z, hzj⟩ : ∃ z, zs0[j] = z := ⟨_, rfl⟩
        obtain ⟨b, o, rfl, hb, hc⟩ := (slAt_ext' HS.out hx.out) (by simpa using (by omega : 0 < zs0.length))
        have hcj := hc j (by simpa using hlt)
        simp only [List.getElem_map, hzj] at hcj
        have hb0 : b < w.heap.size := by
          obtain ⟨b', o', hA, hb', _⟩ := HS.out (by simpa using (by omega : 0 < zs0.length))
          cases hA
          exact hb'
        have hj0 : (0 : Int) ≤ (j : Int) := by omega
        have hj1 : (j : Int) < (zs0.length : Int) := by omega
        have hbl := backL_len zs0 (j + 1)
        have hrl := rightL_len zs0 (j + 1)
        have HB := hid (backL_succ hlt)
        rw [hzj] at HB
        clear hc ej
        obtain ⟨q, hq, hqw⟩ : ∃ q, (∀ g, u4.ownBlock = some g → g = q) ∧ w.heap.size ≤ q := by
          rcases hbk.out.2 with ⟨h0, _⟩ | ⟨g, cap, cur, hv, hbg, _⟩
          · exact ⟨w.heap.size, fun g hg => (by rw [h0] at hg; cases hg), Nat.le_refl _⟩
          · refine ⟨g, fun g' hg => ?_, hbg⟩
            rw [hv] at hg
            have e : g = g' := by simpa [Value.ownBlock] using hg
            exact e.symm
        have hnq : ¬ b = q := by omega
        have hnq2 : ¬ q = b := by omega
        go_wp2
        refine wp_region_turn (q := q) (.rd 0 (.rd 1 (.rd 2 (.rd 3 (.rd 4 (.rd 5 (.rd 6 (.rd 7 (.rd 8 (.ac 9 (.ac 10 (.rd 11 .done)))))))))))) (by kernel_rfl) (by kernel_rfl) (fun _ _ d _ _ h => by cases d <;> exact h) (by simp only [Ord.map, nthOp, List.append]; rfl) ?_
        intro d0
        repeat (refine turn_read (by rfl) (fun K hK => ?_); go_big_quiet_op; refine hK _ ?_; clear hK K)
        obtain ⟨G, hG⟩ : ∃ G, Go.Proofs.Ytgjnobjoijehaaa.grow wr d0 = G := ⟨_, rfl⟩
        rw [hG]
        have hxG : Ext wr G := by rw [← hG]; exact Ext.grow (Ext.refl wr) d0
        have hbG : OwnI G w.heap.size u4 (backL zs0 (j + 1)) := ownsExt hbk.out hxG
        have hrG : OwnI G w.heap.size u5 (rightL zs0 (j + 1)) := ownsExt hrt.out hxG
        have hxW := Ext.trans hx.out hxG
        have HCG := hid ((hxG.cells b _ hb).trans hcj)
        clear hG hbk hrt hxG hcj
        refine turn_act (by rfl) (fun Z hZ => ?_)
        go_wp2_with fail
        refine ⟨_, Only.refl _ _, Only.ofExt (by repeat (first | (with_reducible exact Ext.refl _) | (with_reducible refine Ext.undrew ?_) | (with_reducible refine Ext.grow ?_ _) | (with_reducible refine Ext.drew ?_) | (with_reducible refine Ext.drewN ?_ _) | (with_reducible refine Ext.alloc ?_ _) | (with_reducible assumption) | ((with_reducible refine Ext.setCell ?_ ?_ _); rotate_left; (first | exact Nat.le_refl _ | ((try dsimp only); (try simp only [World.size_alloc, grow_size, World.size_setCell]); omega))))), ?_⟩
        refine turn_act (by rfl) (fun Z hZ => ?_)
        have hbA := World.ownsRow.alloc hbG (.cells #[.int .i64 z, .int .i64 z] 3)
        have hrA := ownsExt hrG (Ext.alloc (Ext.refl G) (.cells #[.int .i64 z, .int .i64 z] 3))
        refine wp_append_lies _ _ _ 30 rfl w.heap.size 3 i0 _ 1 8 Try.underlying30 hi0 hz0 hz1 hz2 rfl (by decide) u4 _ _ rfl hbA ⟨G.heap.size, 0, none⟩ 2 2 [.int .i64 z, .int .i64 z] rfl rfl ?c1 ?c2 (by omega) ?c3 ?c4 ?c5 _ rfl ?_
        case c1 =>
          intro i u hi
          rw [Addr.add_lit]
          have hi2 : i = 0 ∨ i = 1 := by
            have h := (List.getElem?_eq_some_iff.1 hi).1
            simp at h
            omega
          rcases hi2 with rfl | rfl <;> (simp at hi; subst hi; simp [go_sem])
        case c2 => intro u hu; simp at hu; subst hu; rfl
        case c3 => unfold maxLen; omega
        case c4 => omega
        case c5 => have := hxW.size; simp; omega
        intro g cap w1 hown1 hg1 hat hgl
        have hrt1 := ownsGrown hrA hg1 (fun g' h1 h2 => hap.out g' h2 h1)
        have hap1 : ∀ g', (Value.slice (some ⟨g, 0, none⟩) ((backL zs0 (j + 1)).length + 2) cap).ownBlock = some g' → ¬ u5.ownBlock = some g' := by
          intro g' h1 h2
          have e : g = g' := by simpa [Value.ownBlock] using h1
          subst e
          rcases hat with h3 | h3
          · exact hap.out g h3 h2
          · have := owns_lt hrG h2
            simp at h3
            omega
        have hxE : Ext w w1 := Ext.owned (Ext.trans hxW (Ext.alloc (Ext.refl G) _)) hbA hg1
        refine hZ _ _ ⟨_, Only.refl _ _, Only.trans' (Only.ofExt (Ext.alloc (Ext.refl G) _)) (only_append hq hg1), ?_⟩
        clear hZ Z
        simp only [Act.put, List.setIfInBounds_toArray, List.set_cons_zero, List.set_cons_succ]
        have hown2 : OwnI w1 w.heap.size (.slice (some ⟨g, 0, none⟩) ((backL zs0 (j + 1)).length + 2) cap) (backL zs0 j) := by
          rw [HB.out]
          have := hown1
          unfold OwnI
          simpa [ivals] using this
        generalize (Value.slice (some ⟨g, 0, none⟩) ((backL zs0 (j + 1)).length + 2) cap) = vb at hown2 hap1 ⊢
        have HOW := hid hown2
        have HAP := hid hap1
        have hcw : w1.cell? ⟨b, o + j, none⟩ = some (.int .i64 z) := by
          have h0 := (slAt_ext' HS.out hxE) (by simpa using (by omega : 0 < zs0.length))
          obtain ⟨b', o', hA, _, hc'⟩ := h0
          cases hA
          have := hc' j (by simpa using hlt)
          simpa [hzj] using this
        have hbw : b < w1.heap.size := Nat.lt_of_lt_of_le hb0 hxE.size
        have HRT := hid hrt1
        have HXE := hid hxE
        clear hown1 hown2 hap1 hrt1 hxE hg1 hat hgl hbA hrA hbG hrG hxW HCG hq hap hx
        refine turn_read (by rfl) (fun Z hZ => ?_)
        go_big_quiet_op
        refine hZ _ ?_
        clear hZ Z
        refine turn_nil ?_
        cases hr : rightB z with
        | true =>
          have HR := hid hr
          have HRL := hid (rightL_yes hlt (by rw [hzj]; exact hr))
          rw [hzj] at HRL
          clear hr
          have hrt3 := HRT.out
          go_wp2_with (first | (go_at_call 13; (with_reducible refine Calls.mono (right z _) ?_); rw [HR.out]; rintro e w1 ⟨rfl, rfl⟩) | (at_builtin; refine wpList_append_lies _ rfl _ _ 30 rfl w.heap.size 3 i0 _ 1 8 Try.underlying30 hi0 hz0 hz1 hz2 rfl (by decide) u5 _ _ rfl (World.ownsRow.alloc hrt3 _) _ 1 1 [.int .i64 z] rfl rfl ?c1 ?c2 (by omega) ?c3 ?c4 ?c5 _ rfl ?_))
          case c1 =>
            intro i u hi
            rw [Addr.add_lit]
            have hi2 : i = 0 := by
              have h := (List.getElem?_eq_some_iff.1 hi).1
              simp at h
              omega
            subst hi2
            simp at hi
            subst hi
            simp [go_sem]
          case c2 => intro u hu; simp at hu; subst hu; rfl
          case c3 => unfold maxLen; omega
          case c4 => omega
          case c5 => have := HXE.out.size; simp; omega
          intro g2 cap2 w2 hown4 hg2 hat2 hgl2
          have hbA := ownsExt HOW.out (Ext.alloc (Ext.refl w1) (.cells #[.int .i64 z] 3))
          have hbk2 := ownsGrown hbA hg2 HAP.out
          have hap2 : ∀ g', vb.ownBlock = some g' → ¬ (Value.slice (some ⟨g2, 0, none⟩) ((rightL zs0 (j + 1)).length + 1) cap2).ownBlock = some g' := by
            intro g' h1 h2
            have e : g2 = g' := by simpa [Value.ownBlock] using h2
            subst e
            rcases hat2 with h3 | h3
            · exact HAP.out g2 h1 h3
            · have := owns_lt HOW.out h1
              (try simp at h3)
              omega
          have hx2 : Ext w w2 := Ext.owned (Ext.trans HXE.out (Ext.alloc (Ext.refl w1) _)) (World.ownsRow.alloc hrt3 _) hg2
          have hown5 : OwnI w2 w.heap.size (.slice (some ⟨g2, 0, none⟩) ((rightL zs0 (j + 1)).length + 1) cap2) (rightL zs0 j) := by
            rw [HRL.out]
            have := hown4
            unfold OwnI
            simpa [ivals] using this
          generalize (Value.slice (some ⟨g2, 0, none⟩) ((rightL zs0 (j + 1)).length + 1) cap2) = vr at hown5 hap2 ⊢
          have HQ := hid (And.intro hbk2 (And.intro hown5 (And.intro hap2 hx2)))
          clear hown4 hown5 hap2 hx2 hbk2 hbA hg2 hat2 hgl2 hrt3
          go_wp2
          go_roundw
          case rel => exact ⟨j, by omega, by first | rfl | go_num, hid HQ.out.1, hid HQ.out.2.1, hid HQ.out.2.2.1, hid HQ.out.2.2.2⟩
          case measure => first | (simp [intOf]; done) | (simp [intOf]; omega)
        | false =>
          have HR := hid hr
          have HRL := hid (rightL_no hlt (by rw [hzj]; exact hr))
          clear hr
          go_wp2_with (go_at_call 13; (with_reducible refine Calls.mono (right z _) ?_); rw [HR.out]; rintro e w1 ⟨rfl, rfl⟩)
          go_roundw
          case rel => exact ⟨j, by omega, by first | rfl | go_num, HOW, by rw [HRL.out]; exact HRT, HAP, HXE⟩
          case measure => first | (simp [intOf]; done) | (simp [intOf]; omega)
      | 0, hk =>
        obtain ⟨A1, ca1, rfl, hs1⟩ := hbk.out.rd
        obtain ⟨A2, ca2, rfl, hs2⟩ := hrt.out.rd
        have hbl := backL_len zs0 0
        have hrl := rightL_len zs0 0
        have HL1 := hid (show (backL zs0 0).length ≤ maxLen by unfold maxLen; omega)
        have HL2 := hid (show (rightL zs0 0).length ≤ maxLen by unfold maxLen; omega)
        have HL0 := hid (show zs0.length ≤ maxLen by unfold maxLen; omega)
        obtain ⟨x, hxv⟩ : ∃ x, ofL zs0 0 = x := ⟨_, rfl⟩
        have HV1 := hid ((of_back zs0).trans hxv)
        have HV2 := hid ((of_rights zs0).trans hxv)
        have HV0 := hid hxv
        have HR := hid (hxv ▸ ofL_right zs0)
        have HS1 := hid hs1
        have HS2 := hid hs2
        clear hs1 hs2 hbk hrt hap hxv hbl hrl
        generalize backL zs0 0 = B1 at HL1 HV1 HS1 ⊢
        generalize rightL zs0 0 = B2 at HL2 HV2 HS2 ⊢
        go_wp2_with (go_at_call 21; (with_reducible refine Calls.mono (of_any A0 cap0 zs0 _ (slAt_ext' HS.out hx.out) HL0.out) ?_); rw [HV0.out]; rintro e w1 ⟨rfl, rfl⟩)
        go_wp2_with (go_at_call 13; (with_reducible refine Calls.mono (right x _) ?_); rw [HR.out]; rintro e w1 ⟨rfl, rfl⟩)
        refine Calls.mono (of_any A1 ca1 B1 _ HS1.out HL1.out) ?_
        rw [HV1.out]
        rintro e w1 ⟨rfl, rfl⟩
        go_wp2_with fail
        refine Calls.mono (of_any A2 ca2 B2 _ HS2.out HL2.out) ?_
        rw [HV2.out]
        rintro e w1 ⟨rfl, rfl⟩
        go_wp2
        go_ret
        exact ⟨by simp, Ext.trans hx.out (by repeat (first | (with_reducible exact Ext.refl _) | (with_reducible refine Ext.undrew ?_) | (with_reducible refine Ext.grow ?_ _) | (with_reducible refine Ext.drew ?_) | (with_reducible refine Ext.drewN ?_ _) | (with_reducible refine Ext.alloc ?_ _) | (with_reducible assumption) | ((with_reducible refine Ext.setCell ?_ ?_ _); rotate_left; (first | exact Nat.le_refl _ | ((try dsimp only); (try simp only [World.size_alloc, grow_size, World.size_setCell]); omega)))))⟩
  · have h9' : ¬ (zs0.length : Int) ≤ 900 := h9
    go_enter Try.func9, Try.ntmps9
    go_wp2_with (go_at_call 10; refine Calls.mono (head _) ?_; rintro e wh ⟨rfl, hxh⟩; obtain ⟨dh, rfl⟩ := hxh.grown; clear hxh)
    go_ret
    exact ⟨rfl, (by repeat (first | (with_reducible exact Ext.refl _) | (with_reducible refine Ext.undrew ?_) | (with_reducible refine Ext.grow ?_ _) | (with_reducible refine Ext.drew ?_) | (with_reducible refine Ext.drewN ?_ _) | (with_reducible refine Ext.alloc ?_ _) | (with_reducible assumption) | ((with_reducible refine Ext.setCell ?_ ?_ _); rotate_left; (first | exact Nat.le_refl _ | ((try dsimp only); (try simp only [World.size_alloc, grow_size, World.size_setCell]); omega)))))⟩
end permAny

end Go.Proofs.Ytgjnobjoijehaaa
