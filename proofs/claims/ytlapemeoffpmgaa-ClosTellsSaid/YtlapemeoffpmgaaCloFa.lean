/- Layer 6: found, which is walked over. -/
import Derived.Test.YtlapemeoffpmgaaCloF
import Derived.Test.YtlapemeoffpmgaaCloCc
import Derived.Test.YtlapemeoffpmgaaCloG
import Derived.RangeFuncNested
import Derived.RangeFuncBound
import Derived.RangeFuncCalls
import Derived.RangeFuncLeaves
import Derived.Shelf.Abstract
import Derived.Shelf.RegionOpen
import Derived.WalkKit
import Derived.OwnWalkIn
import Derived.TacticsInMore
import Derived.LoopNIn
import Derived.LoopIn
namespace Go.Proofs.Ytlapemeoffpmgaa
set_option linter.unusedSimpArgs false
set_option linter.unusedVariables false
open Go.RowKit

theorem quiet_loadC {P : Program} {o : Oper} {a : Act} {C : World → Prop} {K : Act → Prop} (ty : TypeId) (x : Operand) (ho : o.op = .load ty x) (b off : Nat) (hx : a.eval x = .pointer (some ⟨b, off, none⟩)) (cs : List Value) (d : TypeDesc)
    (hc : ∀ w', C w' → w'.rangeAt b off cs) (hu : P.underlying ty = some d) (hd : d.isRow = true) (hi : (P.info? ty).map (·.size) = some cs.length) (k : K (a.put o.dst (.agg cs.toArray))) : o.quiet P a C K := by
  refine ⟨_, fun w' hw' => ?_, k⟩
  unfold Oper.quietAt execOp
  rw [ho]
  simp only [hx, run_loadAt_mid w' b off ty cs d (hc w' hw') hu hd hi, Sem.run_bind, Sem.run_map, Sem.run_pure, Result.andThen, Oper.quietUpon, and_self]
theorem quiet_runD {P : Program} {o : Oper} {a : Act} {C : World → Prop} {K : Act → Prop} (d : Nat) (_ : o.dst = some d) (v : Value) (h : ∀ w, (execOp a.eval o).run P w = .ok (.value v) w) (k : K (a.put o.dst v)) : o.quiet P a C K := quiet_run v h k
theorem only_gen {S : Nat → Prop} {P : Program} {ops : Array Oper} {Q : Exit → Act → World → Prop} {r : Ord Oper} {W : World} {a : Act} {w : World} (I : World → Prop) (hI : I w) (h : ∀ w', I w' → wpOnly S P ops Q r W a w') : wpOnly S P ops Q r W a w := h w hI
theorem wp_gen {P : Program} {a : Act} {Q : Exit → Act → World → Prop} {c : Code} {w : World} (I : World → Prop) (hI : I w) (h : ∀ w', I w' → c.wp P Q a w') : c.wp P Q a w := h w hI
theorem own_len (A : Option Addr) (n c n2 c2 : Nat) : (Value.slice A n c).ownBlock = (Value.slice A n2 c2).ownBlock := by cases A <;> rfl
theorem zero70 : ∀ k, k < 256 → Try.zeroCells70[k]? = some (.slice none 0 0) := by
  intro k hk
  have h : Try.zeroCells70 = Array.replicate 256 (.slice none 0 0) := by kernel_rfl
  rw [h]
  simp [hk]
set_option maxRecDepth 100000 in
set_option maxHeartbeats 4000000 in
theorem foundA_ (n : Nat) (hn : 2 ≤ n) (l0 lb qb ca m : Nat) (A : Option Addr) (G : List Cap) (J : List Cap → World → Prop)
    (hY : ∀ pre x W1, J pre W1 → pre.length < m → YieldAt Fence.wide (n - 1) Try.prog l0 #[.agg #[.bool x.tag, .int .i64 x.base, .int .i64 x.top, .int .i64 x.at_, .int .i64 x.perms, .int .i64 x.type]] W1 fun e W' => e = .returned (.bool true) ∧ J (pre ++ [x]) W' ∧ KpB lb W1 W') (W : World) (hTn : ∀ pre A B, J pre A → TnF lb W.heap.size A B → J pre B) (hm : G.length = m) (hm1 : m ≤ 1000) (hG : ∀ g ∈ G, 0 ≤ g.type ∧ g.type ≤ 255) (hqb : W.cell? ⟨qb, 0, none⟩ = some (.slice A m ca)) (hqbl : qb < W.heap.size) (hA : RdF Cap.cells W A G) (hlb : lb < W.heap.size) (hown : ∀ i, ¬ ownAtBox lb W i) (h0 : J [] W) :
    CallsIn Fence.wide n Try.prog 51 #[.func (.yield l0) #[] #[], .pointer (some ⟨qb, 0, none⟩)] W fun e W' => (∃ v, e = .returned v) ∧ J (foundC G) W' := by
  refine callsIn_of_wp Try.func51 rfl trivial ?_ rfl
  simp only [Try.ntmps51]
  simp only [List.size_toArray, List.length_cons, List.length_nil, Nat.reduceAdd, Nat.reduceSub, Array.replicate_succ, Array.replicate_zero, List.push_toArray, List.append_toArray, List.nil_append, List.cons_append]
  refine wpIn_wide.2 ?_
  have HA := hid hA
  have HG := hid hG
  have HM := hid hm
  have HY := hid hY
  have HTn := hid hTn
  clear hA hG hm hY hTn
  go_upto_region 1 with (fail)
  obtain ⟨n0, hn0⟩ : ∃ x, W.heap.size = x := ⟨_, rfl⟩
  refine wp_gen (fun W1 => Hid (Ext W W1) ∧ Hid (SeaL W1 n0 n0 (fun _ => .slice none 0 0) (sealedC []))) ⟨hid (by repeat (first | (with_reducible exact Ext.refl _) | (with_reducible refine Ext.undrew ?_) | (with_reducible refine Ext.grow ?_ _) | (with_reducible refine Ext.drew ?_) | (with_reducible refine Ext.drewN ?_ _) | (with_reducible refine Ext.alloc ?_ _) | (with_reducible assumption) | ((with_reducible refine Ext.setCell ?_ ?_ _); rotate_left; (first | exact Nat.le_refl _ | ((try dsimp only); (try simp only [World.size_alloc, grow_size, World.size_setCell]); omega))))), hid ?sea0⟩ ?_
  case sea0 =>
    subst hn0
    exact ⟨by simp, Nat.le_refl _, fun k hk => by simp [go_sem]; exact zero70 k hk, fun k hk => by simp [go_sem], fun k hk => by rw [sealedC_nil]; exact ownsAt_nil _ _ _ _, fun j k g _ _ e => by (cases e), fun k g _ e => by (cases e)⟩
  rintro W1 ⟨HX1, HS1⟩
  rw [hn0] at HTn hlb ⊢
  have c1 := (HX1.out.cells qb 0 hqbl).trans hqb
  go_wp2
  go_loopw [13] (fun i wr => ∃ k vs, k ≤ m ∧ i = .int .i64 (k : Nat) ∧ Hid (SeaL wr n0 n0 vs (sealedC (G.take k))) ∧ Hid (Ext W wr)) (fun i _ => m - (intOf i).toNat)
  case atStart => exact ⟨0, _, Nat.zero_le _, rfl, HS1, HX1⟩
  case round =>
    clear HS1 HX1 c1
    obtain ⟨k, vs, hk, rfl, HS, HX⟩ := hrel
    by_cases hlt : k < m
    · have hk1 : (k : Int) < (m : Int) := by omega
      have hk0 : (0 : Int) ≤ (k : Int) := by omega
      have hkl : k < G.length := by rw [HM.out]; exact hlt
      obtain ⟨d, hd⟩ : ∃ d, G[k] = d := ⟨_, rfl⟩
      have hty := HG.out d (by rw [← hd]; exact List.getElem_mem hkl)
      obtain ⟨kd, hkd⟩ : ∃ x : Nat, d.type = (x : Int) := ⟨d.type.toNat, by omega⟩
      have hkd2 : kd < 256 := by omega
      have HT := hid (show sealedC (G.take (k + 1)) = upF (sealedC (G.take k)) kd (sealedC (G.take k) kd ++ [(Cap.mk d.tag d.base d.top d.base d.perms 0)]) by rw [List.take_succ_eq_append_getElem hkl, hd]; exact sealedC_snoc _ _ kd hkd)
      have HLN := hid (Nat.le_trans (sealedC_len (G.take k) kd) (by rw [List.length_take]; omega : (G.take k).length ≤ m))
      obtain ⟨b', o', rfl, hb1, q0, q1, q2, q3, q4, q5⟩ := (HA.out.ext HX.out).cap hkl d hd
      rw [hkd] at q5
      clear hd hty
      go_upto_region 6 with (fail)
      refine wp_gen (fun W3 => Hid (Ext wr W3) ∧ Hid (Row W3 wr.heap.size 0 (Cap.cells (Cap.mk d.tag d.base d.top d.base d.perms 0)))) ⟨hid (by repeat (first | (with_reducible exact Ext.refl _) | (with_reducible refine Ext.undrew ?_) | (with_reducible refine Ext.grow ?_ _) | (with_reducible refine Ext.drew ?_) | (with_reducible refine Ext.drewN ?_ _) | (with_reducible refine Ext.alloc ?_ _) | (with_reducible assumption) | ((with_reducible refine Ext.setCell ?_ ?_ _); rotate_left; (first | exact Nat.le_refl _ | ((try dsimp only); (try simp only [World.size_alloc, grow_size, World.size_setCell]); omega))))), hid ?rw3⟩ ?_
      case rw3 => exact Row.new wr #[.bool d.tag, .int .i64 d.base, .int .i64 d.top, .int .i64 d.base, .int .i64 d.perms, .int .i64 0] 24
      rintro W3 ⟨HX3, HR3⟩
      have HS3 := hid (HS.out.ext HX3.out)
      have hx3 := HX3.out.size
      have hbl := HR3.out.lt
      have hbb : n0 ≤ wr.heap.size := by rw [← hn0]; exact HX.out.size
      have hcs := HS3.out.cs kd hkd2
      have hfz := HS3.out.fz kd hkd2
      have hi0 : (0 : Int) ≤ (kd : Int) := by omega
      have hi1 : (kd : Int) < 256 := by omega
      obtain ⟨vk, hvk⟩ : ∃ x, vs kd = x := ⟨_, rfl⟩
      have hlt0 := HS.out.lt
      have HLN := hid (show (sealedC (G.take k) kd).length ≤ 1000000 by have := HLN.out; omega)
      have HVK := hid (show ∀ g, vk.ownBlock = some g → g < wr.heap.size from fun g e => ((HS.out.row kd hkd2).lt g (by rw [hvk]; exact e)).2)
      have HOW := hid (show ownsAt W3 n0 24 6 vk (sealedC (G.take k) kd).length (rowF Cap.cells (sealedC (G.take k) kd)) by rw [← hvk]; exact HS3.out.row kd hkd2)
      have HNA := hid (show ∀ g, vk.ownBlock = some g → ¬ g = n0 from fun g e => HS3.out.nab kd g hkd2 (by rw [hvk]; exact e))
      have HVS := hid hvk
      rw [hvk] at hcs
      clear hvk q0 q1 q2 q3 q4 q5
      obtain ⟨bx, hbx⟩ : ∃ x, wr.heap.size = x := ⟨_, rfl⟩
      rw [hbx] at hx3 hbl hbb HVK HR3 hlt0 ⊢
      have HBX := hid hbx
      clear hbx
      refine wp_region_only (S := (fun i => i = n0 ∨ vk.ownBlock = some i)) (.rd 0 (.rd 1 (.rd 2 (.rd 4 (.br 3 (.ac 5 (.ac 6 (.rd 7 (.ac 8 .done)))) 5 (.ac 3 (.ac 6 (.rd 7 (.ac 8 .done))))))))) (by kernel_rfl) (by kernel_rfl) (fun _ _ d _ _ h => by cases d <;> exact h) (by simp only [Ord.map, nthOp, List.append]; rfl) ?_
      intro d1
      have HX4 := hid (HX3.out.trans (Ext.grow (Ext.refl W3) d1))
      have HS4 := hid (HS3.out.ext (Ext.grow (Ext.refl W3) d1))
      have HR4 := hid (HR3.out.ext (Ext.grow (Ext.refl W3) d1))
      have HO4 := hid (HOW.out.ext (Ext.grow (Ext.refl W3) d1))
      have hc4 : World.cell? (Go.Proofs.Ytlapemeoffpmgaa.grow W3 d1) ⟨n0, kd, none⟩ = some vk := ((Ext.grow (Ext.refl W3) d1).cells n0 kd (by omega)).trans hcs
      have hf4 : World.frozen? (Go.Proofs.Ytlapemeoffpmgaa.grow W3 d1) ⟨n0, kd, none⟩ = false := ((Ext.grow (Ext.refl W3) d1).frozens n0 kd (by omega)).trans hfz
      generalize Go.Proofs.Ytlapemeoffpmgaa.grow W3 d1 = W4 at HX4 HS4 HR4 HO4 hc4 hf4 ⊢
      clear HX3 HS3 HR3 HOW hcs hfz
      have hn4 := HS4.out.lt
      have hbl4 := HR4.out.lt
      have hb4 := HS4.out.lt
      have HBS := hid (show n0 ≤ W4.heap.size by omega)
      have hSb : ¬ (bx = n0 ∨ vk.ownBlock = some bx) := by
        rintro (h | h)
        · omega
        · have := HVK.out bx h; omega
      refine only_read (by rfl) (fun K hK => ?_)
      go_big_quiet_op
      refine hK _ ?_
      clear hK K
      refine only_read (by rfl) (fun K hK => ?_)
      go_big_quiet_op
      refine hK _ ?_
      clear hK K
      refine only_read (by rfl) (fun K hK => ?_)
      refine quiet_runD 25 rfl (.pointer (some ⟨n0, kd, none⟩)) (fun w => by go_simp) ?_
      refine hK _ ?_
      clear hK K
      simp only [Act.put, List.setIfInBounds_toArray, List.set_cons_zero, List.set_cons_succ]
      refine only_read (by rfl) (fun K hK => ?_)
      refine quiet_loadC 24 (.tmp 5) rfl bx 0 rfl (Cap.cells (Cap.mk d.tag d.base d.top d.base d.perms 0)) _ (fun w' hw' => (HR4.out.only hw' hSb).range) Try.underlying24 rfl (by kernel_rfl) ?_
      refine hK _ ?_
      clear hK K
      simp only [Act.put, List.setIfInBounds_toArray, List.set_cons_zero, List.set_cons_succ]
      refine only_br ?_ ?_
      · refine only_act (by rfl) (fun K hK => ?_)
        go_wp2_with fail
        refine ⟨_, Only.refl _ _, Only.refl _ _, ?_⟩
        refine only_act (by rfl) (fun K hK => ?_)
        refine wp_build1 22 24 (.tmp 27) rfl #[.bool d.tag, .int .i64 d.base, .int .i64 d.top, .int .i64 d.base, .int .i64 d.perms, .int .i64 0] 6 rfl rfl (by omega) (by omega) Try.underlying22 (by kernel_rfl) (by kernel_rfl) ?_
        refine hK _ _ ⟨_, Only.refl _ _, Only.ofExt (Ext.alloc (Ext.refl _) _), ?_⟩
        refine only_gen (fun W => Hid (Ext W4 W) ∧ Hid (Row W W4.heap.size 0 (Cap.cells (Cap.mk d.tag d.base d.top d.base d.perms 0)))) ⟨hid (Ext.alloc (Ext.refl _) _), hid (Row.new W4 _ _)⟩ ?_
        clear hK K
        rintro w4 ⟨hE4, hR4⟩
        have hS5 : Hid (Only (fun i => i = n0 ∨ vk.ownBlock = some i) W4 w4) := hid (Only.ofExt hE4.out)
        have hc5 := (hE4.out.cells n0 kd hb4).trans hc4
        refine only_act (by rfl) (fun K hK => ?_)
        refine wp_app_row cap_len (by decide) cap_one Try.underlying22 info_capN (.tmp 26) (.tmp 28) rfl n0 vk ((sealedC (G.take k) kd)).length (rowF Cap.cells ((sealedC (G.take k) kd))) rfl (HO4.out.ext hE4.out) (some ⟨W4.heap.size, 0, none⟩) 1 1 [(Cap.mk d.tag d.base d.top d.base d.perms 0)] rfl rfl (rdF_row0 (f := Cap.cells) (z := (Cap.mk d.tag d.base d.top d.base d.perms 0)) hR4.out) (by have := HLN.out; unfold maxLen; omega) (by have := HLN.out; omega) (Nat.le_trans HBS.out hE4.out.size) ?_
        intro v6 w6 hown6 hgrow hat
        obtain ⟨A6, c6, hv6, _, _⟩ := hown6.shape
        subst hv6
        have HO6 : Hid (ownsAt w6 n0 24 6 (.slice A6 (((sealedC (G.take k) kd)).length + 1) c6) ((sealedC (G.take k) kd) ++ [(Cap.mk d.tag d.base d.top d.base d.perms 0)]).length (rowF Cap.cells ((sealedC (G.take k) kd) ++ [(Cap.mk d.tag d.base d.top d.base d.perms 0)]))) := hid (by rw [rowF_append, List.length_append]; exact hown6)
        have HT6 : Hid (Only (fun i => vk.ownBlock = some i) W4 w6) := hid ((Only.ofExt hE4.out).trans' (grownOnly hgrow fun g hg => hg))
        have hS6 : Hid (Only (fun i => i = n0 ∨ vk.ownBlock = some i) W4 w6) := hid (Only.trans' hS5.out (grownOnly hgrow fun g hg => .inr hg))
        have HAT : Hid (∀ g, (Value.slice A6 (((sealedC (G.take k) kd)).length + 1) c6).ownBlock = some g → vk.ownBlock = some g ∨ W4.heap.size ≤ g) := hid (fun g h => by
          rcases hat with h' | ⟨g', h', hlt⟩
          · exact .inl (h' ▸ h)
          · rw [h] at h'
            simp only [Option.some.injEq] at h'
            have := hE4.out.size
            exact .inr (by omega))
        have hc6 := (HT6.out.cells n0 kd hb4 (fun e => HNA.out n0 e rfl)).trans hc4
        have hf6 := (HT6.out.frozens n0 kd hb4 (fun e => HNA.out n0 e rfl)).trans hf4
        have hb6 : n0 < w6.heap.size := Nat.lt_of_lt_of_le hb4 HT6.out.size
        refine hK _ _ ⟨_, Only.refl _ _, hS6.out, ?_⟩
        clear hK K hgrow hS5 hR4 hE4 hc5 hat hown6
        simp only [Act.put, List.setIfInBounds_toArray, List.set_cons_zero, List.set_cons_succ]
        refine only_read (by rfl) (fun K hK => ?_)
        refine quiet_runD 30 rfl (.pointer (some ⟨n0, kd, none⟩)) (fun w => by go_simp) ?_
        refine hK _ ?_
        clear hK K
        simp only [Act.put, List.setIfInBounds_toArray, List.set_cons_zero, List.set_cons_succ]
        refine only_act (by rfl) (fun K hK => ?_)
        go_wp2_with fail
        refine ⟨_, Only.refl _ _, Only.setCell (S := (fun i => i = n0 ∨ vk.ownBlock = some i)) hS6.out (Or.inl (Or.inl rfl)) _, ?_⟩
        refine only_nil ?_
        have HS7 := hid (HS4.out.put (T := fun i => vk.ownBlock = some i) hkd2 HT6.out (fun i h => .inl (by rw [HVS.out]; exact h)) HO6.out (fun g h => by rw [HVS.out]; exact HAT.out g h))
        rw [← HT.out] at HS7
        have HE7 : Hid (Ext W (w6.setCell ⟨n0, kd, none⟩ (.slice A6 ((sealedC (G.take k) kd).length + 1) c6))) := hid (Ext.only (HX.out.trans HX4.out) (Only.setCell (S := fun i => n0 ≤ i) (Only.trans (Only.refl _ W4) HT6.out (fun i h => .inl (HO4.out.lt i h).1)) (.inl (Nat.le_refl _)) _) (fun i hi => by omega))
        clear HS4 HT6 HO6 HAT hc6 hf6 hb6
        go_wp2
        go_roundw
        case rel => exact ⟨k + 1, _, by omega, by go_num, HS7, HE7⟩
        case measure => simp [intOf]; omega
      · refine only_act (by rfl) (fun K hK => ?_)
        refine wp_build1 22 24 (.tmp 27) rfl #[.bool d.tag, .int .i64 d.base, .int .i64 d.top, .int .i64 d.base, .int .i64 d.perms, .int .i64 0] 6 rfl rfl (by omega) (by omega) Try.underlying22 (by kernel_rfl) (by kernel_rfl) ?_
        refine hK _ _ ⟨_, Only.refl _ _, Only.ofExt (Ext.alloc (Ext.refl _) _), ?_⟩
        refine only_gen (fun W => Hid (Ext W4 W) ∧ Hid (Row W W4.heap.size 0 (Cap.cells (Cap.mk d.tag d.base d.top d.base d.perms 0)))) ⟨hid (Ext.alloc (Ext.refl _) _), hid (Row.new W4 _ _)⟩ ?_
        clear hK K
        rintro w4 ⟨hE4, hR4⟩
        have hS5 : Hid (Only (fun i => i = n0 ∨ vk.ownBlock = some i) W4 w4) := hid (Only.ofExt hE4.out)
        have hc5 := (hE4.out.cells n0 kd hb4).trans hc4
        refine only_act (by rfl) (fun K hK => ?_)
        go_wp2_with fail
        refine ⟨_, Only.refl _ _, hS5.out, ?_⟩
        refine only_act (by rfl) (fun K hK => ?_)
        refine wp_app_row cap_len (by decide) cap_one Try.underlying22 info_capN (.tmp 26) (.tmp 28) rfl n0 vk ((sealedC (G.take k) kd)).length (rowF Cap.cells ((sealedC (G.take k) kd))) rfl (HO4.out.ext hE4.out) (some ⟨W4.heap.size, 0, none⟩) 1 1 [(Cap.mk d.tag d.base d.top d.base d.perms 0)] rfl rfl (rdF_row0 (f := Cap.cells) (z := (Cap.mk d.tag d.base d.top d.base d.perms 0)) hR4.out) (by have := HLN.out; unfold maxLen; omega) (by have := HLN.out; omega) (Nat.le_trans HBS.out hE4.out.size) ?_
        intro v6 w6 hown6 hgrow hat
        obtain ⟨A6, c6, hv6, _, _⟩ := hown6.shape
        subst hv6
        have HO6 : Hid (ownsAt w6 n0 24 6 (.slice A6 (((sealedC (G.take k) kd)).length + 1) c6) ((sealedC (G.take k) kd) ++ [(Cap.mk d.tag d.base d.top d.base d.perms 0)]).length (rowF Cap.cells ((sealedC (G.take k) kd) ++ [(Cap.mk d.tag d.base d.top d.base d.perms 0)]))) := hid (by rw [rowF_append, List.length_append]; exact hown6)
        have HT6 : Hid (Only (fun i => vk.ownBlock = some i) W4 w6) := hid ((Only.ofExt hE4.out).trans' (grownOnly hgrow fun g hg => hg))
        have hS6 : Hid (Only (fun i => i = n0 ∨ vk.ownBlock = some i) W4 w6) := hid (Only.trans' hS5.out (grownOnly hgrow fun g hg => .inr hg))
        have HAT : Hid (∀ g, (Value.slice A6 (((sealedC (G.take k) kd)).length + 1) c6).ownBlock = some g → vk.ownBlock = some g ∨ W4.heap.size ≤ g) := hid (fun g h => by
          rcases hat with h' | ⟨g', h', hlt⟩
          · exact .inl (h' ▸ h)
          · rw [h] at h'
            simp only [Option.some.injEq] at h'
            have := hE4.out.size
            exact .inr (by omega))
        have hc6 := (HT6.out.cells n0 kd hb4 (fun e => HNA.out n0 e rfl)).trans hc4
        have hf6 := (HT6.out.frozens n0 kd hb4 (fun e => HNA.out n0 e rfl)).trans hf4
        have hb6 : n0 < w6.heap.size := Nat.lt_of_lt_of_le hb4 HT6.out.size
        refine hK _ _ ⟨_, Only.refl _ _, hS6.out, ?_⟩
        clear hK K hgrow hS5 hR4 hE4 hc5 hat hown6
        simp only [Act.put, List.setIfInBounds_toArray, List.set_cons_zero, List.set_cons_succ]
        refine only_read (by rfl) (fun K hK => ?_)
        refine quiet_runD 30 rfl (.pointer (some ⟨n0, kd, none⟩)) (fun w => by go_simp) ?_
        refine hK _ ?_
        clear hK K
        simp only [Act.put, List.setIfInBounds_toArray, List.set_cons_zero, List.set_cons_succ]
        refine only_act (by rfl) (fun K hK => ?_)
        go_wp2_with fail
        refine ⟨_, Only.refl _ _, Only.setCell (S := (fun i => i = n0 ∨ vk.ownBlock = some i)) hS6.out (Or.inl (Or.inl rfl)) _, ?_⟩
        refine only_nil ?_
        have HS7 := hid (HS4.out.put (T := fun i => vk.ownBlock = some i) hkd2 HT6.out (fun i h => .inl (by rw [HVS.out]; exact h)) HO6.out (fun g h => by rw [HVS.out]; exact HAT.out g h))
        rw [← HT.out] at HS7
        have HE7 : Hid (Ext W (w6.setCell ⟨n0, kd, none⟩ (.slice A6 ((sealedC (G.take k) kd).length + 1) c6))) := hid (Ext.only (HX.out.trans HX4.out) (Only.setCell (S := fun i => n0 ≤ i) (Only.trans (Only.refl _ W4) HT6.out (fun i h => .inl (HO4.out.lt i h).1)) (.inl (Nat.le_refl _)) _) (fun i hi => by omega))
        clear HS4 HT6 HO6 HAT hc6 hf6 hb6
        go_wp2
        go_roundw
        case rel => exact ⟨k + 1, _, by omega, by go_num, HS7, HE7⟩
        case measure => simp [intOf]; omega
    · obtain rfl : k = m := by omega
      have hk1 : ¬ (k : Int) < (k : Int) := by omega
      have e9 : G.take k = G := List.take_of_length_le (by rw [HM.out]; exact Nat.le_refl _)
      rw [e9] at HS
      clear e9
      have k0 := HS.out.cs 0 (by omega)
      have k1 := HS.out.cs 1 (by omega)
      obtain ⟨A0, c0, e0, _, _⟩ := (HS.out.row 0 (by omega)).shape
      obtain ⟨A1, c1, e1, _, _⟩ := (HS.out.row 1 (by omega)).shape
      rw [e0] at k0
      rw [e1] at k1
      have HR0 := hid (show RdF Cap.cells wr A0 (sealedC G 0) from ownsAt.rdF (by have := HS.out.row 0 (by omega); rw [e0] at this; exact this) rfl)
      have HR1 := hid (show RdF Cap.cells wr A1 (sealedC G 1) from ownsAt.rdF (by have := HS.out.row 1 (by omega); rw [e1] at this; exact this) rfl)
      have hb := HS.out.lt
      clear e0 e1
      have s0 := Nat.le_trans (sealedC_len G 0) (Nat.le_of_eq HM.out)
      have s1 := Nat.le_trans (sealedC_len G 1) (Nat.le_of_eq HM.out)
      go_wp2_with fail
      refine (cconcat_ wr.heap.size 2 A0 _ c0 (sealedC G 0) A1 _ c1 (sealedC G 1) _ (by simp) (by simp [go_sem]) (by simp [go_sem]) (HR0.out.ext (by repeat (first | (with_reducible exact Ext.refl _) | (with_reducible refine Ext.undrew ?_) | (with_reducible refine Ext.grow ?_ _) | (with_reducible refine Ext.drew ?_) | (with_reducible refine Ext.drewN ?_ _) | (with_reducible refine Ext.alloc ?_ _) | (with_reducible assumption) | ((with_reducible refine Ext.setCell ?_ ?_ _); rotate_left; (first | exact Nat.le_refl _ | ((try dsimp only); (try simp only [World.size_alloc, grow_size, World.size_setCell]); omega)))))) rfl (HR1.out.ext (by repeat (first | (with_reducible exact Ext.refl _) | (with_reducible refine Ext.undrew ?_) | (with_reducible refine Ext.grow ?_ _) | (with_reducible refine Ext.drew ?_) | (with_reducible refine Ext.drewN ?_ _) | (with_reducible refine Ext.alloc ?_ _) | (with_reducible assumption) | ((with_reducible refine Ext.setCell ?_ ?_ _); rotate_left; (first | exact Nat.le_refl _ | ((try dsimp only); (try simp only [World.size_alloc, grow_size, World.size_setCell]); omega)))))) rfl (by omega)).mono ?_
      rintro e W2 ⟨A', c', l, rfl, hl, HO, HX2⟩
      have hx2 : Ext wr W2 := ((Ext.refl _).alloc _).trans HX2.out
      have hz : (wr.alloc (.cells #[.slice A0 (sealedC G 0).length c0, .slice A1 (sealedC G 1).length c1] 22)).heap.size = wr.heap.size + 1 := by simp
      have hO := HO.out
      rw [hz] at hO
      have HF : Hid (FoI W2 n0 lb n0 vs (sealedC G) (.slice A' l c') (sealedC G 0 ++ sealedC G 1)) := hid ⟨HS.out.ext hx2, by rw [List.length_append, hl]; exact hO.weak (by omega), fun j g hj e e2 => by (have h8 := (hO.lt g e).1; have h9 := ((HS.out.row j hj).lt g e2).2; omega), fun g e => by (have h8 := (hO.lt g e).1; omega), fun i h => absurd (by obtain ⟨o, nn, cc, e⟩ := h; exact ⟨o, nn, cc, ((HX.out.trans hx2).cells lb 0 (by omega)).symm.trans e⟩) (hown i), by omega⟩
      have HJ2 : Hid (J [] W2) := hid (HTn.out [] W W2 h0 (TnF.ext (HX.out.trans hx2)))
      clear hO hz hx2 HO HX2 HR0 HR1 k0 k1 hb s0 s1 HS HX hown h0
      go_wp2_with fail
      refine (wpIn_wide (n := n)).1 ?_
      gi_loopw [7] (fun v wr => ∃ n1 vs S w Y, Hid (FoI wr n0 lb n0 vs S v w) ∧ Hid (totC w S < n1 ∧ Y.length + totC w S ≤ k) ∧ Hid (FB G Y n1 w S) ∧ Hid (J Y wr)) (fun v wr => lenV v + lenH wr n0)
      case atStart => exact ⟨G.length + 1, _, _, _, [], HF, hid ⟨Nat.lt_succ_of_le (tot_start G), by have := tot_start G; have := HM.out; simp only [List.length_nil]; omega⟩, hid (FB.start G), HJ2⟩
      case round =>
        clear HF HJ2
        obtain ⟨n1, vs, S, w, Y, HF, HT, HB, HJ⟩ := hrel
        obtain ⟨A, ca, rfl, _, _⟩ := HF.out.own.shape
        cases w with
        | nil =>
          have hz : ¬ (((([] : List Cap).length : Nat) : Int) > 0) := by simp
          gi_wp2
          go_end0
          obtain ⟨n1, rfl⟩ : ∃ x, n1 = x + 1 := ⟨n1 - 1, by have := HT.out.1; omega⟩
          exact ⟨⟨_, rfl⟩, by rw [HB.out.last]; exact HJ.out⟩
        | cons c w =>
          obtain ⟨n1, rfl⟩ : ∃ x, n1 = x + 1 := ⟨n1 - 1, by have := HT.out.1; omega⟩
          have hz : (((((c :: w).length : Nat) : Int)) > 0) := by simp only [List.length_cons]; omega
          have hz0 : (0 : Int) ≤ (((c :: w).length : Nat) : Int) := by omega
          have hz1 : (1 : Int) ≤ (((c :: w).length : Nat) : Int) := by simp only [List.length_cons]; omega
          have HT9 := hid (tot_step c w S)
          have hY9 : Y.length < k := by have := HT.out.2; have := HT9.out; omega
          obtain ⟨bw, ow, rfl, hbw, q0, q1, q2, q3, q4, q5⟩ := (HF.out.own.rdF rfl).cap (k := 0) (by simp) c rfl
          simp only [Nat.zero_mul, Nat.add_zero] at q0 q1 q2 q3 q4 q5
          obtain ⟨nw, hnw⟩ : ∃ x, (c :: w).length = x := ⟨_, rfl⟩
          rw [hnw] at hz hz0 hz1 ⊢
          have HNW := hid hnw
          have hnw2 : nw = w.length + 1 := by rw [← hnw]; rfl
          have HN2 := hid hnw2
          clear hnw hnw2
          have HR1 := hid (Row.new wr #[.bool c.tag, .int .i64 c.base, .int .i64 c.top, .int .i64 c.at_, .int .i64 c.perms, .int .i64 c.type] 24)
          have HJ1 := hid (HTn.out Y wr _ HJ.out (TnF.ext (Ext.alloc (Ext.refl wr) (.cells #[.bool c.tag, .int .i64 c.base, .int .i64 c.top, .int .i64 c.at_, .int .i64 c.perms, .int .i64 c.type] 24))))
          obtain ⟨fn, tmps, assign, body, hy, hR⟩ := HY.out Y c _ HJ1.out hY9
          have hzn : 0 < nw := by have := HN2.out; omega
          by_cases hca : ca = 1
          · have HWN : Hid (w = []) := hid (List.eq_nil_of_length_eq_zero (by have := HN2.out; have := HF.out.own.shape; obtain ⟨A5, c5, e5, h5, _⟩ := this; simp only [Value.slice.injEq] at e5; have := HNW.out; omega))
            have HF1 : Hid (FoI (wr.alloc (.cells #[.bool c.tag, .int .i64 c.base, .int .i64 c.top, .int .i64 c.at_, .int .i64 c.perms, .int .i64 c.type] 24)) n0 lb n0 vs S (.slice (some ⟨bw, ow, none⟩) (nw - 1) 0) w) := hid (by
              rw [show nw - 1 = 0 by rw [HN2.out, HWN.out]; rfl]
              have h9 := HF.out.shut rfl
              rw [HWN.out]
              exact h9.ext (Ext.alloc (Ext.refl wr) (.cells #[.bool c.tag, .int .i64 c.base, .int .i64 c.top, .int .i64 c.at_, .int .i64 c.perms, .int .i64 c.type] 24)))
            gi_wp2
            refine ⟨(fun _ => by omega), ?_⟩
            refine hR.mono ?_
            clear hR hy
            rintro e W4 ⟨rfl, hJ4, hk4⟩
            have hSB : ¬ SB lb (wr.alloc (.cells #[.bool c.tag, .int .i64 c.base, .int .i64 c.top, .int .i64 c.at_, .int .i64 c.perms, .int .i64 c.type] 24)) wr.heap.size := by
              rintro (e | ⟨o, nn, cc, e⟩ | e)
              · have := HF.out.lbs; omega
              · have := (HF.out.lbx _ ⟨o, nn, cc, ((Ext.alloc (Ext.refl wr) (.cells #[.bool c.tag, .int .i64 c.base, .int .i64 c.top, .int .i64 c.at_, .int .i64 c.perms, .int .i64 c.type] 24)).cells lb 0 HF.out.lbs).symm.trans e⟩).1; omega
              · exact cell_isCells (Row.six (c := (Cap.mk c.tag c.base c.top c.at_ c.perms c.type)) HR1.out).2.1 e
            obtain ⟨g0, g1, g2, g3, g4, g5, g6⟩ := Row.six (c := (Cap.mk c.tag c.base c.top c.at_ c.perms c.type)) (HR1.out.only hk4.1 hSB)
            simp only [Nat.zero_add] at g1 g2 g3 g4 g5 g6
            have HF4 := hid (HF1.out.kp hk4)
            have HJ4 := hid hJ4
            clear hJ4 hk4 hSB HF1 HR1 HJ1 q0 q1 q2 q3 q4 q5 hz hz0 hz1 hzn
            obtain ⟨L, hL⟩ : ∃ L, kindsOf 64 (Cap.mk c.tag c.base c.top c.at_ c.perms c.type) = L := ⟨_, rfl⟩
            have HOV : Hid (∀ W, Calls Try.prog 36 #[.agg #[.bool c.tag, .int .i64 c.base, .int .i64 c.top, .int .i64 c.at_, .int .i64 c.perms, .int .i64 c.type], .int .i64 64] W fun e w' => ∃ A ca, e = .returned (.slice A L.length ca) ∧ Hid (ownsAt w' (W.heap.size + 1) 3 1 (.slice A L.length ca) L.length (rowF intF L)) ∧ Hid (Ext W w')) := hid (fun W => by rw [← hL]; exact cover_ c.tag c.base c.top c.at_ c.perms c.type 64 W)
            have HLN := hid (show L.Nodup by rw [← hL]; exact kinds_nodup 64 c)
            have HLM := hid (show ∀ x ∈ L, 2 ≤ x ∧ x < 256 from fun x hx => by rw [← hL] at hx; have := kindsOf_mem.1 hx; exact ⟨this.2.1, this.1⟩)
            have HLK := hid (show kindsOf 64 c = L from hL)
            have hll : L.length ≤ 256 := by rw [← hL]; exact kindsTo_len 64 c 256
            clear hL
            gi_wp2
            refine ⟨trivial, (fun _ => by omega), ?_⟩
            refine CallsIn.mono (callsIn_wide.2 (HOV.out _)) ?_
            rintro e W5 ⟨AL, caL, rfl, HOL, HX5⟩
            (try simp only [])
            have HF5 := hid (HF4.out.ext HX5.out)
            have HJ5 := hid (HTn.out _ W4 W5 HJ4.out (TnF.ext HX5.out))
            have HRL := hid (ownsAt.rdF HOL.out rfl)
            have HLL : Hid (∀ b o, AL = some ⟨b, o, none⟩ → ¬ b = n0 ∧ W4.heap.size < b ∧ b < W5.heap.size) := hid (fun b o e => by
              have h9 := HOL.out.lt b (by rw [e]; rfl)
              have h8 := HF4.out.sea.lt
              omega)
            gi_wp2
            refine wpIn_wide.2 ?_
            go_loopw [7, 53] (fun v i wx => ∃ j vs2, j ≤ L.length ∧ i = .int .i64 (j : Nat) ∧ Hid (FoI wx n0 lb n0 vs2 (cutS S (L.take j)) v (w ++ (L.take j).flatMap S)) ∧ Hid (totC (w ++ (L.take j).flatMap S) (cutS S (L.take j)) = totC w S) ∧ Hid (J (Y ++ [c]) wx) ∧ Hid (RdF intF wx AL L) ∧ Hid (∀ b o, AL = some ⟨b, o, none⟩ → ¬ v.ownBlock = some b) ∧ Hid (W5.heap.size ≤ wx.heap.size)) (fun _ i _ => L.length - (intOf i).toNat)
            case atStart => exact ⟨0, vs, Nat.zero_le _, rfl, hid (by rw [List.take_zero, cut_nil, List.flatMap_nil, List.append_nil]; exact HF5.out), hid (by rw [List.take_zero, cut_nil, List.flatMap_nil, List.append_nil]), HJ5, HRL, hid (fun b o e e2 => by have h9 := (HF4.out.own.lt b e2).2; have := (HLL.out b o e).2.1; omega), hid (Nat.le_refl _)⟩
            case round =>
              clear HF5 HJ5 HRL HF4 HJ4 HJ HOV
              obtain ⟨j, vs2, hj, rfl, HFj, HTj, HJj, HRj, HNj, HSj⟩ := hrel
              obtain ⟨Av, cv, rfl, _, _⟩ := HFj.out.own.shape
              have hj0 : (0 : Int) ≤ (j : Int) := by omega
              by_cases hlt : j < L.length
              · have hj1 : (j : Int) < (L.length : Int) := by omega
                obtain ⟨kk, hkk⟩ : ∃ x, L[j] = x := ⟨_, rfl⟩
                obtain ⟨hk2, hk6⟩ := HLM.out kk (by rw [← hkk]; exact List.getElem_mem hlt)
                have hni : ¬ kk ∈ L.take j := fun h => by
                  obtain ⟨i, hi, e⟩ := List.mem_take_iff_getElem.1 h
                  have := (List.pairwise_iff_getElem.1 HLN.out) i j (by omega) hlt (by omega)
                  omega
                have hTk : L.take (j + 1) = L.take j ++ [kk] := by rw [← hkk]; exact List.take_succ_eq_append_getElem hlt
                have HST := hid (show cutS S (L.take (j + 1)) = upF (cutS S (L.take j)) kk [] by rw [hTk]; exact cut_snoc)
                have HSA := hid (show cutS S (L.take j) kk = S kk from cut_at hni)
                have HWT := hid (show w ++ (L.take (j + 1)).flatMap S = (w ++ (L.take j).flatMap S) ++ S kk by rw [hTk, List.flatMap_append, List.append_assoc]; simp)
                have HTT := hid (show totC ((w ++ (L.take j).flatMap S) ++ S kk) (upF (cutS S (L.take j)) kk []) = totC w S by rw [← HTj.out, ← HSA.out]; exact tot_move hk2 hk6)
                have HLB := hid (show (w ++ (L.take j).flatMap S).length + (S kk).length ≤ 1000 by
                  have h8 := tot_one (w := w ++ (L.take j).flatMap S) (S := cutS S (L.take j)) hk2 hk6
                  rw [HSA.out, HTj.out] at h8
                  have h9 := tot_step c w S
                  have h7 := HT.out.2
                  have h6 := tot_le c w S
                  omega)
                have hrow := HFj.out.sea.row kk hk6
                rw [HSA.out] at hrow
                obtain ⟨Ak, ck, hvk, _, _⟩ := hrow.shape
                rw [hvk] at hrow
                have HRk := hid (ownsAt.rdF hrow rfl)
                have hcs := HFj.out.sea.cs kk hk6
                rw [hvk] at hcs
                have hfz := HFj.out.sea.fz kk hk6
                have hn0l := HFj.out.sea.lt
                have hkk0 : (0 : Int) ≤ (kk : Int) := by omega
                have hkk1 : (kk : Int) < 256 := by omega
                obtain ⟨bl, ol, rfl, hbl, hrg⟩ := HRj.out.elem intF_len hlt kk hkk
                have hcl := hrg 0 (.int .i64 kk) rfl
                simp only [Nat.mul_one, Nat.add_zero] at hcl
                clear hrg hrow hTk hni hkk
                obtain ⟨lv, hlv⟩ : ∃ x, (w ++ (L.take j).flatMap S).length = x := ⟨_, rfl⟩
                rw [hlv] at HLB ⊢
                have HLV := hid hlv
                clear hlv
                have HB0 := hid (show n0 ≤ wr.heap.size by have := HFj.out.sea.lt; omega)
                have HNAB := hid (HFj.out.wab)
                have HC7 := hid (show ∀ w7, wr.grownBy w7 (Value.slice Av lv cv).ownBlock → w7.cell? ⟨n0, kk, none⟩ = some (.slice Ak (S kk).length ck) from fun w7 hg => ((grownOnly (S := fun i => (Value.slice Av lv cv).ownBlock = some i) hg fun g e => e).cells n0 kk hn0l (fun e => HNAB.out n0 (by rw [own_len Av _ cv lv cv]; exact e) rfl)).trans hcs)
                have HF7 := hid (show ∀ w7, wr.grownBy w7 (Value.slice Av lv cv).ownBlock → w7.frozen? ⟨n0, kk, none⟩ = false from fun w7 hg => ((grownOnly (S := fun i => (Value.slice Av lv cv).ownBlock = some i) hg fun g e => e).frozens n0 kk hn0l (fun e => HNAB.out n0 (by rw [own_len Av _ cv lv cv]; exact e) rfl)).trans hfz)
                have HB7 := hid (show ∀ w7, wr.grownBy w7 (Value.slice Av lv cv).ownBlock → n0 < w7.heap.size from fun w7 hg => Nat.lt_of_lt_of_le hn0l (grownOnly (S := fun i => (Value.slice Av lv cv).ownBlock = some i) hg fun g e => e).size)
                go_wp2_with (at_builtin; refine wpList_plain rfl fun K hK => ?_; refine wp_app_row cap_len (by decide) cap_one Try.underlying22 info_capN _ _ rfl n0 (.slice Av lv cv) lv (rowF Cap.cells (w ++ (L.take j).flatMap S)) rfl (by rw [← HLV.out]; exact HFj.out.own) Ak (S kk).length ck (S kk) rfl rfl HRk.out (by have := HLB.out; unfold maxLen; omega) (by have := HLB.out; omega) HB0.out ?_; intro v7 W7 hown hgrow hat; obtain ⟨A7, c7, rfl, _, _⟩ := hown.shape; have hc7 := HC7.out _ hgrow; have hf7 := HF7.out _ hgrow; have hb7 := HB7.out _ hgrow; refine hK _ _ ?_; clear hK K)
                have hown2 : ownsAt W7 n0 24 6 (.slice A7 (lv + (S kk).length) c7) ((w ++ (L.take j).flatMap S) ++ cutS S (L.take j) kk).length (rowF Cap.cells ((w ++ (L.take j).flatMap S) ++ cutS S (L.take j) kk)) := by
                  rw [HSA.out, rowF_append, List.length_append, HLV.out]
                  exact hown
                have hFl := HFj.out
                rw [HLV.out] at hFl
                have hG7 : Only (fun i => (Value.slice Av lv cv).ownBlock = some i) wr W7 := grownOnly hgrow fun g e => e
                have hat2 : ∀ g, (Value.slice A7 (lv + (S kk).length) c7).ownBlock = some g → (Value.slice Av lv cv).ownBlock = some g ∨ wr.heap.size ≤ g := fun g e => by
                  rcases hat with h' | ⟨g', h', h3⟩
                  · exact .inl (h' ▸ e)
                  · rw [h'] at e
                    cases e
                    exact .inr h3
                obtain ⟨hF8, hT8⟩ := hFl.app hk6 hG7 hown2 hat2
                rw [← HST.out, HSA.out, ← HWT.out] at hF8
                have HF8 := hid hF8
                have HJ8 := hid (HTn.out _ wr _ HJj.out hT8)
                have HO8 : Hid (Only (fun i => i = n0 ∨ (Value.slice Av lv cv).ownBlock = some i) wr (W7.setCell ⟨n0, kk, none⟩ (.slice none 0 0))) := hid (Only.setCell (Only.trans (Only.refl _ wr) hG7 fun i hi => .inl (.inr hi)) (.inl (.inl rfl)) _)
                have HAT := hid hat2
                clear hF8 hT8 hG7 hFl hown2 hown hgrow hat hat2 hc7 hf7 hb7
                go_roundw
                case rel => exact ⟨j + 1, _, by omega, by go_num, HF8, hid (by rw [HWT.out, HST.out]; exact HTT.out), HJ8, hid (HRj.out.only HO8.out fun b o e h => by
                  rcases h with h | h
                  · exact (HLL.out b o e).1 h
                  · exact HNj.out b o e (by rw [own_len Av _ cv lv cv]; exact h)), hid (fun b o e e2 => by
                  rcases HAT.out b e2 with h | h
                  · exact HNj.out b o e (by rw [own_len Av _ cv lv cv]; exact h)
                  · have := (HLL.out b o e).2.2; have := HSj.out; omega), hid (Nat.le_trans HSj.out HO8.out.size)⟩
                case measure => simp [intOf]; omega
              · obtain rfl : j = L.length := by omega
                have hj1 : ¬ (L.length : Int) < (L.length : Int) := by omega
                rw [List.take_length] at HFj HTj ⊢
                have HB8 := hid (show FB G (Y ++ [c]) n1 (w ++ L.flatMap S) (cutS S L) by rw [← HLK.out]; exact HB.out.step)
                go_wp2
                go_roundw
                case rel => exact ⟨n1, vs2, cutS S L, w ++ L.flatMap S, Y ++ [c], HFj, hid (by
                  have h1 := HTj.out
                  have h2 := tot_le c w S
                  have h3 := HT.out
                  rw [List.length_append, List.length_singleton]
                  omega), HB8, HJj⟩
                case measure =>
                  have h1 := HFj.out.meas
                  have h2 := HF.out.meas
                  have h3 := HTj.out
                  have h4 := tot_le c w S
                  have h5 := HN2.out
                  simp only [lenV, List.length_cons] at h1 h2 ⊢
                  omega

          · have HF1 : Hid (FoI (wr.alloc (.cells #[.bool c.tag, .int .i64 c.base, .int .i64 c.top, .int .i64 c.at_, .int .i64 c.perms, .int .i64 c.type] 24)) n0 lb n0 vs S (.slice (some ⟨bw, ow + 6, none⟩) (nw - 1) (ca - 1)) w) := hid (by
              rw [HN2.out, Nat.add_sub_cancel]
              exact (HF.out.tail (x := c)).ext (Ext.alloc (Ext.refl wr) (.cells #[.bool c.tag, .int .i64 c.base, .int .i64 c.top, .int .i64 c.at_, .int .i64 c.perms, .int .i64 c.type] 24)))
            gi_wp2
            refine ⟨(fun _ => by omega), ?_⟩
            refine hR.mono ?_
            clear hR hy
            rintro e W4 ⟨rfl, hJ4, hk4⟩
            have hSB : ¬ SB lb (wr.alloc (.cells #[.bool c.tag, .int .i64 c.base, .int .i64 c.top, .int .i64 c.at_, .int .i64 c.perms, .int .i64 c.type] 24)) wr.heap.size := by
              rintro (e | ⟨o, nn, cc, e⟩ | e)
              · have := HF.out.lbs; omega
              · have := (HF.out.lbx _ ⟨o, nn, cc, ((Ext.alloc (Ext.refl wr) (.cells #[.bool c.tag, .int .i64 c.base, .int .i64 c.top, .int .i64 c.at_, .int .i64 c.perms, .int .i64 c.type] 24)).cells lb 0 HF.out.lbs).symm.trans e⟩).1; omega
              · exact cell_isCells (Row.six (c := (Cap.mk c.tag c.base c.top c.at_ c.perms c.type)) HR1.out).2.1 e
            obtain ⟨g0, g1, g2, g3, g4, g5, g6⟩ := Row.six (c := (Cap.mk c.tag c.base c.top c.at_ c.perms c.type)) (HR1.out.only hk4.1 hSB)
            simp only [Nat.zero_add] at g1 g2 g3 g4 g5 g6
            have HF4 := hid (HF1.out.kp hk4)
            have HJ4 := hid hJ4
            clear hJ4 hk4 hSB HF1 HR1 HJ1 q0 q1 q2 q3 q4 q5 hz hz0 hz1 hzn
            obtain ⟨L, hL⟩ : ∃ L, kindsOf 64 (Cap.mk c.tag c.base c.top c.at_ c.perms c.type) = L := ⟨_, rfl⟩
            have HOV : Hid (∀ W, Calls Try.prog 36 #[.agg #[.bool c.tag, .int .i64 c.base, .int .i64 c.top, .int .i64 c.at_, .int .i64 c.perms, .int .i64 c.type], .int .i64 64] W fun e w' => ∃ A ca, e = .returned (.slice A L.length ca) ∧ Hid (ownsAt w' (W.heap.size + 1) 3 1 (.slice A L.length ca) L.length (rowF intF L)) ∧ Hid (Ext W w')) := hid (fun W => by rw [← hL]; exact cover_ c.tag c.base c.top c.at_ c.perms c.type 64 W)
            have HLN := hid (show L.Nodup by rw [← hL]; exact kinds_nodup 64 c)
            have HLM := hid (show ∀ x ∈ L, 2 ≤ x ∧ x < 256 from fun x hx => by rw [← hL] at hx; have := kindsOf_mem.1 hx; exact ⟨this.2.1, this.1⟩)
            have HLK := hid (show kindsOf 64 c = L from hL)
            have hll : L.length ≤ 256 := by rw [← hL]; exact kindsTo_len 64 c 256
            clear hL
            gi_wp2
            refine ⟨trivial, (fun _ => by omega), ?_⟩
            refine CallsIn.mono (callsIn_wide.2 (HOV.out _)) ?_
            rintro e W5 ⟨AL, caL, rfl, HOL, HX5⟩
            (try simp only [])
            have HF5 := hid (HF4.out.ext HX5.out)
            have HJ5 := hid (HTn.out _ W4 W5 HJ4.out (TnF.ext HX5.out))
            have HRL := hid (ownsAt.rdF HOL.out rfl)
            have HLL : Hid (∀ b o, AL = some ⟨b, o, none⟩ → ¬ b = n0 ∧ W4.heap.size < b ∧ b < W5.heap.size) := hid (fun b o e => by
              have h9 := HOL.out.lt b (by rw [e]; rfl)
              have h8 := HF4.out.sea.lt
              omega)
            gi_wp2
            refine wpIn_wide.2 ?_
            go_loopw [7, 53] (fun v i wx => ∃ j vs2, j ≤ L.length ∧ i = .int .i64 (j : Nat) ∧ Hid (FoI wx n0 lb n0 vs2 (cutS S (L.take j)) v (w ++ (L.take j).flatMap S)) ∧ Hid (totC (w ++ (L.take j).flatMap S) (cutS S (L.take j)) = totC w S) ∧ Hid (J (Y ++ [c]) wx) ∧ Hid (RdF intF wx AL L) ∧ Hid (∀ b o, AL = some ⟨b, o, none⟩ → ¬ v.ownBlock = some b) ∧ Hid (W5.heap.size ≤ wx.heap.size)) (fun _ i _ => L.length - (intOf i).toNat)
            case atStart => exact ⟨0, vs, Nat.zero_le _, rfl, hid (by rw [List.take_zero, cut_nil, List.flatMap_nil, List.append_nil]; exact HF5.out), hid (by rw [List.take_zero, cut_nil, List.flatMap_nil, List.append_nil]), HJ5, HRL, hid (fun b o e e2 => by have h9 := (HF4.out.own.lt b e2).2; have := (HLL.out b o e).2.1; omega), hid (Nat.le_refl _)⟩
            case round =>
              clear HF5 HJ5 HRL HF4 HJ4 HJ HOV
              obtain ⟨j, vs2, hj, rfl, HFj, HTj, HJj, HRj, HNj, HSj⟩ := hrel
              obtain ⟨Av, cv, rfl, _, _⟩ := HFj.out.own.shape
              have hj0 : (0 : Int) ≤ (j : Int) := by omega
              by_cases hlt : j < L.length
              · have hj1 : (j : Int) < (L.length : Int) := by omega
                obtain ⟨kk, hkk⟩ : ∃ x, L[j] = x := ⟨_, rfl⟩
                obtain ⟨hk2, hk6⟩ := HLM.out kk (by rw [← hkk]; exact List.getElem_mem hlt)
                have hni : ¬ kk ∈ L.take j := fun h => by
                  obtain ⟨i, hi, e⟩ := List.mem_take_iff_getElem.1 h
                  have := (List.pairwise_iff_getElem.1 HLN.out) i j (by omega) hlt (by omega)
                  omega
                have hTk : L.take (j + 1) = L.take j ++ [kk] := by rw [← hkk]; exact List.take_succ_eq_append_getElem hlt
                have HST := hid (show cutS S (L.take (j + 1)) = upF (cutS S (L.take j)) kk [] by rw [hTk]; exact cut_snoc)
                have HSA := hid (show cutS S (L.take j) kk = S kk from cut_at hni)
                have HWT := hid (show w ++ (L.take (j + 1)).flatMap S = (w ++ (L.take j).flatMap S) ++ S kk by rw [hTk, List.flatMap_append, List.append_assoc]; simp)
                have HTT := hid (show totC ((w ++ (L.take j).flatMap S) ++ S kk) (upF (cutS S (L.take j)) kk []) = totC w S by rw [← HTj.out, ← HSA.out]; exact tot_move hk2 hk6)
                have HLB := hid (show (w ++ (L.take j).flatMap S).length + (S kk).length ≤ 1000 by
                  have h8 := tot_one (w := w ++ (L.take j).flatMap S) (S := cutS S (L.take j)) hk2 hk6
                  rw [HSA.out, HTj.out] at h8
                  have h9 := tot_step c w S
                  have h7 := HT.out.2
                  have h6 := tot_le c w S
                  omega)
                have hrow := HFj.out.sea.row kk hk6
                rw [HSA.out] at hrow
                obtain ⟨Ak, ck, hvk, _, _⟩ := hrow.shape
                rw [hvk] at hrow
                have HRk := hid (ownsAt.rdF hrow rfl)
                have hcs := HFj.out.sea.cs kk hk6
                rw [hvk] at hcs
                have hfz := HFj.out.sea.fz kk hk6
                have hn0l := HFj.out.sea.lt
                have hkk0 : (0 : Int) ≤ (kk : Int) := by omega
                have hkk1 : (kk : Int) < 256 := by omega
                obtain ⟨bl, ol, rfl, hbl, hrg⟩ := HRj.out.elem intF_len hlt kk hkk
                have hcl := hrg 0 (.int .i64 kk) rfl
                simp only [Nat.mul_one, Nat.add_zero] at hcl
                clear hrg hrow hTk hni hkk
                obtain ⟨lv, hlv⟩ : ∃ x, (w ++ (L.take j).flatMap S).length = x := ⟨_, rfl⟩
                rw [hlv] at HLB ⊢
                have HLV := hid hlv
                clear hlv
                have HB0 := hid (show n0 ≤ wr.heap.size by have := HFj.out.sea.lt; omega)
                have HNAB := hid (HFj.out.wab)
                have HC7 := hid (show ∀ w7, wr.grownBy w7 (Value.slice Av lv cv).ownBlock → w7.cell? ⟨n0, kk, none⟩ = some (.slice Ak (S kk).length ck) from fun w7 hg => ((grownOnly (S := fun i => (Value.slice Av lv cv).ownBlock = some i) hg fun g e => e).cells n0 kk hn0l (fun e => HNAB.out n0 (by rw [own_len Av _ cv lv cv]; exact e) rfl)).trans hcs)
                have HF7 := hid (show ∀ w7, wr.grownBy w7 (Value.slice Av lv cv).ownBlock → w7.frozen? ⟨n0, kk, none⟩ = false from fun w7 hg => ((grownOnly (S := fun i => (Value.slice Av lv cv).ownBlock = some i) hg fun g e => e).frozens n0 kk hn0l (fun e => HNAB.out n0 (by rw [own_len Av _ cv lv cv]; exact e) rfl)).trans hfz)
                have HB7 := hid (show ∀ w7, wr.grownBy w7 (Value.slice Av lv cv).ownBlock → n0 < w7.heap.size from fun w7 hg => Nat.lt_of_lt_of_le hn0l (grownOnly (S := fun i => (Value.slice Av lv cv).ownBlock = some i) hg fun g e => e).size)
                go_wp2_with (at_builtin; refine wpList_plain rfl fun K hK => ?_; refine wp_app_row cap_len (by decide) cap_one Try.underlying22 info_capN _ _ rfl n0 (.slice Av lv cv) lv (rowF Cap.cells (w ++ (L.take j).flatMap S)) rfl (by rw [← HLV.out]; exact HFj.out.own) Ak (S kk).length ck (S kk) rfl rfl HRk.out (by have := HLB.out; unfold maxLen; omega) (by have := HLB.out; omega) HB0.out ?_; intro v7 W7 hown hgrow hat; obtain ⟨A7, c7, rfl, _, _⟩ := hown.shape; have hc7 := HC7.out _ hgrow; have hf7 := HF7.out _ hgrow; have hb7 := HB7.out _ hgrow; refine hK _ _ ?_; clear hK K)
                have hown2 : ownsAt W7 n0 24 6 (.slice A7 (lv + (S kk).length) c7) ((w ++ (L.take j).flatMap S) ++ cutS S (L.take j) kk).length (rowF Cap.cells ((w ++ (L.take j).flatMap S) ++ cutS S (L.take j) kk)) := by
                  rw [HSA.out, rowF_append, List.length_append, HLV.out]
                  exact hown
                have hFl := HFj.out
                rw [HLV.out] at hFl
                have hG7 : Only (fun i => (Value.slice Av lv cv).ownBlock = some i) wr W7 := grownOnly hgrow fun g e => e
                have hat2 : ∀ g, (Value.slice A7 (lv + (S kk).length) c7).ownBlock = some g → (Value.slice Av lv cv).ownBlock = some g ∨ wr.heap.size ≤ g := fun g e => by
                  rcases hat with h' | ⟨g', h', h3⟩
                  · exact .inl (h' ▸ e)
                  · rw [h'] at e
                    cases e
                    exact .inr h3
                obtain ⟨hF8, hT8⟩ := hFl.app hk6 hG7 hown2 hat2
                rw [← HST.out, HSA.out, ← HWT.out] at hF8
                have HF8 := hid hF8
                have HJ8 := hid (HTn.out _ wr _ HJj.out hT8)
                have HO8 : Hid (Only (fun i => i = n0 ∨ (Value.slice Av lv cv).ownBlock = some i) wr (W7.setCell ⟨n0, kk, none⟩ (.slice none 0 0))) := hid (Only.setCell (Only.trans (Only.refl _ wr) hG7 fun i hi => .inl (.inr hi)) (.inl (.inl rfl)) _)
                have HAT := hid hat2
                clear hF8 hT8 hG7 hFl hown2 hown hgrow hat hat2 hc7 hf7 hb7
                go_roundw
                case rel => exact ⟨j + 1, _, by omega, by go_num, HF8, hid (by rw [HWT.out, HST.out]; exact HTT.out), HJ8, hid (HRj.out.only HO8.out fun b o e h => by
                  rcases h with h | h
                  · exact (HLL.out b o e).1 h
                  · exact HNj.out b o e (by rw [own_len Av _ cv lv cv]; exact h)), hid (fun b o e e2 => by
                  rcases HAT.out b e2 with h | h
                  · exact HNj.out b o e (by rw [own_len Av _ cv lv cv]; exact h)
                  · have := (HLL.out b o e).2.2; have := HSj.out; omega), hid (Nat.le_trans HSj.out HO8.out.size)⟩
                case measure => simp [intOf]; omega
              · obtain rfl : j = L.length := by omega
                have hj1 : ¬ (L.length : Int) < (L.length : Int) := by omega
                rw [List.take_length] at HFj HTj ⊢
                have HB8 := hid (show FB G (Y ++ [c]) n1 (w ++ L.flatMap S) (cutS S L) by rw [← HLK.out]; exact HB.out.step)
                go_wp2
                go_roundw
                case rel => exact ⟨n1, vs2, cutS S L, w ++ L.flatMap S, Y ++ [c], HFj, hid (by
                  have h1 := HTj.out
                  have h2 := tot_le c w S
                  have h3 := HT.out
                  rw [List.length_append, List.length_singleton]
                  omega), HB8, HJj⟩
                case measure =>
                  have h1 := HFj.out.meas
                  have h2 := HF.out.meas
                  have h3 := HTj.out
                  have h4 := tot_le c w S
                  have h5 := HN2.out
                  simp only [lenV, List.length_cons] at h1 h2 ⊢
                  omega


end Go.Proofs.Ytlapemeoffpmgaa
