/- The walk of SweepHeld. -/
import Derived.Test.YthamfkbopjagdaaSweI
import Derived.Test.YthamfkbopjagdaaSweJ
namespace Go.Proofs.Ythamfkbopjagdaa
set_option linter.unusedSimpArgs false
set_option linter.unusedVariables false
open Go.RowKit

open Go.Deep Go.RowKit
/-- Reads alone, ahead of what is left. -/
inductive RdPre : Ord Oper → List Oper → Ord Oper → Prop
  | nil {r : Ord Oper} : RdPre r [] r
  | cons {o : Oper} {r r' : Ord Oper} {l : List Oper} (h : RdPre r l r') : RdPre (.rd o r) (o :: l) r'
theorem turn_quiet {q : Nat} {P : Program} {ops : Array Oper} {Q : Exit → Act → World → Prop} {W w : World} {r r' : Ord Oper} {l : List Oper} (hr : RdPre r l r') : ∀ {a : Act}, wpQuiet P ops (Turned q W) (fun a' => wpTurn q P ops Q r' W a' w) l a → wpTurn q P ops Q r W a w := by
  induction hr with
  | nil => exact fun h => h
  | @cons o r r' l hr ih =>
    intro a h
    unfold wpQuiet at h
    unfold wpTurn
    split
    · rename_i hc
      rw [if_pos hc] at h
      obtain ⟨v, h1, h2⟩ := h
      exact ⟨v, h1, ih h2⟩
    · rename_i hc
      rw [if_neg hc] at h
      exact ih h
theorem capBar_twice (mm : Nat) (P : Nat → Bool) (z : Cap) : capBar mm P (capBar mm P z) = capBar mm P z := by
  unfold capBar hitsP
  cases z.tag <;> cases (decide (z.base < z.top) && isP mm P z.base) <;> simp_all
namespace sweepHeld
set_option linter.unusedSimpArgs false
set_option linter.unusedVariables false
set_option maxRecDepth 100000 in
set_option maxHeartbeats 8000000 in
theorem walk (A0 : Option Addr) (cap0 : Nat) (zs0 : List Cap) (A1 : Option Addr) (cap1 : Nat) (ps1 : List SOp) (w : World) (wl0 : zs0.length ≤ maxLen) (hs0 : SlAtN w A0 6 (zs0.map capL)) (wz0 : ∀ z ∈ zs0, wfC z) (wl1 : ps1.length ≤ maxLen) (hs1 : SlAtN w A1 3 (ps1.map SOp.cells)) (wz1 : ∀ z ∈ ps1, wfS z) :
    Calls Try.prog 6 #[.slice A0 zs0.length cap0, .slice A1 ps1.length cap1] w fun e w' => e = .returned (.bool true) ∧ Ext w w' := by
  have HSL := hid hs0
  have HPL := hid hs1
  have HWB : Hid (∀ z ∈ zs0, z.base ≤ 9223372036854775807) := hid (fun z hz => (wf_i64 (wz0 z hz).1).2)
  obtain ⟨m, hm⟩ : ∃ m, zs0.length = m := ⟨_, rfl⟩
  have HM0 := hid hm
  rw [hm]
  clear hs0 hs1 wz0 wz1 hm wl0
  go_enter Try.func6, Try.ntmps6
  go_upto_region 2 with (go_at_call 8; refine Calls.mono (head_ _) ?_; rintro e wh ⟨rfl, hxh⟩)
  go_upto_region 3 with (go_at_call 9; refine (hNew 1 1 (by decide) _ (by decide) (by decide)).mono ?_; rintro e w1 ⟨q, rfl, g, HM1⟩)
  go_upto_region 4 with (go_at_call 10; refine (new_ 64 _ (by decide) (by decide)).mono ?_; rintro e w2 ⟨p, pq, rfl, hs2, hx2, hp2, hpq2⟩)
  have HMP : Hid (MP w w2 q g p pq 1 64 ((fun _ => 0), (fun _ => false), (fun _ => false)) (fun _ => false)) := hid (by
    have e1 := HM1.out
    have e2 := e1.1.ltq
    have e3 := e1.1.ltg
    have e4 := hxh.size
    have e5 := e1.2.1.size
    exact ⟨⟨e1.1.ext hx2, hxh.trans (e1.2.1.trans hx2), Nat.le_trans e4 e1.2.2.1, Nat.le_trans e4 e1.2.2.2⟩, hs2, ⟨by omega, by omega, by omega, by omega⟩, ⟨by omega, by omega⟩⟩)
  clear HM1 hs2 hx2 hp2 hpq2 hxh
  by_cases hm200 : m ≤ 200
  · by_cases hp200 : ps1.length ≤ 200
    · have hm2 : ¬ (200 : Int) < (m : Int) := by omega
      have hp2 : ¬ (200 : Int) < (ps1.length : Int) := by omega
      go_upto_region 7 with (go_at_call 40; refine (filled_ w _ q g p pq 1 64 ((fun _ => 0), (fun _ => false), (fun _ => false)) (fun _ => false) HMP.out none 0 [] (fun h => absurd h (by simp)) (fun z hz => by cases hz) (by simp) A1 cap1 ps1 HPL.out wl1).mono ?_; rintro e w3 ⟨rfl, HMF⟩)
      generalize fillP 64 (fun _ => false) ps1 = P at HMF
      go_upto_region 8 with (go_at_call 14; refine (swnew_ q p _).mono ?_; rintro e w4 ⟨s, rfl, HS4, HX4, HL4⟩)
      have HSB : Hid (SWB w w4 q g s p pq 1 64 (fun _ => 0) (fun _ => false) (fun _ => false) P false none 0 [] 0) := hid (by
        have e1 := HMF.out.1
        have e2 := HL4.out
        have e3 := e1.h1.1.ltq
        have e4 := e1.h1.1.ltg
        have e5 := e1.h2.ltp
        have e6 := e1.h2.ltq
        have e7 := e1.h1.2.1.size
        exact ⟨e1.h1.ext HX4.out, e1.h2.ext HX4.out, HS4.out, ⟨by omega, by omega, by omega, by omega, e1.ap.1, e1.ap.2.1, e1.ap.2.2.1, e1.ap.2.2.2⟩, ⟨by omega, e1.lo.1, e1.lo.2⟩, fun b o e => (by cases e), fun x hx => (by cases hx)⟩)
      clear HMP HMF HS4 HX4 HL4 hp200 hp2
      have hm200' : m ≤ 100000 := by omega
      have HM1 : Hid ((zs0.map (capBar 64 P)).length = m) := hid (by rw [List.length_map]; exact HM0.out)
      have HM2 : Hid (((zs0.map (capBar 64 P)).map (capBar 64 P)).length = m) := hid (by rw [List.length_map, List.length_map]; exact HM0.out)
      have HWB2 : Hid (∀ z ∈ zs0.map (capBar 64 P), z.base ≤ 9223372036854775807) := hid (fun z hz => by
        obtain ⟨x, hx, rfl⟩ := List.mem_map.1 hz
        exact HWB.out x hx)
      go_upto_region 11 with (go_at_call 45; refine (all_ w _ q g s p pq 1 64 (fun _ => 0) (fun _ => false) (fun _ => false) P false none 0 [] 0 HSB.out A0 cap0 m zs0 HM0.out (HSL.out.ext HSB.out.h1.2.1) hm200' HWB.out).mono ?_; rintro e w5 ⟨A5, c5, rfl, HC5, HX5⟩)
      first | rw [HM1.out] | rw [HM0.out] | skip
      go_upto_region 12 with (go_at_call 45; refine (all_ w _ q g s p pq 1 64 (fun _ => 0) (fun _ => false) (fun _ => false) P false none 0 [] 0 (HSB.out.ext HX5.out) A5 c5 m (zs0.map (capBar 64 P)) HM1.out HC5.out hm200' HWB2.out).mono ?_; rintro e w6 ⟨A6, c6, rfl, HC6, HX6⟩)
      first | rw [HM2.out] | rw [HM0.out] | skip
      have HS0 := hid ((HSL.out.ext HSB.out.h1.2.1).ext (HX5.out.trans HX6.out))
      have HC5' := hid (HC5.out.ext HX6.out)
      have HS6 := hid (HSB.out.ext (HX5.out.trans HX6.out))
      clear HSB HX5 HX6 HC5 HPL HWB2
      have HC5 := HC5'
      clear HC5'
      go_wp2
      go_loopw [11] (fun i wr => ∃ k : Nat, k ≤ m ∧ i = .int .i64 k ∧ Hid (SWB w wr q g s p pq 1 64 (fun _ => 0) (fun _ => false) (fun _ => false) P false none 0 [] 0) ∧ Hid (Only (fun i => w6.heap.size ≤ i) w6 wr)) (fun i _ => m - (intOf i).toNat)
      case atStart => exact ⟨0, Nat.zero_le _, rfl, HS6, hid (Only.refl _ _)⟩
      case round =>
        clear HS6
        obtain ⟨k, hk, rfl, HSr, HOW⟩ := hrel
        have hk0 : (0 : Int) ≤ (k : Int) := by omega
        by_cases hlt : k < m
        · have hk1 : (k : Int) < (m : Int) := by omega
          have hkl : k < zs0.length := by rw [HM0.out]; exact hlt
          obtain ⟨z, hz⟩ : ∃ z, zs0[k] = z := ⟨_, rfl⟩
          have hzb : z.base ≤ 9223372036854775807 := by rw [← hz]; exact HWB.out _ (List.getElem_mem hkl)
          obtain ⟨y, hy⟩ : ∃ y, capBar 64 P z = y := ⟨_, rfl⟩
          have HYE := hid hy
          have hyy : capBar 64 P y = y := by rw [← hy]; exact capBar_twice 64 P z
          obtain ⟨b0, o0, rfl, hb0, hop⟩ := Cap.facts HS0.out hkl z hz
          obtain ⟨bx, ox, rfl, hbx, hox⟩ := Cap.facts HC5.out (k := k) (by rw [List.length_map]; exact hkl) y (by rw [List.getElem_map, hz]; exact hy)
          obtain ⟨by_, oy, rfl, hby, hoy⟩ := Cap.facts HC6.out (k := k) (by rw [List.length_map, List.length_map]; exact hkl) y (by rw [List.getElem_map, List.getElem_map, hz, hy]; exact hyy)
          have HOP := hid (rg_only hop hb0 HOW.out (by omega))
          have HX1 := hid (rg_only hox hbx HOW.out (by omega))
          have HY1 := hid (rg_only hoy hby HOW.out (by omega))
          have hwr := HOW.out.size
          have hb1 := Nat.lt_of_lt_of_le hb0 hwr
          have HBB : Hid (bx < wr.heap.size ∧ by_ < wr.heap.size ∧ w6.heap.size ≤ wr.heap.size) := hid ⟨by omega, by omega, hwr⟩
          clear hz hop hox hoy hkl hy hyy hb0 hbx hby
          have c0 : wr.cell? ⟨b0, o0 + k * 6, none⟩ = some (.bool z.tag) := HOP.out 0 _ rfl
          have c1 : wr.cell? ⟨b0, o0 + k * 6 + 1, none⟩ = some (.int .i64 z.base) := HOP.out 1 _ rfl
          have c2 : wr.cell? ⟨b0, o0 + k * 6 + 2, none⟩ = some (.int .i64 z.top) := HOP.out 2 _ rfl
          have c3 : wr.cell? ⟨b0, o0 + k * 6 + 3, none⟩ = some (.int .i64 z.at_) := HOP.out 3 _ rfl
          have c4 : wr.cell? ⟨b0, o0 + k * 6 + 4, none⟩ = some (.int .i64 z.perms) := HOP.out 4 _ rfl
          have c5 : wr.cell? ⟨b0, o0 + k * 6 + 5, none⟩ = some (.int .i64 z.type) := HOP.out 5 _ rfl
          go_upto_region 18 with (fail)
          refine wp_gen (fun V => Hid (SWB w V q g s p pq 1 64 (fun _ => 0) (fun _ => false) (fun _ => false) P false none 0 [] 0) ∧ Hid (Only (fun i => w6.heap.size ≤ i) w6 V) ∧ Hid (Row V wr.heap.size 0 (capL z)) ∧ Hid (V.rangeAt b0 (o0 + k * 6) (capL z)) ∧ Hid (V.rangeAt bx (ox + k * 6) (capL y)) ∧ Hid (V.rangeAt by_ (oy + k * 6) (capL y)) ∧ Hid (wr.heap.size < V.heap.size)) ⟨hid (HSr.out.ext (by repeat (first | (with_reducible exact Ext.refl _) | (with_reducible refine Ext.undrew ?_) | (with_reducible refine Ext.grow ?_ _) | (with_reducible refine Ext.drew ?_) | (with_reducible refine Ext.drewN ?_ _) | (with_reducible refine Ext.alloc ?_ _) | (with_reducible assumption) | ((with_reducible refine Ext.setCell ?_ ?_ _); rotate_left; (first | exact Nat.le_refl _ | ((try dsimp only); (try simp only [World.size_alloc, grow_size, World.size_setCell]); omega)))))), hid (HOW.out.transExt (by repeat (first | (with_reducible exact Ext.refl _) | (with_reducible refine Ext.undrew ?_) | (with_reducible refine Ext.grow ?_ _) | (with_reducible refine Ext.drew ?_) | (with_reducible refine Ext.drewN ?_ _) | (with_reducible refine Ext.alloc ?_ _) | (with_reducible assumption) | ((with_reducible refine Ext.setCell ?_ ?_ _); rotate_left; (first | exact Nat.le_refl _ | ((try dsimp only); (try simp only [World.size_alloc, grow_size, World.size_setCell]); omega)))))), hid (Row.new wr _ _), hid (rg_ext HOP.out hb1 (by repeat (first | (with_reducible exact Ext.refl _) | (with_reducible refine Ext.undrew ?_) | (with_reducible refine Ext.grow ?_ _) | (with_reducible refine Ext.drew ?_) | (with_reducible refine Ext.drewN ?_ _) | (with_reducible refine Ext.alloc ?_ _) | (with_reducible assumption) | ((with_reducible refine Ext.setCell ?_ ?_ _); rotate_left; (first | exact Nat.le_refl _ | ((try dsimp only); (try simp only [World.size_alloc, grow_size, World.size_setCell]); omega)))))), hid (rg_ext HX1.out HBB.out.1 (by repeat (first | (with_reducible exact Ext.refl _) | (with_reducible refine Ext.undrew ?_) | (with_reducible refine Ext.grow ?_ _) | (with_reducible refine Ext.drew ?_) | (with_reducible refine Ext.drewN ?_ _) | (with_reducible refine Ext.alloc ?_ _) | (with_reducible assumption) | ((with_reducible refine Ext.setCell ?_ ?_ _); rotate_left; (first | exact Nat.le_refl _ | ((try dsimp only); (try simp only [World.size_alloc, grow_size, World.size_setCell]); omega)))))), hid (rg_ext HY1.out HBB.out.2.1 (by repeat (first | (with_reducible exact Ext.refl _) | (with_reducible refine Ext.undrew ?_) | (with_reducible refine Ext.grow ?_ _) | (with_reducible refine Ext.drew ?_) | (with_reducible refine Ext.drewN ?_ _) | (with_reducible refine Ext.alloc ?_ _) | (with_reducible assumption) | ((with_reducible refine Ext.setCell ?_ ?_ _); rotate_left; (first | exact Nat.le_refl _ | ((try dsimp only); (try simp only [World.size_alloc, grow_size, World.size_setCell]); omega)))))), hid (by simp)⟩ ?_
          clear c0 c1 c2 c3 c4 c5
          rintro W2 ⟨HS2, HOW2, HZ2, HP2, HX2, HY2, HV2⟩
          have HZN : Hid (¬ q = wr.heap.size ∧ ¬ g = wr.heap.size ∧ ¬ s = wr.heap.size ∧ ¬ p = wr.heap.size ∧ ¬ pq = wr.heap.size ∧ w.heap.size ≤ wr.heap.size ∧ ¬ bx = wr.heap.size ∧ ¬ by_ = wr.heap.size) := hid (by
            have e1 := HSr.out.h1.1.ltq
            have e2 := HSr.out.h1.1.ltg
            have e3 := HSr.out.h3.lt
            have e4 := HSr.out.h2.ltp
            have e5 := HSr.out.h2.ltq
            have e6 := HSr.out.h1.2.1.size
            have e7 := HBB.out
            exact ⟨by omega, by omega, by omega, by omega, by omega, by omega, by omega, by omega⟩)
          have HZW : Hid (w6.heap.size ≤ wr.heap.size) := hid HBB.out.2.2
          have hb2 : b0 < W2.heap.size := by have := HV2.out; omega
          have hbX : bx < W2.heap.size := by have := HV2.out; have := HBB.out; omega
          have hbY : by_ < W2.heap.size := by have := HV2.out; have := HBB.out; omega
          have hn0 : ¬ b0 = wr.heap.size := by omega
          clear HSr HOW HOP HX1 HY1 HBB hwr hb1
          obtain ⟨zb, hzb0⟩ : ∃ x, wr.heap.size = x := ⟨_, rfl⟩
          rw [hzb0] at HZ2 HZN HZW HV2 hn0 ⊢
          have HOW := HOW2
          clear hzb0 HOW2
          have zl := HZ2.out.lt
          have z0 : W2.cell? ⟨zb, 0, none⟩ = some (.bool z.tag) := by have := HZ2.out.at_ 0 _ rfl; simpa using this
          have zf0 : W2.frozen? ⟨zb, 0, none⟩ = false := by have := HZ2.out.free 0 (by simp [capL]); simpa using this
          have c0 : W2.cell? ⟨b0, o0 + k * 6, none⟩ = some (.bool z.tag) := HP2.out 0 _ rfl
          have c1 : W2.cell? ⟨b0, o0 + k * 6 + 1, none⟩ = some (.int .i64 z.base) := HP2.out 1 _ rfl
          have c2 : W2.cell? ⟨b0, o0 + k * 6 + 2, none⟩ = some (.int .i64 z.top) := HP2.out 2 _ rfl
          have c3 : W2.cell? ⟨b0, o0 + k * 6 + 3, none⟩ = some (.int .i64 z.at_) := HP2.out 3 _ rfl
          have c4 : W2.cell? ⟨b0, o0 + k * 6 + 4, none⟩ = some (.int .i64 z.perms) := HP2.out 4 _ rfl
          have c5 : W2.cell? ⟨b0, o0 + k * 6 + 5, none⟩ = some (.int .i64 z.type) := HP2.out 5 _ rfl
          obtain ⟨tg, htg⟩ : ∃ b, z.tag = b := ⟨_, rfl⟩
          have HTG := hid htg
          rw [htg] at z0 c0
          clear htg
          rcases tg with _ | _
          · have HYC : Hid (∀ V, Row V zb 0 [.bool false, .int .i64 z.base, .int .i64 z.top, .int .i64 z.at_, .int .i64 z.perms, .int .i64 z.type] → CapB V zb [.bool y.tag, .int .i64 y.base, .int .i64 y.top, .int .i64 y.at_, .int .i64 y.perms, .int .i64 y.type]) := hid (fun V hV => by
              have e0 : y.tag = false := by rw [← HYE.out]; unfold capBar; simp only [HTG.out, Bool.false_and]
              have e1 : y.base = z.base ∧ y.top = z.top ∧ y.at_ = z.at_ ∧ y.perms = z.perms ∧ y.type = z.type := by rw [← HYE.out]; exact ⟨rfl, rfl, rfl, rfl, rfl⟩
              rw [e0, e1.1, e1.2.1, e1.2.2.1, e1.2.2.2.1, e1.2.2.2.2]
              exact ⟨hV.lt, fun j v hj => by have := hV.at_ j v hj; simpa using this⟩)
            refine wp_region_turn (q := zb) (.rd 0 (.rd 1 (.rd 2 (.rd 3 (.rd 4 (.rd 5 (.rd 6 (.rd 7 (.rd 8 (.rd 9 (.rd 10 (.rd 11 (.rd 12 (.rd 13 (.rd 14 (.rd 15 (.rd 16 (.rd 17 (.rd 18 (.rd 19 (.rd 20 (.rd 21 (.rd 22 (.rd 23 (.ac 24 (.rd 25 (.rd 26 (.rd 27 (.rd 28 (.ac 29 .done)))))))))))))))))))))))))))))) (by kernel_rfl) (by kernel_rfl) (fun _ _ d _ _ h => by cases d <;> exact h) (by simp only [Ord.map, nthOp, List.append]; rfl) ?_
            intro d0
            have hxg : Ext W2 (Go.Proofs.Ythamfkbopjagdaa.grow W2 d0) := Ext.grow (Ext.refl _) d0
            apply turn_quiet (r' := .ac _ _)
            (repeat (first | exact RdPre.nil | apply RdPre.cons))
            (repeat (go_big_quiet_step (fail)))
            refine wpQuiet_nil ?_
            refine turn_idle (by rfl) ?_
            simp only [Act.put, List.setIfInBounds_toArray, List.set_cons_zero, List.set_cons_succ]
            apply turn_quiet (r' := .ac _ _)
            (repeat (first | exact RdPre.nil | apply RdPre.cons))
            (repeat (go_big_quiet_step (fail)))
            refine wpQuiet_nil ?_
            refine turn_act (by rfl) (fun K hK => ?_)
            go_wp2_with fail
            refine ⟨_, Only.refl _ _, (by first | exact Only.refl _ _ | (rw [← grow_setCell _ _ _ _ _ zl]; exact Only.setCell (S := (· = zb)) (Only.refl _ _) (.inl rfl) _)), ?_⟩
            refine turn_nil ?_
            go_upto_region 19 with (fail)
            clear z0 zf0 c0 c1 c2 c3 c4 c5 hxg
            refine wp_gen (fun V => Hid (Only (· = zb) W2 V) ∧ Hid (CapB V zb [.bool y.tag, .int .i64 y.base, .int .i64 y.top, .int .i64 y.at_, .int .i64 y.perms, .int .i64 y.type])) ⟨hid ((Only.setCell (S := (· = zb)) (Only.refl _ _) (.inl rfl) _).transExt (Ext.grow (Ext.refl _) d0)), hid ?pb⟩ ?_
            case pb =>
              have h0 := (HZ2.out.set0 (v := .bool false)).ext (Ext.grow (Ext.refl _) d0)
              exact HYC.out _ h0
            clear zl d0
            rintro V ⟨HOV, HYV⟩
            have HSV := hid (HS2.out.onlyS (S := (· = zb)) HOV.out (by have := HZN.out; exact ⟨this.1, this.2.1, this.2.2.1, this.2.2.2.1, this.2.2.2.2.1⟩) (fun b o e => by cases e) (by rintro i rfl; exact HZN.out.2.2.2.2.2.1))
            have HFX := hid (rg_only HX2.out hbX (HOV.out) HZN.out.2.2.2.2.2.2.1)
            have HFY := hid (rg_only HY2.out hbY (HOV.out) HZN.out.2.2.2.2.2.2.2)
            have hbX' := Nat.lt_of_lt_of_le hbX HOV.out.size
            have hbY' := Nat.lt_of_lt_of_le hbY HOV.out.size
            have x0 : V.cell? ⟨bx, ox + k * 6, none⟩ = some (.bool y.tag) := HFX.out 0 _ rfl
            have x1 : V.cell? ⟨bx, ox + k * 6 + 1, none⟩ = some (.int .i64 y.base) := HFX.out 1 _ rfl
            have x2 : V.cell? ⟨bx, ox + k * 6 + 2, none⟩ = some (.int .i64 y.top) := HFX.out 2 _ rfl
            have x3 : V.cell? ⟨bx, ox + k * 6 + 3, none⟩ = some (.int .i64 y.at_) := HFX.out 3 _ rfl
            have x4 : V.cell? ⟨bx, ox + k * 6 + 4, none⟩ = some (.int .i64 y.perms) := HFX.out 4 _ rfl
            have x5 : V.cell? ⟨bx, ox + k * 6 + 5, none⟩ = some (.int .i64 y.type) := HFX.out 5 _ rfl
            have w0 : V.cell? ⟨by_, oy + k * 6, none⟩ = some (.bool y.tag) := HFY.out 0 _ rfl
            have w1 : V.cell? ⟨by_, oy + k * 6 + 1, none⟩ = some (.int .i64 y.base) := HFY.out 1 _ rfl
            have w2 : V.cell? ⟨by_, oy + k * 6 + 2, none⟩ = some (.int .i64 y.top) := HFY.out 2 _ rfl
            have w3 : V.cell? ⟨by_, oy + k * 6 + 3, none⟩ = some (.int .i64 y.at_) := HFY.out 3 _ rfl
            have w4 : V.cell? ⟨by_, oy + k * 6 + 4, none⟩ = some (.int .i64 y.perms) := HFY.out 4 _ rfl
            have w5 : V.cell? ⟨by_, oy + k * 6 + 5, none⟩ = some (.int .i64 y.type) := HFY.out 5 _ rfl
            have z0 : World.cell? V ⟨zb, 0, none⟩ = some (.bool y.tag) := HYV.out.2 0 _ rfl
            have z1 : World.cell? V ⟨zb, 1, none⟩ = some (.int .i64 y.base) := HYV.out.2 1 _ rfl
            have z2 : World.cell? V ⟨zb, 2, none⟩ = some (.int .i64 y.top) := HYV.out.2 2 _ rfl
            have z3 : World.cell? V ⟨zb, 3, none⟩ = some (.int .i64 y.at_) := HYV.out.2 3 _ rfl
            have z4 : World.cell? V ⟨zb, 4, none⟩ = some (.int .i64 y.perms) := HYV.out.2 4 _ rfl
            have z5 : World.cell? V ⟨zb, 5, none⟩ = some (.int .i64 y.type) := HYV.out.2 5 _ rfl
            have zl := HYV.out.1
            refine wp_region_grow (by kernel_rfl) (by kernel_rfl) (by first | (simp only [List.append]; rfl) | rfl) ?_
            (repeat (go_big_quiet_step (fail)))
            refine wpQuiet_nil ?_
            intro wq hq
            obtain ⟨d, rfl⟩ := hq
            go_wp2
            go_roundw
            case rel => exact ⟨k + 1, by omega, by go_num, hid (HSV.out.ext (Ext.grow (Ext.refl _) d)), hid ((HOW.out.trans HOV.out (fun i e => by have := HZN.out.2.2.2.2.2.1; right; exact e ▸ HZW.out)).transExt (Ext.grow (Ext.refl _) d))⟩
            case measure => simp [intOf]; omega
          · by_cases hbt : z.top ≤ z.base
            · have HYC : Hid (∀ V, Row V zb 0 [.bool true, .int .i64 z.base, .int .i64 z.top, .int .i64 z.at_, .int .i64 z.perms, .int .i64 z.type] → CapB V zb [.bool y.tag, .int .i64 y.base, .int .i64 y.top, .int .i64 y.at_, .int .i64 y.perms, .int .i64 y.type]) := hid (fun V hV => by
                have e0 : y.tag = true := by rw [← HYE.out]; unfold capBar hitsP; simp only [HTG.out, Bool.true_and, decide_eq_false (show ¬ z.base < z.top by omega), Bool.false_and, Bool.not_false]
                have e1 : y.base = z.base ∧ y.top = z.top ∧ y.at_ = z.at_ ∧ y.perms = z.perms ∧ y.type = z.type := by rw [← HYE.out]; exact ⟨rfl, rfl, rfl, rfl, rfl⟩
                rw [e0, e1.1, e1.2.1, e1.2.2.1, e1.2.2.2.1, e1.2.2.2.2]
                exact ⟨hV.lt, fun j v hj => by have := hV.at_ j v hj; simpa using this⟩)
              have hge : decide (z.base ≥ z.top) = true := decide_eq_true hbt
              refine wp_region_turn (q := zb) (.rd 0 (.rd 1 (.rd 2 (.rd 3 (.rd 4 (.rd 5 (.rd 6 (.rd 7 (.rd 8 (.rd 9 (.rd 10 (.rd 11 (.rd 12 (.rd 13 (.rd 14 (.rd 15 (.rd 16 (.rd 17 (.rd 18 (.rd 19 (.rd 20 (.rd 21 (.rd 22 (.rd 23 (.ac 24 (.rd 25 (.rd 26 (.rd 27 (.rd 28 (.ac 29 .done)))))))))))))))))))))))))))))) (by kernel_rfl) (by kernel_rfl) (fun _ _ d _ _ h => by cases d <;> exact h) (by simp only [Ord.map, nthOp, List.append]; rfl) ?_
              intro d0
              have hxg : Ext W2 (Go.Proofs.Ythamfkbopjagdaa.grow W2 d0) := Ext.grow (Ext.refl _) d0
              apply turn_quiet (r' := .ac _ _)
              (repeat (first | exact RdPre.nil | apply RdPre.cons))
              (repeat (go_big_quiet_step (fail)))
              refine wpQuiet_nil ?_
              refine turn_idle (by rfl) ?_
              simp only [Act.put, List.setIfInBounds_toArray, List.set_cons_zero, List.set_cons_succ]
              apply turn_quiet (r' := .ac _ _)
              (repeat (first | exact RdPre.nil | apply RdPre.cons))
              (repeat (go_big_quiet_step (fail)))
              refine wpQuiet_nil ?_
              refine turn_act (by rfl) (fun K hK => ?_)
              go_wp2_with fail
              refine ⟨_, Only.refl _ _, (by first | exact Only.refl _ _ | (rw [← grow_setCell _ _ _ _ _ zl]; exact Only.setCell (S := (· = zb)) (Only.refl _ _) (.inl rfl) _)), ?_⟩
              refine turn_nil ?_
              go_upto_region 19 with (fail)
              clear z0 zf0 c0 c1 c2 c3 c4 c5 hxg
              refine wp_gen (fun V => Hid (Only (· = zb) W2 V) ∧ Hid (CapB V zb [.bool y.tag, .int .i64 y.base, .int .i64 y.top, .int .i64 y.at_, .int .i64 y.perms, .int .i64 y.type])) ⟨hid ((Only.setCell (S := (· = zb)) (Only.refl _ _) (.inl rfl) _).transExt (Ext.grow (Ext.refl _) d0)), hid ?pb⟩ ?_
              case pb =>
                have h0 := (HZ2.out.set0 (v := .bool true)).ext (Ext.grow (Ext.refl _) d0)
                exact HYC.out _ h0
              clear zl d0
              rintro V ⟨HOV, HYV⟩
              have HSV := hid (HS2.out.onlyS (S := (· = zb)) HOV.out (by have := HZN.out; exact ⟨this.1, this.2.1, this.2.2.1, this.2.2.2.1, this.2.2.2.2.1⟩) (fun b o e => by cases e) (by rintro i rfl; exact HZN.out.2.2.2.2.2.1))
              have HFX := hid (rg_only HX2.out hbX (HOV.out) HZN.out.2.2.2.2.2.2.1)
              have HFY := hid (rg_only HY2.out hbY (HOV.out) HZN.out.2.2.2.2.2.2.2)
              have hbX' := Nat.lt_of_lt_of_le hbX HOV.out.size
              have hbY' := Nat.lt_of_lt_of_le hbY HOV.out.size
              have x0 : V.cell? ⟨bx, ox + k * 6, none⟩ = some (.bool y.tag) := HFX.out 0 _ rfl
              have x1 : V.cell? ⟨bx, ox + k * 6 + 1, none⟩ = some (.int .i64 y.base) := HFX.out 1 _ rfl
              have x2 : V.cell? ⟨bx, ox + k * 6 + 2, none⟩ = some (.int .i64 y.top) := HFX.out 2 _ rfl
              have x3 : V.cell? ⟨bx, ox + k * 6 + 3, none⟩ = some (.int .i64 y.at_) := HFX.out 3 _ rfl
              have x4 : V.cell? ⟨bx, ox + k * 6 + 4, none⟩ = some (.int .i64 y.perms) := HFX.out 4 _ rfl
              have x5 : V.cell? ⟨bx, ox + k * 6 + 5, none⟩ = some (.int .i64 y.type) := HFX.out 5 _ rfl
              have w0 : V.cell? ⟨by_, oy + k * 6, none⟩ = some (.bool y.tag) := HFY.out 0 _ rfl
              have w1 : V.cell? ⟨by_, oy + k * 6 + 1, none⟩ = some (.int .i64 y.base) := HFY.out 1 _ rfl
              have w2 : V.cell? ⟨by_, oy + k * 6 + 2, none⟩ = some (.int .i64 y.top) := HFY.out 2 _ rfl
              have w3 : V.cell? ⟨by_, oy + k * 6 + 3, none⟩ = some (.int .i64 y.at_) := HFY.out 3 _ rfl
              have w4 : V.cell? ⟨by_, oy + k * 6 + 4, none⟩ = some (.int .i64 y.perms) := HFY.out 4 _ rfl
              have w5 : V.cell? ⟨by_, oy + k * 6 + 5, none⟩ = some (.int .i64 y.type) := HFY.out 5 _ rfl
              have z0 : World.cell? V ⟨zb, 0, none⟩ = some (.bool y.tag) := HYV.out.2 0 _ rfl
              have z1 : World.cell? V ⟨zb, 1, none⟩ = some (.int .i64 y.base) := HYV.out.2 1 _ rfl
              have z2 : World.cell? V ⟨zb, 2, none⟩ = some (.int .i64 y.top) := HYV.out.2 2 _ rfl
              have z3 : World.cell? V ⟨zb, 3, none⟩ = some (.int .i64 y.at_) := HYV.out.2 3 _ rfl
              have z4 : World.cell? V ⟨zb, 4, none⟩ = some (.int .i64 y.perms) := HYV.out.2 4 _ rfl
              have z5 : World.cell? V ⟨zb, 5, none⟩ = some (.int .i64 y.type) := HYV.out.2 5 _ rfl
              have zl := HYV.out.1
              refine wp_region_grow (by kernel_rfl) (by kernel_rfl) (by first | (simp only [List.append]; rfl) | rfl) ?_
              (repeat (go_big_quiet_step (fail)))
              refine wpQuiet_nil ?_
              intro wq hq
              obtain ⟨d, rfl⟩ := hq
              go_wp2
              go_roundw
              case rel => exact ⟨k + 1, by omega, by go_num, hid (HSV.out.ext (Ext.grow (Ext.refl _) d)), hid ((HOW.out.trans HOV.out (fun i e => by have := HZN.out.2.2.2.2.2.1; right; exact e ▸ HZW.out)).transExt (Ext.grow (Ext.refl _) d))⟩
              case measure => simp [intOf]; omega
            · obtain ⟨iv, hiv⟩ : ∃ b, isP 64 P z.base = b := ⟨_, rfl⟩
              have HIV := hid hiv
              have HYC : Hid (∀ V, Row V zb 0 [.bool (!iv), .int .i64 z.base, .int .i64 z.top, .int .i64 z.at_, .int .i64 z.perms, .int .i64 z.type] → CapB V zb [.bool y.tag, .int .i64 y.base, .int .i64 y.top, .int .i64 y.at_, .int .i64 y.perms, .int .i64 y.type]) := hid (fun V hV => by
                have e0 : y.tag = !iv := by rw [← HYE.out]; unfold capBar hitsP; simp only [HTG.out, Bool.true_and, decide_eq_true (show z.base < z.top by omega), HIV.out]
                have e1 : y.base = z.base ∧ y.top = z.top ∧ y.at_ = z.at_ ∧ y.perms = z.perms ∧ y.type = z.type := by rw [← HYE.out]; exact ⟨rfl, rfl, rfl, rfl, rfl⟩
                rw [e0, e1.1, e1.2.1, e1.2.2.1, e1.2.2.2.1, e1.2.2.2.2]
                exact ⟨hV.lt, fun j v hj => by have := hV.at_ j v hj; simpa using this⟩)
              clear hiv
              have hge : decide (z.base ≥ z.top) = false := decide_eq_false hbt
              refine wp_region_turn (q := zb) (.rd 0 (.rd 1 (.rd 2 (.rd 3 (.rd 4 (.rd 5 (.rd 6 (.rd 7 (.rd 8 (.rd 9 (.rd 10 (.rd 11 (.rd 12 (.rd 13 (.rd 14 (.rd 15 (.rd 16 (.rd 17 (.rd 18 (.rd 19 (.rd 20 (.rd 21 (.rd 22 (.rd 23 (.ac 24 (.rd 25 (.rd 26 (.rd 27 (.rd 28 (.ac 29 .done)))))))))))))))))))))))))))))) (by kernel_rfl) (by kernel_rfl) (fun _ _ d _ _ h => by cases d <;> exact h) (by simp only [Ord.map, nthOp, List.append]; rfl) ?_
              intro d0
              have hxg : Ext W2 (Go.Proofs.Ythamfkbopjagdaa.grow W2 d0) := Ext.grow (Ext.refl _) d0
              repeat' (first | (refine turn_read (by rfl) (fun K hK => ?_); go_big_quiet_op; refine hK _ ?_; clear hK K) | (refine turn_skip (by rfl) ?_; simp only [Act.put, List.setIfInBounds_toArray, List.set_cons_zero, List.set_cons_succ]) | (refine turn_idle (by rfl) ?_; simp only [Act.put, List.setIfInBounds_toArray, List.set_cons_zero, List.set_cons_succ]) | (refine turn_act (by rfl) (fun K hK => ?_); go_wp2_with (go_at_call 46; refine (is_ (HS2.out.h2.ext hxg) z.base hzb).mono ?_; rw [HIV.out]; rintro e W3 ⟨rfl, rfl⟩); refine ⟨_, Only.refl _ _, (by first | exact Only.refl _ _ | (rw [← grow_setCell _ _ _ _ _ zl]; exact Only.setCell (S := (· = zb)) (Only.refl _ _) (.inl rfl) _)), ?_⟩))
              refine turn_nil ?_
              go_upto_region 19 with (fail)
              clear z0 zf0 c0 c1 c2 c3 c4 c5 hxg
              refine wp_gen (fun V => Hid (Only (· = zb) W2 V) ∧ Hid (CapB V zb [.bool y.tag, .int .i64 y.base, .int .i64 y.top, .int .i64 y.at_, .int .i64 y.perms, .int .i64 y.type])) ⟨hid ((Only.setCell (S := (· = zb)) (Only.refl _ _) (.inl rfl) _).transExt (Ext.grow (Ext.refl _) d0)), hid ?pb⟩ ?_
              case pb =>
                have h0 := (HZ2.out.set0 (v := .bool (!iv))).ext (Ext.grow (Ext.refl _) d0)
                exact HYC.out _ h0
              clear zl d0
              rintro V ⟨HOV, HYV⟩
              have HSV := hid (HS2.out.onlyS (S := (· = zb)) HOV.out (by have := HZN.out; exact ⟨this.1, this.2.1, this.2.2.1, this.2.2.2.1, this.2.2.2.2.1⟩) (fun b o e => by cases e) (by rintro i rfl; exact HZN.out.2.2.2.2.2.1))
              have HFX := hid (rg_only HX2.out hbX (HOV.out) HZN.out.2.2.2.2.2.2.1)
              have HFY := hid (rg_only HY2.out hbY (HOV.out) HZN.out.2.2.2.2.2.2.2)
              have hbX' := Nat.lt_of_lt_of_le hbX HOV.out.size
              have hbY' := Nat.lt_of_lt_of_le hbY HOV.out.size
              have x0 : V.cell? ⟨bx, ox + k * 6, none⟩ = some (.bool y.tag) := HFX.out 0 _ rfl
              have x1 : V.cell? ⟨bx, ox + k * 6 + 1, none⟩ = some (.int .i64 y.base) := HFX.out 1 _ rfl
              have x2 : V.cell? ⟨bx, ox + k * 6 + 2, none⟩ = some (.int .i64 y.top) := HFX.out 2 _ rfl
              have x3 : V.cell? ⟨bx, ox + k * 6 + 3, none⟩ = some (.int .i64 y.at_) := HFX.out 3 _ rfl
              have x4 : V.cell? ⟨bx, ox + k * 6 + 4, none⟩ = some (.int .i64 y.perms) := HFX.out 4 _ rfl
              have x5 : V.cell? ⟨bx, ox + k * 6 + 5, none⟩ = some (.int .i64 y.type) := HFX.out 5 _ rfl
              have w0 : V.cell? ⟨by_, oy + k * 6, none⟩ = some (.bool y.tag) := HFY.out 0 _ rfl
              have w1 : V.cell? ⟨by_, oy + k * 6 + 1, none⟩ = some (.int .i64 y.base) := HFY.out 1 _ rfl
              have w2 : V.cell? ⟨by_, oy + k * 6 + 2, none⟩ = some (.int .i64 y.top) := HFY.out 2 _ rfl
              have w3 : V.cell? ⟨by_, oy + k * 6 + 3, none⟩ = some (.int .i64 y.at_) := HFY.out 3 _ rfl
              have w4 : V.cell? ⟨by_, oy + k * 6 + 4, none⟩ = some (.int .i64 y.perms) := HFY.out 4 _ rfl
              have w5 : V.cell? ⟨by_, oy + k * 6 + 5, none⟩ = some (.int .i64 y.type) := HFY.out 5 _ rfl
              have z0 : World.cell? V ⟨zb, 0, none⟩ = some (.bool y.tag) := HYV.out.2 0 _ rfl
              have z1 : World.cell? V ⟨zb, 1, none⟩ = some (.int .i64 y.base) := HYV.out.2 1 _ rfl
              have z2 : World.cell? V ⟨zb, 2, none⟩ = some (.int .i64 y.top) := HYV.out.2 2 _ rfl
              have z3 : World.cell? V ⟨zb, 3, none⟩ = some (.int .i64 y.at_) := HYV.out.2 3 _ rfl
              have z4 : World.cell? V ⟨zb, 4, none⟩ = some (.int .i64 y.perms) := HYV.out.2 4 _ rfl
              have z5 : World.cell? V ⟨zb, 5, none⟩ = some (.int .i64 y.type) := HYV.out.2 5 _ rfl
              have zl := HYV.out.1
              refine wp_region_grow (by kernel_rfl) (by kernel_rfl) (by first | (simp only [List.append]; rfl) | rfl) ?_
              (repeat (go_big_quiet_step (fail)))
              refine wpQuiet_nil ?_
              intro wq hq
              obtain ⟨d, rfl⟩ := hq
              go_wp2
              go_roundw
              case rel => exact ⟨k + 1, by omega, by go_num, hid (HSV.out.ext (Ext.grow (Ext.refl _) d)), hid ((HOW.out.trans HOV.out (fun i e => by have := HZN.out.2.2.2.2.2.1; right; exact e ▸ HZW.out)).transExt (Ext.grow (Ext.refl _) d))⟩
              case measure => simp [intOf]; omega
        · obtain rfl : m = k := by omega
          have hk1 : ¬ (m : Int) < (m : Int) := by omega
          go_wp2
          go_ret
          exact ⟨rfl, HSr.out.h1.2.1⟩
    · have hm2 : ¬ (200 : Int) < (m : Int) := by omega
      have hp2 : (200 : Int) < (ps1.length : Int) := by omega
      go_wp2
      go_ret
      exact ⟨rfl, HMP.out.h1.2.1⟩
  · have hm2 : (200 : Int) < (m : Int) := by omega
    go_wp2
    go_ret
    exact ⟨rfl, HMP.out.h1.2.1⟩
end sweepHeld

end Go.Proofs.Ythamfkbopjagdaa
