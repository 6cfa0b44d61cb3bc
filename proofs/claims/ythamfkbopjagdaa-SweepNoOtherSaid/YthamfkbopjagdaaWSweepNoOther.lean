/- The walk of SweepNoOther. -/
import Derived.Test.YthamfkbopjagdaaSweL
import Derived.Test.YthamfkbopjagdaaSweI
import Derived.Test.YthamfkbopjagdaaSweJ
namespace Go.Proofs.Ythamfkbopjagdaa
set_option linter.unusedSimpArgs false
set_option linter.unusedVariables false
open Go.RowKit

open Go.Deep Go.RowKit
namespace sweepNoOther
set_option linter.unusedSimpArgs false
set_option linter.unusedVariables false
theorem take_filter_no {l : List Nat} {f : Nat → Bool} {k x : Nat} (h : l[k]? = some x) (hf : f x = false) : (l.take (k + 1)).filter f = (l.take k).filter f := by
  rw [List.take_add_one, h, Option.toList_some, List.filter_append]
  simp [hf]
theorem take_filter_yes {l : List Nat} {f : Nat → Bool} {k x : Nat} (h : l[k]? = some x) (hf : f x = true) : (l.take (k + 1)).filter f = (l.take k).filter f ++ [x] := by
  rw [List.take_add_one, h, Option.toList_some, List.filter_append]
  simp [hf]
set_option maxRecDepth 100000 in
set_option maxHeartbeats 8000000 in
theorem walk (A0 : Option Addr) (cap0 : Nat) (zs0 : List TOp) (A1 : Option Addr) (cap1 : Nat) (ps1 : List SOp) (w : World) (wl0 : zs0.length ≤ maxLen) (hs0 : SlAtN w A0 10 (zs0.map TOp.cells)) (wz0 : ∀ z ∈ zs0, z.good w) (wl1 : ps1.length ≤ maxLen) (hs1 : SlAtN w A1 3 (ps1.map SOp.cells)) (wz1 : ∀ z ∈ ps1, wfS z) :
    Calls Try.prog 5 #[.slice A0 zs0.length cap0, .slice A1 ps1.length cap1] w fun e w' => e = .returned (.bool true) ∧ Ext w w' := by
  obtain ⟨i0, hi0, hz0, hz1, hz2⟩ := info_parts info_int
  have HSL := hid hs0
  have HWZ := hid wz0
  have HPL := hid hs1
  clear hs0 hs1 wz0 wz1
  go_enter Try.func5, Try.ntmps5
  go_upto_region 2 with (go_at_call 8; refine Calls.mono (head_ _) ?_; rintro e wh ⟨rfl, hxh⟩)
  go_upto_region 3 with (go_at_call 9; refine (hNew 4 4 (by decide) _ (by decide) (by decide)).mono ?_; rintro e w1 ⟨q, rfl, g, HM1⟩)
  go_upto_region 4 with (go_at_call 10; refine (new_ 64 _ (by decide) (by decide)).mono ?_; rintro e w2 ⟨p, pq, rfl, hs2, hx2, hp2, hpq2⟩)
  have HX3 : Hid (Ext w w2) := hid (hxh.trans (HM1.out.2.1.trans hx2))
  have HMA : Hid (MP w w2 q g p pq 4 64 ((fun _ => 0), (fun _ => false), (fun _ => false)) (fun _ => false)) := hid (by
    have e1 := HM1.out
    have e2 := e1.1.ltq
    have e3 := e1.1.ltg
    have e4 := hxh.size
    have e5 := e1.2.1.size
    exact ⟨⟨(e1.1.ext hx2), HX3.out, Nat.le_trans e4 e1.2.2.1, Nat.le_trans e4 e1.2.2.2⟩, hs2, ⟨by omega, by omega, by omega, by omega⟩, ⟨by omega, by omega⟩⟩)
  clear HM1 hs2 hx2 hp2 hpq2 hxh
  by_cases hp200 : ps1.length ≤ 200
  · have hp2 : ¬ (200 : Int) < (ps1.length : Int) := by omega
    go_upto_region 6 with (go_at_call 39; refine (great_ A0 cap0 zs0 _ wl0 (HSL.out.ext HX3.out)).mono ?_; rintro e w4 ⟨b, rfl, hx4, hgr⟩; rcases b with _ | _)
    rotate_left
    · go_ret
      exact ⟨rfl, HX3.out.trans hx4⟩
    · have HMA4 := hid (HMA.out.ext hx4)
      clear HMA hx4 hgr HX3 hp200 hp2
      go_upto_region 7 with (go_at_call 40; refine (filled_ w _ q g p pq 4 64 ((fun _ => 0), (fun _ => false), (fun _ => false)) (fun _ => false) HMA4.out A0 cap0 zs0 HSL.out HWZ.out wl0 A1 cap1 ps1 HPL.out wl1).mono ?_; rintro e w5 ⟨rfl, HF5⟩)
      generalize fillP 64 (fun _ => false) ps1 = P at HF5
      obtain ⟨⟨B, T, D⟩, hM⟩ : ∃ x, fillM 4 ((fun _ => 0), (fun _ => false), (fun _ => false)) zs0 = x := ⟨_, rfl⟩
      rw [hM] at HF5
      clear hM
      have HA6 : Hid (MP w w5 q g p pq 4 64 (B, T, D) P) := hid HF5.out.1
      clear HF5 HMA4
      go_upto_region 8 with (go_at_call 14; refine (swnew_ q p _).mono ?_; rintro e w7 ⟨s, rfl, HS7, HX7, HL7⟩)
      have HA : Hid (SWB w w7 q g s p pq 4 64 B T D P false none 0 [] 0) := hid (by
        have e1 := HA6.out
        have e7 := e1.h1.2.1.size
        have e3 := HL7.out
        have e8 := e1.h1.1.ltq
        have e9 := e1.h1.1.ltg
        have e10 := e1.h2.ltp
        have e11 := e1.h2.ltq
        exact ⟨e1.h1.ext HX7.out, e1.h2.ext HX7.out, HS7.out, ⟨by omega, by omega, by omega, by omega, e1.ap.1, e1.ap.2.1, e1.ap.2.2.1, e1.ap.2.2.2⟩, ⟨by omega, e1.lo.1, e1.lo.2⟩, fun b o e => (by cases e), fun x hx => (by cases hx)⟩)
      have HLT : Hid (q < w7.heap.size ∧ g < w7.heap.size ∧ p < w7.heap.size ∧ pq < w7.heap.size ∧ s < w7.heap.size) := hid ⟨HA.out.h1.1.ltq, HA.out.h1.1.ltg, HA.out.h2.ltp, HA.out.h2.ltq, HA.out.h3.lt⟩
      clear HA6 HS7 HX7 HL7
      have HINV : Hid (∀ t, T t = true → D (t / 16) = true) := hid HA.out.h1.1.inv
      go_upto_region 11 with (go_at_call 44; refine (hLoad w _ q g 4 B _ _ (HA.out.h1) 0 1024 0 1024 (by decide) (by decide) (by decide)).mono ?_; rintro e W10 ⟨lb, rfl, HR10, _, HX10, HF10⟩)
      obtain ⟨lB, hlB0⟩ : ∃ l, bytesAt B 0 1024 = l := ⟨_, rfl⟩
      have HLB := hid hlB0
      have HLL : Hid (lB.length = 1024) := hid (by rw [← hlB0]; simp [bytesAt])
      clear hlB0
      rw [HLB.out] at HR10
      obtain ⟨wl, hwl⟩ : ∃ l, whichN T 64 = l := ⟨_, rfl⟩
      have HW0 := hid hwl
      obtain ⟨kt, hkt⟩ : ∃ k, wl.length = k := ⟨_, rfl⟩
      have HNW := hid hkt
      have HK64 : Hid (kt ≤ 64) := hid (by rw [← hkt, ← hwl]; exact whichN_len T 64)
      clear hwl hkt
      go_upto_region 12 with (go_at_call 33; refine (hTags w _ q g 4 B T D (HA.out.h1.ext HX10.out) (wl.map (16 * ·)) kt (by rw [← HW0.out]) (by rw [List.length_map]; exact HNW.out)).mono ?_; rintro e w11 ⟨A11, ca11, rfl, HR11, _, HX11, HF11⟩)
      have HA0 : Hid (SWB w w11 q g s p pq 4 64 B T D P false none 0 [] 0) := hid ((HA.out.ext HX10.out).ext HX11.out)
      have HRL := hid (HR10.out.ext HX11.out)
      have HW11 : Hid (Ext w w11) := hid HA0.out.h1.2.1
      have HSZ : Hid (w7.heap.size ≤ w11.heap.size) := hid ((HX10.out.trans HX11.out).size)
      have HLB0 : Hid (w7.heap.size ≤ lb ∧ lb < w11.heap.size) := hid ⟨HF10.out.1, Nat.lt_of_lt_of_le HF10.out.2 HX11.out.size⟩
      clear HA HR10 HX10 HX11 HF10 HF11
      have hkt64 : kt ≤ 64 := HK64.out
      go_wp2
      go_loopw [12, 13] (fun v i wr => ∃ k m : Nat, k ≤ kt ∧ i = .int .i64 k ∧ Hid (((wl.take k).filter fun t => !hitAt 64 P B T t).length = m ∧ m ≤ k) ∧ Hid (ownsAt wr w11.heap.size 3 1 v m (ints (((wl.take k).filter fun t => !hitAt 64 P B T t).map (16 * ·)))) ∧ Hid (SWB w wr q g s p pq 4 64 B T D P false none 0 [] 0) ∧ Hid (Ext w11 wr)) (fun _ i _ => kt - (intOf i).toNat)
      case atStart => exact ⟨0, 0, Nat.zero_le _, rfl, hid ⟨rfl, Nat.le_refl _⟩, hid (ownsAt_nil _ _ _ _), HA0, hid (Ext.refl _)⟩
      case round =>
        clear HA0
        obtain ⟨k, m, hk, rfl, HLN, HO, HAr, HXr⟩ := hrel
        have hk0 : (0 : Int) ≤ (k : Int) := by omega
        by_cases hlt : k < kt
        · have hk1 : (k : Int) < (kt : Int) := by omega
          obtain ⟨x, hx⟩ : ∃ x, wl[k]'(by rw [HNW.out]; exact hlt) = x := ⟨_, rfl⟩
          have hxm : x < 64 ∧ T x = true := by
            have := List.getElem_mem (l := wl) (n := k) (by rw [HNW.out]; exact hlt)
            rw [hx, ← HW0.out] at this
            exact whichN_mem.1 this
          obtain ⟨hx0, hxT⟩ := hxm
          obtain ⟨b0, o0, rfl, hb0, hcc0⟩ := (HR11.out.ext HXr.out) (by rw [List.length_map, HNW.out]; omega)
          have c0 : World.cell? wr ⟨b0, o0 + k, none⟩ = some (.int .i64 (16 * (x : Int))) := by
            have := hcc0 k (by rw [List.length_map, HNW.out]; exact hlt)
            rw [List.getElem_map, hx] at this
            rw [this]
            congr 2
          have HWX : Hid (wl[k]? = some x) := hid (by rw [List.getElem?_eq_getElem (by rw [HNW.out]; exact hlt), hx])
          clear hcc0 hx
          obtain ⟨c, hcc⟩ : ∃ c, getL (bytesAt B (16 * x) 16) (T x) = c := ⟨_, rfl⟩
          have HCC := hid hcc
          have HAT : Hid (hitsP 64 P c.tag c.base c.top = hitAt 64 P B T x) := hid (by rw [← hcc]; rfl)
          have hcb : c.base ≤ 9223372036854775807 := by rw [← hcc]; exact getL_base_le HAr.out.h1.1.rg
          clear hcc
          obtain ⟨hv, hhv⟩ : ∃ b, hitsP 64 P c.tag c.base c.top = b := ⟨_, rfl⟩
          have HHV := hid hhv
          have HHA : Hid (hitAt 64 P B T x = hv) := hid (HAT.out.symm.trans hhv)
          clear hhv HAT
          go_upto_region 17 with (go_at_call 42; refine (fLc w _ q g 4 B T D (HAr.out.h1) _ x (by omega) rfl c HCC.out).mono ?_; rintro e W1 ⟨rfl, HM1, HX1⟩)
          clear c0 hb0
          refine wp_gen (fun W => Hid (SWB w W q g s p pq 4 64 B T D P false none 0 [] 0) ∧ Hid (CapB W W1.heap.size [.bool c.tag, .int .i64 c.base, .int .i64 c.top, .int .i64 c.at_, .int .i64 c.perms, .int .i64 c.type]) ∧ Hid (ownsAt W w11.heap.size 3 1 u12 m (ints (((wl.take k).filter fun t => !hitAt 64 P B T t).map (16 * ·)))) ∧ Hid (Ext w11 W)) ⟨hid ((HAr.out.ext HX1.out).ext (by repeat (first | (with_reducible exact Ext.refl _) | (with_reducible refine Ext.undrew ?_) | (with_reducible refine Ext.grow ?_ _) | (with_reducible refine Ext.drew ?_) | (with_reducible refine Ext.drewN ?_ _) | (with_reducible refine Ext.alloc ?_ _) | (with_reducible assumption) | ((with_reducible refine Ext.setCell ?_ ?_ _); rotate_left; (first | exact Nat.le_refl _ | ((try dsimp only); (try simp only [World.size_alloc, grow_size, World.size_setCell]); omega)))))), hid (CapB.new W1 _ _), hid ((HO.out.ext HX1.out).ext (by repeat (first | (with_reducible exact Ext.refl _) | (with_reducible refine Ext.undrew ?_) | (with_reducible refine Ext.grow ?_ _) | (with_reducible refine Ext.drew ?_) | (with_reducible refine Ext.drewN ?_ _) | (with_reducible refine Ext.alloc ?_ _) | (with_reducible assumption) | ((with_reducible refine Ext.setCell ?_ ?_ _); rotate_left; (first | exact Nat.le_refl _ | ((try dsimp only); (try simp only [World.size_alloc, grow_size, World.size_setCell]); omega)))))), hid ((HXr.out.trans HX1.out).trans (by repeat (first | (with_reducible exact Ext.refl _) | (with_reducible refine Ext.undrew ?_) | (with_reducible refine Ext.grow ?_ _) | (with_reducible refine Ext.drew ?_) | (with_reducible refine Ext.drewN ?_ _) | (with_reducible refine Ext.alloc ?_ _) | (with_reducible assumption) | ((with_reducible refine Ext.setCell ?_ ?_ _); rotate_left; (first | exact Nat.le_refl _ | ((try dsimp only); (try simp only [World.size_alloc, grow_size, World.size_setCell]); omega))))))⟩ ?_
          clear HAr HO HXr HM1 HX1
          rintro W2 ⟨HS2, HC2, HO2, HX2⟩
          generalize W1.heap.size = xb at HC2 ⊢
          have d0 : World.cell? W2 ⟨xb, 0, none⟩ = some (.bool c.tag) := HC2.out.2 0 _ rfl
          have d1 : World.cell? W2 ⟨xb, 1, none⟩ = some (.int .i64 c.base) := HC2.out.2 1 _ rfl
          have d2 : World.cell? W2 ⟨xb, 2, none⟩ = some (.int .i64 c.top) := HC2.out.2 2 _ rfl
          have d3 : World.cell? W2 ⟨xb, 3, none⟩ = some (.int .i64 c.at_) := HC2.out.2 3 _ rfl
          have d4 : World.cell? W2 ⟨xb, 4, none⟩ = some (.int .i64 c.perms) := HC2.out.2 4 _ rfl
          have d5 : World.cell? W2 ⟨xb, 5, none⟩ = some (.int .i64 c.type) := HC2.out.2 5 _ rfl
          have dl := HC2.out.1
          cases hv with
          | true =>
            go_wp2_with (go_at_call 43; refine (hits_ p pq 64 P c.tag c.base c.top c.at_ c.perms c.type _ (HS2.out.h2) hcb).mono ?_; rw [HHV.out]; rintro e W3 ⟨rfl, hx3⟩)
            have HAr := hid (HS2.out.ext hx3)
            have HO3 := hid (HO2.out.ext hx3)
            have HX3 := hid (HX2.out.trans hx3)
            clear HS2 HC2 HO2 HX2 hx3 d0 d1 d2 d3 d4 d5 dl
            go_roundw
            case rel => exact ⟨k + 1, m, by omega, by go_num, hid ⟨by rw [take_filter_no HWX.out (by rw [HHA.out]; rfl)]; exact HLN.out.1, by have := HLN.out.2; omega⟩, hid (by
              rw [take_filter_no HWX.out (by rw [HHA.out]; rfl)]
              exact HO3.out), HAr, HX3⟩
            case measure => simp [intOf]; omega
          | false =>
            go_upto_region 18 with (go_at_call 43; refine (hits_ p pq 64 P c.tag c.base c.top c.at_ c.perms c.type _ (HS2.out.h2) hcb).mono ?_; rw [HHV.out]; rintro e W3 ⟨rfl, hx3⟩)
            have HAr := hid (HS2.out.ext hx3)
            have HO3 := hid (HO2.out.ext hx3)
            have HX3 := hid (HX2.out.trans hx3)
            have HR3 : Hid (RdN W3 (some ⟨b0, o0, none⟩) (wl.map (16 * ·))) := hid (HR11.out.ext HX3.out)
            clear HS2 HC2 HO2 HX2 hx3 d0 d1 d2 d3 d4 d5 dl
            obtain ⟨b9, o9, he9, hb0, hcc0⟩ := HR3.out (by rw [List.length_map, HNW.out]; omega)
            obtain ⟨rfl, rfl⟩ : b9 = b0 ∧ o9 = o0 := by cases he9; exact ⟨rfl, rfl⟩
            have c0 : World.cell? W3 ⟨b9, o9 + k, none⟩ = some (.int .i64 (16 * (x : Int))) := by
              have := hcc0 k (by rw [List.length_map, HNW.out]; exact hlt)
              rw [List.getElem_map] at this
              rw [this]
              have h9 := HWX.out
              rw [List.getElem?_eq_getElem (by rw [HNW.out]; exact hlt)] at h9
              rw [Option.some.inj h9]
              congr 2
            clear hcc0 he9 HR3
            have hmk : m ≤ 64 := by have := HLN.out.2; have := HK64.out; omega
            have HKE : Hid (((wl.take (k + 1)).filter fun t => !hitAt 64 P B T t) = ((wl.take k).filter fun t => !hitAt 64 P B T t) ++ [x]) := hid (take_filter_yes HWX.out (by rw [HHA.out]; rfl))
            go_wp2_with (at_builtin; refine wpList_plain rfl fun K hK => ?_; refine wp_append_at _ _ _ 52 rfl w11.heap.size 3 i0 _ 1 8 Try.underlying52 hi0 hz0 hz1 hz2 rfl (by decide) _ _ _ rfl (HO3.out.ext (Ext.alloc (Ext.refl _) _)) ⟨W3.heap.size, 0, none⟩ 1 1 [.int .i64 (16 * (x : Int))] rfl rfl (fun j u hj => by rw [Addr.add_lit]; exact (Row.new W3 #[.int .i64 (16 * (x : Int))] _).range j u hj) (fun u hu => by obtain rfl : u = _ := List.mem_singleton.1 hu; rfl) (by unfold maxLen; omega) (by omega) (by have := HX3.out.size; simp; omega) (by omega) ?_; intro v5 w5 hown5 hgrow5 hat5; refine hK _ _ ?_; clear hK K)
            have HO5 : Hid (ownsAt w5 w11.heap.size 3 1 v5 (m + 1) (ints (((wl.take (k + 1)).filter fun t => !hitAt 64 P B T t).map (16 * ·)))) := hid (by
              rw [HKE.out, List.map_append, ints_append]
              exact hown5)
            have HX5 : Hid (Ext W3 w5 ∨ True) := hid (.inr trivial)
            have HGR : Hid (Only (fun i => w11.heap.size ≤ i) W3 w5) := hid ((Only.ofExt (Ext.alloc (Ext.refl _) _)).trans (grownOnly (S := fun i => w11.heap.size ≤ i) hgrow5 (fun g e => (HO3.out.lt g e).1)) (fun i hi => .inl hi))
            have HX6 : Hid (Ext w11 w5) := hid (Ext.only HX3.out HGR.out (fun i hi => hi))
            have HA5 : Hid (SWB w w5 q g s p pq 4 64 B T D P false none 0 [] 0) := hid (by
              have e1 := HLT.out
              have e2 := HSZ.out
              have e3 := HAr.out.lo
              have e4 := HAr.out.h1.2.1
              have e5 := HW11.out.size
              exact HAr.out.other HGR.out ⟨by omega, by omega, by omega, by omega, by omega⟩ (.inl rfl) (fun i hi => by omega))
            clear hown5 hgrow5 hat5 HGR HX5
            go_roundw
            case rel => exact ⟨k + 1, m + 1, by omega, by go_num, hid ⟨by rw [HKE.out, List.length_append, HLN.out.1]; rfl, by have := HLN.out.2; omega⟩, HO5, HA5, HX6⟩
            case measure => simp [intOf]; omega
        · obtain rfl : kt = k := by omega
          have hk1 : ¬ (kt : Int) < (kt : Int) := by omega
          obtain ⟨A13, ca13, rfl, _, _⟩ := HO.out.shape
          go_upto_region 20 with (go_at_call 22; refine (begin2_ w _ q g s p pq 4 64 B T D P none 0 [] 0 HAr.out).mono ?_; rintro e w14 ⟨A14, ca14, rfl, HAry, HO14, HF14⟩)
          have HO14s := HO14
          have HO9 : Hid (ownsAt w14 w11.heap.size 3 1 (.slice A13 m ca13) m (ints (((wl.take kt).filter fun t => !hitAt 64 P B T t).map (16 * ·)))) := hid (HO.out.only HO14.out (fun b e => by have e1 := HLT.out; have e2 := HSZ.out; have e3 := (HO.out.lt b e).1; rintro (c | c) <;> omega))
          have HRL9 := hid ((HRL.out.ext HXr.out).only HO14.out (fun b o e => by cases e; have e1 := HLT.out; have e3 := HLB0.out.1; rintro (c | c) <;> omega))
          obtain ⟨LL, hLL⟩ : ∃ l, whichN D 4 = l := ⟨_, rfl⟩
          have HL4 : Hid (LL.length ≤ 4) := hid (by rw [← hLL]; exact whichN_len D 4)
          have HLL2 := hid hLL
          rw [hLL] at HAry
          clear hLL HAr HO HRL HO14 HF14 HO14s HXr
          have HA : Hid (SWB w w14 q g s p pq 4 64 B (stS 4 64 P B (T, D, 0) (LL.take 0)).1 (stS 4 64 P B (T, D, 0) (LL.take 0)).2.1 P true A14 ca14 (LL.drop 0) (stS 4 64 P B (T, D, 0) (LL.take 0)).2.2) := hid HAry.out
          have HC : Hid (0 ≤ LL.length ∧ (true = false → 0 = LL.length)) := hid ⟨Nat.zero_le _, fun e => by cases e⟩
          clear HAry
          go_upto_region 21 with (go_at_call 24; refine (stepAny_ w _ q g s p pq 4 64 B T D P true A14 ca14 0 LL 0 HA.out (by have := HC.out; omega) HC.out.2 (by have := HL4.out; omega) (by decide) 99).mono ?_; rintro e w15 ⟨c15, r15, A15, ca15, rfl, HA15, HO15, HC15, HD15⟩)
          obtain ⟨e1, e2⟩ : c15 = LL.length ∧ r15 = false := (by
            have h1 := HD15.out.2.1 (by first | rfl | trivial) (by omega) (by have := HL4.out; omega)
            exact ⟨h1, by rw [HD15.out.2.2 (by first | rfl | trivial) (by omega), h1]; simp⟩)
          subst e1 e2
          have HO10 : Hid (ownsAt w15 w11.heap.size 3 1 (.slice A13 m ca13) m (ints (((wl.take kt).filter fun t => !hitAt 64 P B T t).map (16 * ·)))) := hid (HO9.out.only HO15.out (fun b e => by have e1 := HLT.out; have e2 := HSZ.out; have e3 := (HO9.out.lt b e).1; rintro (c | c) <;> omega))
          have HRL10 := hid (HRL9.out.only HO15.out (fun b o e => by cases e; have e1 := HLT.out; have e3 := HLB0.out.1; rintro (c | c) <;> omega))
          have HA12 : Hid (SWB w w15 q g s p pq 4 64 B ((stS 4 64 P B (T, D, 0) LL)).1 ((stS 4 64 P B (T, D, 0) LL)).2.1 P false A15 ca15 [] ((stS 4 64 P B (T, D, 0) LL)).2.2) := hid (by
            have := HA15.out
            rw [List.take_length, List.drop_length] at this
            exact this)
          clear HA HC HA15 HO15 HC15 HD15 HO9 HRL9
          have HTOLD : Hid ((stS 4 64 P B (T, D, 0) LL).1 = swpR 64 P B T 0 64 ∧ (stS 4 64 P B (T, D, 0) LL).2.2 = 0 + cntR 64 P B T 0 64) := hid (by
            rw [← HLL2.out]
            exact stS_told 4 64 P B T D HINV.out 0 4)
          generalize (stS 4 64 P B (T, D, 0) LL) = zz at HA12 HTOLD
          obtain ⟨T9, D9, g9⟩ := zz
          have HA15 : Hid (SWB w w15 q g s p pq 4 64 B T9 D9 P false A15 ca15 [] g9) := hid HA12.out
          clear HA12
          obtain ⟨tl, htl⟩ : ∃ l, (((wl.take kt).filter fun t => !hitAt 64 P B T t).map (16 * ·)) = l := ⟨_, rfl⟩
          have HTL : Hid ((whichN T9 (16 * 4)).map (16 * ·) = tl) := hid (by
            rw [show T9 = _ from HTOLD.out.1, ← htl, List.take_of_length_le (Nat.le_of_eq HNW.out), ← HW0.out]
            congr 1
            exact told_left 64 P B T 64)
          have HNTL : Hid (tl.length = m) := hid (by rw [← htl, List.length_map]; exact HLN.out.1)
          have H4TL : Hid (m ≤ 64) := hid (by have := HLN.out.2; have := HK64.out; omega)
          have HRS : Hid (RdN w15 A13 tl) := hid (by
            have := HO10.out
            rw [htl] at this
            exact this.rdN HNTL.out)
          have HG9 : Hid ((g9 : Int) = (kt : Int) - (m : Int)) := hid (by
            have h1 := told_gone 64 P B T 64
            have h2 := HTOLD.out.2
            have h3 := HLN.out.1
            rw [List.take_of_length_le (Nat.le_of_eq HNW.out), ← HW0.out] at h3
            rw [HW0.out] at h1
            rw [HW0.out] at h3
            rw [h3, HNW.out] at h1
            have h4 : g9 = 0 + cntR 64 P B T 0 64 := h2
            omega)
          have hg9 := HG9.out
          have hb1 : (kt : Int) ≤ 64 := by have := HK64.out; omega
          have hb2 : (m : Int) ≤ 64 := by have := H4TL.out; omega
          clear htl HTOLD HO10 HG9
          go_upto_region 22 with (go_at_call 44; refine (hLoad w _ q g 4 B _ _ (HA15.out.h1) 0 1024 0 1024 (by decide) (by decide) (by decide)).mono ?_; rintro e W16 ⟨lb16, rfl, HR16, _, HX16, HF16⟩)
          rw [HLB.out] at HR16
          have HA16 := hid (HA15.out.ext HX16.out)
          have HRL16 := hid (HRL10.out.ext HX16.out)
          have HRS16 := hid (HRS.out.ext HX16.out)
          clear HA15 HRL10 HRS HX16
          have HA15 := HA16
          have HRL := HRL16
          have HRS := HRS16
          clear HA16 HRL16 HRS16
          have hs1 := fun W (HW : RdB W (some ⟨lb16, 0, none⟩) lB) => run_strN (P := Try.prog) W 39 9 5 Try.underlying39 Try.underlying5 Try.underlying9 (some ⟨lb16, 0, none⟩) 1024 lB 1024 HLL.out HW (by have := HLL.out; intro h; (try rw [h] at this); first | (cases this; done) | simp at this)
          have hs2 := fun W (HW : RdB W (some ⟨lb, 0, none⟩) lB) => run_strN (P := Try.prog) W 39 9 5 Try.underlying39 Try.underlying5 Try.underlying9 (some ⟨lb, 0, none⟩) 1024 lB 1024 HLL.out HW (by have := HLL.out; intro h; (try rw [h] at this); first | (cases this; done) | simp at this)
          have HS1 := hid hs1
          have HS2 := hid hs2
          clear hs1 hs2
          go_wp2_with (first | (go_at_call 33; with_reducible refine (hTags w _ q g 4 B T9 D9 (HA15.out.h1) tl m HTL.out HNTL.out).mono ?_; rintro e W20 ⟨B20, cb20, rfl, HR20, _, HX20, _⟩) | (go_at_call 32; with_reducible refine (tsame_ B20 A13 m cb20 ca13 tl _ HR20.out (HRS.out.ext HX20.out) HNTL.out.symm (by have := H4TL.out; omega)).mono ?_; rintro e W21 ⟨rfl, hX21⟩; have HX21 := hid (HX20.out.trans hX21); clear hX21; have hs1 := HS1.out W21 (HR16.out.ext HX21.out); have hs2 := HS2.out W21 (HRL.out.ext HX21.out)) | (go_at_call 30; with_reducible refine (swgone s q p _ _ _ _ _ _ (HA15.out.h3.ext HX21.out)).mono ?_; rintro e Wz ⟨rfl, rfl⟩))
          go_ret
          exact ⟨rfl, HA15.out.h1.2.1.trans HX21.out⟩
  · have hp2 : (200 : Int) < (ps1.length : Int) := by omega
    go_wp2_with (go_at_call 39; refine (great_ A0 cap0 zs0 _ wl0 (HSL.out.ext HX3.out)).mono ?_; rintro e w4 ⟨b, rfl, hx4, hgr⟩; rcases b with _ | _)
    all_goals
      go_ret
      exact ⟨rfl, HX3.out.trans hx4⟩
end sweepNoOther

end Go.Proofs.Ythamfkbopjagdaa
