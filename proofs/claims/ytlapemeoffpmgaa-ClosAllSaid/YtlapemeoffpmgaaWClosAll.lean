/- Layer 6: the walk of ClosAll. -/
import Derived.Test.YtlapemeoffpmgaaCloLw
namespace Go.Proofs.Ytlapemeoffpmgaa
set_option linter.unusedSimpArgs false
set_option linter.unusedVariables false
open Go.RowKit

theorem Row.putNew {w : World} {b : Nat} {vs us : List Value} (h : Row w b 0 vs) (hl : us.length = vs.length) : Row (w.setCells b 0 us) b 0 us := by
  refine ⟨?_, World.rangeAt_setCells_same w b 0 us (by rw [hl]; exact h.there), fun j hj => ?_⟩
  · have : ∀ (us : List Value) (o : Nat) (w : World), (w.setCells b o us).heap.size = w.heap.size := fun us => by
      induction us with
      | nil => intro o w; rfl
      | cons u us ih => intro o w; simp only [World.setCells]; rw [ih]; simp
    rw [this]; exact h.lt
  · rw [World.frozen?_setCells]; exact h.free j (by omega)
theorem wf8 {n : Int} (h : (Lit.int .u8 n).wf = true) : 0 ≤ n ∧ n ≤ 255 := by
  simpa [Lit.wf, IntKind.min, IntKind.max, IntKind.signed, IntKind.bits] using h
theorem there_newAt {w : World} {b : Nat} {cs : Array Value} {T : TypeId} {n : Nat} (hb : b = w.heap.size) (h : cs.size = n) : b < (w.alloc (.cells cs T)).heap.size ∧ (w.alloc (.cells cs T)).there b 0 n := by
  subst hb
  have h1 := Row.new w cs T
  refine ⟨h1.lt, ?_⟩
  have h2 := h1.there
  rw [Array.length_toList, h] at h2
  exact h2
theorem there_extA {w w' : World} {b n : Nat} (h : b < w.heap.size ∧ w.there b 0 n) (x : Ext w w') : b < w'.heap.size ∧ w'.there b 0 n := by
  refine ⟨Nat.lt_of_lt_of_le h.1 x.size, fun j hj => ?_⟩
  have := h.2 j hj
  rw [x.cells b _ h.1, x.frozens b _ h.1]
  exact this
theorem and4095 (n : Int) (h : (Lit.int .i64 n).wf = true) : 0 ≤ bits .and .i64 n 4095 ∧ bits .and .i64 n 4095 ≤ 4095 := by
  have hb : (BitVec.ofInt 64 n).toNat = (n % 18446744073709551616).toNat := by
    rw [BitVec.toNat_ofInt]; rfl
  have e : bits .and .i64 n 4095 = n % 4096 := by
    have := wf64 h
    show IntKind.i64.wrap ((BitVec.ofInt 64 n &&& BitVec.ofInt 64 4095).toNat : Int) = _
    rw [BitVec.toNat_and, hb, show (BitVec.ofInt 64 4095).toNat = 2 ^ 12 - 1 from by decide, Nat.and_two_pow_sub_one_eq_mod, IntKind.wrap_i64]
    omega
  rw [e]
  omega
theorem way_len (z : Wy) : z.cells.length = 4 := rfl
theorem hv_grant {l : List Cap} {g : Cap} (hg : g ∈ grantsC l) : hv l g = true := by
  unfold hv
  exact hasS_gr (grantsC_mem hg).2.2 (List.any_eq_true.2 ⟨g, hg, grB_iff.2 ⟨rfl, rfl, rfl, rfl, rfl⟩⟩)
namespace closAll
set_option linter.unusedSimpArgs false
set_option linter.unusedVariables false
set_option maxRecDepth 100000 in
set_option maxHeartbeats 8000000 in
theorem walk (A0 : Option Addr) (cap0 : Nat) (zs0 : List Cap) (A1 : Option Addr) (cap1 : Nat) (zs1 : List Wy) (w : World) (wl0 : zs0.length ≤ maxLen) (hs0 : SlAtN w A0 6 (zs0.map Cap.cells)) (wz0 : ∀ z ∈ zs0, wfC z) (wl1 : zs1.length ≤ maxLen) (hs1 : SlAtN w A1 4 (zs1.map Wy.cells)) (wz1 : ∀ z ∈ zs1, Wy.good z) :
    Calls Try.prog 5 #[.slice A0 zs0.length cap0, .slice A1 zs1.length cap1] w fun e w' => e = .returned (.bool true) ∧ Ext w w' := by
  have HA := hid (rdF_of cap_len (by decide) hs0)
  have HA1 := hid (rdF_of way_len (by decide) hs1)
  clear hs0 hs1
  obtain ⟨m, hm⟩ : ∃ x, zs0.length = x := ⟨_, rfl⟩
  obtain ⟨n, hn⟩ : ∃ x, zs1.length = x := ⟨_, rfl⟩
  rw [hm, hn]
  have HM := hid hm
  have HN := hid hn
  have HWZ := hid wz1
  clear hm hn wl0 wl1 wz0 wz1
  by_cases c0 : m = 0
  · have y0 : ((m : Int) == 0) = true := by rw [c0]; rfl
    clear c0
    go_enter Try.func5, Try.ntmps5
    go_upto_region 1 with (fail)
    refine wp_gen (fun V => Hid (Ext w V)) (hid (by repeat (first | (with_reducible exact Ext.refl _) | (with_reducible refine Ext.undrew ?_) | (with_reducible refine Ext.grow ?_ _) | (with_reducible refine Ext.drew ?_) | (with_reducible refine Ext.drewN ?_ _) | (with_reducible refine Ext.alloc ?_ _) | (with_reducible assumption) | ((with_reducible refine Ext.setCell ?_ ?_ _); rotate_left; (first | exact Nat.le_refl _ | ((try dsimp only); (try simp only [World.size_alloc, grow_size, World.size_setCell]); omega)))))) ?_
    rintro V HB
    go_wp2_with fail
    refine (head_ _).mono ?_
    rintro e W1 ⟨rfl, hx⟩
    go_wp2
    go_ret
    exact ⟨rfl, HB.out.trans hx⟩
  · have y0 : ((m : Int) == 0) = false := by rw [beq_eq_false_iff_ne]; omega
    have y1 : ¬ (m : Int) = 0 := by omega
    by_cases c1 : 20 < m
    · have y2 : (20 : Int) < (m : Int) := by omega
      go_enter Try.func5, Try.ntmps5
      go_upto_region 1 with (fail)
      refine wp_gen (fun V => Hid (Ext w V)) (hid (by repeat (first | (with_reducible exact Ext.refl _) | (with_reducible refine Ext.undrew ?_) | (with_reducible refine Ext.grow ?_ _) | (with_reducible refine Ext.drew ?_) | (with_reducible refine Ext.drewN ?_ _) | (with_reducible refine Ext.alloc ?_ _) | (with_reducible assumption) | ((with_reducible refine Ext.setCell ?_ ?_ _); rotate_left; (first | exact Nat.le_refl _ | ((try dsimp only); (try simp only [World.size_alloc, grow_size, World.size_setCell]); omega)))))) ?_
      rintro V HB
      go_wp2_with fail
      refine (head_ _).mono ?_
      rintro e W1 ⟨rfl, hx⟩
      go_wp2
      go_ret
      exact ⟨rfl, HB.out.trans hx⟩
    · have y2 : ¬ (20 : Int) < (m : Int) := by omega
      by_cases c2 : 60 < n
      · have y3 : (60 : Int) < (n : Int) := by omega
        go_enter Try.func5, Try.ntmps5
        go_upto_region 1 with (fail)
        refine wp_gen (fun V => Hid (Ext w V)) (hid (by repeat (first | (with_reducible exact Ext.refl _) | (with_reducible refine Ext.undrew ?_) | (with_reducible refine Ext.grow ?_ _) | (with_reducible refine Ext.drew ?_) | (with_reducible refine Ext.drewN ?_ _) | (with_reducible refine Ext.alloc ?_ _) | (with_reducible assumption) | ((with_reducible refine Ext.setCell ?_ ?_ _); rotate_left; (first | exact Nat.le_refl _ | ((try dsimp only); (try simp only [World.size_alloc, grow_size, World.size_setCell]); omega)))))) ?_
        rintro V HB
        go_wp2_with fail
        refine (head_ _).mono ?_
        rintro e W1 ⟨rfl, hx⟩
        go_wp2
        go_ret
        exact ⟨rfl, HB.out.trans hx⟩
      · have y3 : ¬ (60 : Int) < (n : Int) := by omega
        go_enter Try.func5, Try.ntmps5
        go_upto_region 1 with (fail)
        refine wp_gen (fun V => Hid (Ext w V)) (hid (by repeat (first | (with_reducible exact Ext.refl _) | (with_reducible refine Ext.undrew ?_) | (with_reducible refine Ext.grow ?_ _) | (with_reducible refine Ext.drew ?_) | (with_reducible refine Ext.drewN ?_ _) | (with_reducible refine Ext.alloc ?_ _) | (with_reducible assumption) | ((with_reducible refine Ext.setCell ?_ ?_ _); rotate_left; (first | exact Nat.le_refl _ | ((try dsimp only); (try simp only [World.size_alloc, grow_size, World.size_setCell]); omega)))))) ?_
        rintro V HB
        go_wp2_with fail
        refine (head_ _).mono ?_
        rintro e W1 ⟨rfl, hx1⟩
        go_wp2_with fail
        refine (sNew A0 m cap0 zs0 _ (HA.out.ext (HB.out.trans hx1)) HM.out (by omega)).mono ?_
        rintro e W2 ⟨s, out, rfl, HS, HG, hx2⟩
        have HE2 := hid (hx1.trans hx2)
        clear hx1 hx2
        have HG2 := HG
        clear HG HG2
        go_wp2
        go_loopw [7, 8] (fun v i wr => ∃ k : Nat, k ≤ m ∧ i = .int .i64 k ∧ Hid (ownsAt wr W2.heap.size 24 6 v (grantsC (zs0.take k)).length (rowF Cap.cells (grantsC (zs0.take k)))) ∧ Hid (Ext W2 wr)) (fun _ i _ => m - (intOf i).toNat)
        case atStart => exact ⟨0, Nat.zero_le _, rfl, hid (ownsAt_nil _ _ _ _), hid (Ext.refl _)⟩
        case round =>
          obtain ⟨k, hk, rfl, HO, HX⟩ := hrel
          obtain ⟨Av, cv, rfl, _, _⟩ := HO.out.shape
          have hk0 : (0 : Int) ≤ (k : Int) := by omega
          have hgl := grantsC_len (zs0.take k)
          rw [List.length_take] at hgl
          by_cases hlt : k < m
          · have hk1 : (k : Int) < (m : Int) := by omega
            have hkl : k < zs0.length := by rw [HM.out]; exact hlt
            obtain ⟨d, hd⟩ : ∃ d, zs0[k] = d := ⟨_, rfl⟩
            have HT0 := hid (show grantsC (zs0.take (k + 1)) = if (d.tag && rightC d) = true then (grantsC (zs0.take k)) ++ [d] else (grantsC (zs0.take k)) by rw [List.take_succ_eq_append_getElem hkl, hd]; exact grantsC_snoc _ d)
            obtain ⟨b', o', rfl, hb1', q0, q1, q2, q3, q4, q5⟩ := (HA.out.ext (HB.out.trans (HE2.out.trans HX.out))).cap hkl d hd
            clear hd
            cases hdt : d.tag with
            | false =>
              have HT := hid (show grantsC (zs0.take (k + 1)) = (grantsC (zs0.take k)) by rw [HT0.out, hdt]; rfl)
              rw [hdt] at q0
              go_wp2_with fail
              go_roundw
              case rel => exact ⟨k + 1, by omega, by go_num, by rw [HT.out]; exact hid (HO.out.ext (by repeat (first | (with_reducible exact Ext.refl _) | (with_reducible refine Ext.undrew ?_) | (with_reducible refine Ext.grow ?_ _) | (with_reducible refine Ext.drew ?_) | (with_reducible refine Ext.drewN ?_ _) | (with_reducible refine Ext.alloc ?_ _) | (with_reducible assumption) | ((with_reducible refine Ext.setCell ?_ ?_ _); rotate_left; (first | exact Nat.le_refl _ | ((try dsimp only); (try simp only [World.size_alloc, grow_size, World.size_setCell]); omega)))))), hid (HX.out.trans (by repeat (first | (with_reducible exact Ext.refl _) | (with_reducible refine Ext.undrew ?_) | (with_reducible refine Ext.grow ?_ _) | (with_reducible refine Ext.drew ?_) | (with_reducible refine Ext.drewN ?_ _) | (with_reducible refine Ext.alloc ?_ _) | (with_reducible assumption) | ((with_reducible refine Ext.setCell ?_ ?_ _); rotate_left; (first | exact Nat.le_refl _ | ((try dsimp only); (try simp only [World.size_alloc, grow_size, World.size_setCell]); omega))))))⟩
              case measure => simp [intOf]; omega
            | true =>
              have HRI : Hid (∀ W, Calls Try.prog 22 #[.agg #[.bool true, .int .i64 d.base, .int .i64 d.top, .int .i64 d.at_, .int .i64 d.perms, .int .i64 d.type]] W fun e w' => e = .returned (.bool (rightC d)) ∧ Ext W w') := hid (fun W => by
                have h9 := rcapRight d.tag d.base d.top d.at_ d.perms d.type W
                rw [hdt] at h9
                have e9 : (Cap.mk true d.base d.top d.at_ d.perms d.type) = d := by rw [← hdt]
                rw [e9] at h9
                exact h9)
              cases hdr : rightC d with
              | false =>
                have HT := hid (show grantsC (zs0.take (k + 1)) = (grantsC (zs0.take k)) by rw [HT0.out, hdt, hdr]; rfl)
                rw [hdr] at HRI
                rw [hdt] at q0
                go_wp2_with fail
                refine (HRI.out _).mono ?_
                rintro e W3 ⟨rfl, hx⟩
                have HX3 := hid hx
                clear hx hdr
                go_wp2
                go_roundw
                case rel => exact ⟨k + 1, by omega, by go_num, by rw [HT.out]; exact hid (HO.out.ext HX3.out), hid (HX.out.trans HX3.out)⟩
                case measure => simp [intOf]; omega
              | true =>
                have HT := hid (show grantsC (zs0.take (k + 1)) = (grantsC (zs0.take k)) ++ [(Cap.mk true d.base d.top d.at_ d.perms d.type)] by rw [HT0.out, if_pos (show (d.tag && rightC d) = true by rw [hdt, hdr]; rfl), show (Cap.mk true d.base d.top d.at_ d.perms d.type) = d by rw [← hdt]])
                rw [hdr] at HRI
                rw [hdt] at q0
                go_wp2_with fail
                refine (HRI.out _).mono ?_
                rintro e W3 ⟨rfl, hx⟩
                have HX3 := hid hx
                have s0 := (hx.cells b' _ hb1').trans q0
                have s1 := (hx.cells b' _ hb1').trans q1
                have s2 := (hx.cells b' _ hb1').trans q2
                have s3 := (hx.cells b' _ hb1').trans q3
                have s4 := (hx.cells b' _ hb1').trans q4
                have s5 := (hx.cells b' _ hb1').trans q5
                have hb3 := Nat.lt_of_lt_of_le hb1' hx.size
                clear hx hdr q0 q1 q2 q3 q4 q5 HRI
                have hsz3 := HX3.out.size
                have hsz2 := HX.out.size
                go_wp2_with (at_builtin; refine wpList_plain rfl fun K hK => ?_; go_loud (refine wp_app_row cap_len (by decide) cap_one Try.underlying22 info_capN _ _ rfl W2.heap.size (.slice Av (grantsC (zs0.take k)).length cv) (grantsC (zs0.take k)).length (rowF Cap.cells (grantsC (zs0.take k))) rfl (HO.out.ext (HX3.out.trans (Ext.alloc (Ext.refl _) _))) (some ⟨W3.heap.size, 0, none⟩) 1 1 [(Cap.mk true d.base d.top d.at_ d.perms d.type)] rfl rfl (rdF_row0 (f := Cap.cells) (z := (Cap.mk true d.base d.top d.at_ d.perms d.type)) (Row.new W3 #[.bool true, .int .i64 d.base, .int .i64 d.top, .int .i64 d.at_, .int .i64 d.perms, .int .i64 d.type] 24)) (by unfold maxLen; omega) (by omega) (by simp; omega) ?_); intro v7 W7 hown hgrow hat; obtain ⟨A7, c7, rfl, _, _⟩ := hown.shape; refine hK _ _ ?_; clear hK K)
                have HO5 : Hid (ownsAt W7 W2.heap.size 24 6 (.slice A7 ((grantsC (zs0.take k)).length + 1) c7) (grantsC (zs0.take (k + 1))).length (rowF Cap.cells (grantsC (zs0.take (k + 1))))) := hid (by
                  rw [HT.out, rowF_append, List.length_append]
                  exact hown)
                have HE5 : Hid (Ext W2 W7) := hid (Ext.only ((HX.out.trans HX3.out).trans (Ext.alloc (Ext.refl _) _)) (grownOnly (S := fun i => W2.heap.size ≤ i) hgrow (fun g e => (HO.out.lt g e).1)) (fun i hi => hi))
                clear hown hgrow hat
                go_roundw
                case rel => exact ⟨k + 1, by omega, by go_num, HO5, HE5⟩
                case measure => simp [intOf]; omega
          · obtain rfl : m = k := by omega
            have hk1 : ¬ (m : Int) < (m : Int) := by omega
            rw [show zs0.take m = zs0 from List.take_of_length_le (by rw [HM.out]; exact Nat.le_refl _)] at HO ⊢
            clear hgl
            have HGL := hid (show (grantsC zs0).length ≤ 20 by have := grantsC_len zs0; have := HM.out; omega)
            have HGV := hid (show ∀ x ∈ grantsC zs0, hv zs0 x = true from fun x hx => hv_grant hx)
            generalize grantsC zs0 = AL0 at HO HGL HGV ⊢
            obtain ⟨la0, hla0⟩ : ∃ x, AL0.length = x := ⟨_, rfl⟩
            rw [hla0] at HO HGL ⊢
            have HLA0 := hid hla0
            clear hla0
            by_cases h0 : la0 = 0
            · have z1 : ((la0 : Int) == 0) = true := by rw [h0]; rfl
              clear h0
              go_wp2
              go_ret
              exact ⟨rfl, HB.out.trans (HE2.out.trans HX.out)⟩
            · have z1 : ((la0 : Int) == 0) = false := by rw [beq_eq_false_iff_ne]; omega
              have z2 : ¬ (la0 : Int) = 0 := by omega
              go_wp2
              go_loopw [7, 9] (fun v i wr => ∃ (k : Nat) (AL : List Cap) (la : Nat), k ≤ n ∧ i = .int .i64 k ∧ Hid (AL.length = la) ∧ Hid (0 < la ∧ la ≤ 20 + k) ∧ Hid (∀ x ∈ AL, hv zs0 x = true) ∧ Hid (∃ A c, v = .slice A la c ∧ ownsAt wr W2.heap.size 24 6 (.slice A la c) la (rowF Cap.cells AL)) ∧ Hid (Ext W2 wr)) (fun _ i _ => n - (intOf i).toNat)
              case atStart => exact ⟨0, AL0, la0, Nat.zero_le _, rfl, HLA0, hid (by have := HGL.out; omega), HGV, hid ⟨_, _, rfl, HO.out⟩, HX⟩
              case round =>
                clear HO HX HGL HGV HLA0 z1 z2 h0
                obtain ⟨k, AL, la, hk, rfl, HLA, HLB, HAV, HO, HX⟩ := hrel
                obtain ⟨Av, cv, rfl, hO⟩ := HO.out
                have HO := hid hO
                clear hO
                have hk0 : (0 : Int) ≤ (k : Int) := by omega
                by_cases hlt : k < n
                · have hk1 : (k : Int) < (n : Int) := by omega
                  have hkl : k < zs1.length := by rw [HN.out]; exact hlt
                  obtain ⟨z, hz⟩ : ∃ z, zs1[k] = z := ⟨_, rfl⟩
                  obtain ⟨g1, g2, g3, g4⟩ := HWZ.out z (by rw [← hz]; exact List.getElem_mem hkl)
                  have hla1 : 0 < la := HLB.out.1
                  have hla2 : la ≤ 80 := by have := HLB.out.2; omega
                  obtain ⟨bz, oz, rfl, hbz, hrg⟩ := (HA1.out.ext (HB.out.trans (HE2.out.trans HX.out))).elem way_len hkl z hz
                  have s0 := hrg 0 _ rfl
                  have s1 := hrg 1 _ rfl
                  have s2 := hrg 2 _ rfl
                  have s3 := hrg 3 _ rfl
                  simp only [Nat.add_zero] at s0
                  clear hrg hz
                  have a1 := and4095 z.a g1
                  have a2 := and4095 z.b g2
                  obtain ⟨xa, hxa⟩ : ∃ x, bits .and .i64 z.a 4095 = x := ⟨_, rfl⟩
                  obtain ⟨xb, hxb⟩ : ∃ x, bits .and .i64 z.b 4095 = x := ⟨_, rfl⟩
                  rw [hxa] at a1
                  rw [hxb] at a2
                  obtain ⟨j1, hj1⟩ : ∃ j : Nat, xa.tmod (la : Int) = (j : Int) := ⟨(xa.tmod la).toNat, by rw [Int.tmod_eq_emod_of_nonneg a1.1]; have := Int.emod_nonneg xa (show (la : Int) ≠ 0 by omega); omega⟩
                  obtain ⟨j2, hj2⟩ : ∃ j : Nat, xb.tmod (la : Int) = (j : Int) := ⟨(xb.tmod la).toNat, by rw [Int.tmod_eq_emod_of_nonneg a2.1]; have := Int.emod_nonneg xb (show (la : Int) ≠ 0 by omega); omega⟩
                  have hl1 : j1 < la := by have h9 := hj1; rw [Int.tmod_eq_emod_of_nonneg a1.1] at h9; have := Int.emod_lt_of_pos xa (show (0 : Int) < la by omega); omega
                  have hl2 : j2 < la := by have h9 := hj2; rw [Int.tmod_eq_emod_of_nonneg a2.1] at h9; have := Int.emod_lt_of_pos xb (show (0 : Int) < la by omega); omega
                  have n1 : (0 : Int) ≤ (j1 : Int) := by omega
                  have n2 : (0 : Int) ≤ (j2 : Int) := by omega
                  have n3 : (j1 : Int) < (la : Int) := by omega
                  have n4 : (j2 : Int) < (la : Int) := by omega
                  have n5 : ¬ (la : Int) = 0 := by omega
                  have n6 : ((la : Int) == 0) = false := by rw [beq_eq_false_iff_ne]; exact n5
                  obtain ⟨c, hc⟩ : ∃ c, AL[j1]'(by rw [HLA.out]; exact hl1) = c := ⟨_, rfl⟩
                  obtain ⟨e1, he1⟩ : ∃ c, AL[j2]'(by rw [HLA.out]; exact hl2) = c := ⟨_, rfl⟩
                  have hvc := HAV.out c (by rw [← hc]; exact List.getElem_mem _)
                  have hvd := HAV.out e1 (by rw [← he1]; exact List.getElem_mem _)
                  have HXV := hid (hv_made hvc hvd z.n (z.what.tmod 8) (wf64 g3).1 (wf64 g3).2)
                  have HMD := hid (show ∀ W, Calls Try.prog 21 #[.agg #[.bool c.tag, .int .i64 c.base, .int .i64 c.top, .int .i64 c.at_, .int .i64 c.perms, .int .i64 c.type], .agg #[.bool e1.tag, .int .i64 e1.base, .int .i64 e1.top, .int .i64 e1.at_, .int .i64 e1.perms, .int .i64 e1.type], .int .i64 z.n, .int .u8 z.what] W fun e w' => e = .returned (.agg #[.bool (madeV c e1 z.n (z.what.tmod 8)).tag, .int .i64 (madeV c e1 z.n (z.what.tmod 8)).base, .int .i64 (madeV c e1 z.n (z.what.tmod 8)).top, .int .i64 (madeV c e1 z.n (z.what.tmod 8)).at_, .int .i64 (madeV c e1 z.n (z.what.tmod 8)).perms, .int .i64 (madeV c e1 z.n (z.what.tmod 8)).type]) ∧ Ext W w' from fun W => (made_ c.tag c.base c.top c.at_ c.perms c.type e1.tag e1.base e1.top e1.at_ e1.perms e1.type z.n z.what (wf8 g4).1 W).mono fun e w' ⟨y, h1, h2, h3⟩ => ⟨by rw [h1, h2], h3⟩)
                  generalize madeV c e1 z.n (z.what.tmod 8) = x at HXV HMD
                  obtain ⟨bA, oA, rfl, hbA, p0, p1, p2, p3, p4, p5⟩ := (HO.out.rdF HLA.out).cap (k := j1) (by rw [HLA.out]; exact hl1) c hc
                  obtain ⟨bB, oB, eB, hbB, r0, r1, r2, r3, r4, r5⟩ := (HO.out.rdF HLA.out).cap (k := j2) (by rw [HLA.out]; exact hl2) e1 he1
                  simp only [Option.some.injEq, Addr.mk.injEq, and_true] at eB
                  obtain ⟨rfl, rfl⟩ := eB
                  clear hc he1 hvc hvd g1 g2 g3 g4 a1 a2 hbB
                  go_upto_region 20 with (fail)
                  refine wp_gen (fun W => Hid (Ext wr W) ∧ Hid (Row W wr.heap.size 0 (Cap.cells (Cap.mk c.tag c.base c.top c.at_ c.perms c.type))) ∧ Hid (Row W (wr.heap.size + 1) 0 (Cap.cells (Cap.mk e1.tag e1.base e1.top e1.at_ e1.perms e1.type)))) ⟨hid (by repeat (first | (with_reducible exact Ext.refl _) | (with_reducible refine Ext.undrew ?_) | (with_reducible refine Ext.grow ?_ _) | (with_reducible refine Ext.drew ?_) | (with_reducible refine Ext.drewN ?_ _) | (with_reducible refine Ext.alloc ?_ _) | (with_reducible assumption) | ((with_reducible refine Ext.setCell ?_ ?_ _); rotate_left; (first | exact Nat.le_refl _ | ((try dsimp only); (try simp only [World.size_alloc, grow_size, World.size_setCell]); omega))))), hid ((Row.new wr #[.bool c.tag, .int .i64 c.base, .int .i64 c.top, .int .i64 c.at_, .int .i64 c.perms, .int .i64 c.type] 24).ext (Ext.alloc (Ext.refl _) (.cells #[.bool e1.tag, .int .i64 e1.base, .int .i64 e1.top, .int .i64 e1.at_, .int .i64 e1.perms, .int .i64 e1.type] 24))), hid (by have h9 := Row.new (wr.alloc (.cells #[.bool c.tag, .int .i64 c.base, .int .i64 c.top, .int .i64 c.at_, .int .i64 c.perms, .int .i64 c.type] 24)) #[.bool e1.tag, .int .i64 e1.base, .int .i64 e1.top, .int .i64 e1.at_, .int .i64 e1.perms, .int .i64 e1.type] 24; rw [World.size_alloc] at h9; exact h9)⟩ ?_
                  rintro W5 ⟨HX5r, HRc, HRd⟩
                  have HX5 := hid (HX.out.trans HX5r.out)
                  have HO5 := hid (HO.out.ext HX5r.out)
                  replace s0 := (HX5r.out.cells bz _ hbz).trans s0
                  replace s1 := (HX5r.out.cells bz _ hbz).trans s1
                  replace s2 := (HX5r.out.cells bz _ hbz).trans s2
                  replace s3 := (HX5r.out.cells bz _ hbz).trans s3
                  replace hbz := Nat.lt_of_lt_of_le hbz HX5r.out.size
                  clear p0 p1 p2 p3 p4 p5 r0 r1 r2 r3 r4 r5 hbA HX5r HO HX n1 n2 n3 n4 n5 n6 hj1 hj2 hl1 hl2 hxa hxb
                  generalize wr.heap.size = x10 at HRc HRd ⊢
                  refine wp_region_step (.rd 0 (.rd 1 (.rd 2 (.rd 3 (.rd 4 (.rd 5 (.rd 6 (.rd 7 (.rd 8 (.rd 9 (.rd 10 (.rd 11 (.br 12 (.ac 13 (.ac 14 .done)) 13 (.ac 12 (.ac 14 .done))))))))))))))) (by kernel_rfl) (by kernel_rfl) (fun _ _ d _ _ h => by cases d <;> exact h) (by simp only [Ord.map, nthOp, List.append]; rfl) ?_
                  intro d0
                  have HU0 := hid (Ext.grow (Ext.refl W5) d0)
                  generalize Go.Proofs.Ytlapemeoffpmgaa.grow W5 d0 = U0 at HU0 ⊢
                  obtain ⟨p0, p1, p2, p3, p4, p5, p6⟩ := Row.six (c := (Cap.mk c.tag c.base c.top c.at_ c.perms c.type)) (HRc.out.ext HU0.out)
                  simp only [Nat.zero_add] at p2 p3 p4 p5 p6
                  obtain ⟨r0, r1, r2, r3, r4, r5, r6⟩ := Row.six (c := (Cap.mk e1.tag e1.base e1.top e1.at_ e1.perms e1.type)) (HRd.out.ext HU0.out)
                  simp only [Nat.zero_add] at r2 r3 r4 r5 r6
                  have zl := Nat.lt_of_lt_of_le hbz HU0.out.size
                  have z0 := (HU0.out.cells bz _ hbz).trans s0
                  have z1 := (HU0.out.cells bz _ hbz).trans s1
                  have z2 := (HU0.out.cells bz _ hbz).trans s2
                  have z3 := (HU0.out.cells bz _ hbz).trans s3
                  refine step_read (by rfl) (fun K hK => ?_)
                  go_big_quiet_op
                  refine hK _ ?_
                  clear hK K
                  refine step_read (by rfl) (fun K hK => ?_)
                  go_big_quiet_op
                  refine hK _ ?_
                  clear hK K
                  refine step_read (by rfl) (fun K hK => ?_)
                  go_big_quiet_op
                  refine hK _ ?_
                  clear hK K
                  refine step_read (by rfl) (fun K hK => ?_)
                  go_big_quiet_op
                  refine hK _ ?_
                  clear hK K
                  refine step_read (by rfl) (fun K hK => ?_)
                  go_big_quiet_op
                  refine hK _ ?_
                  clear hK K
                  refine step_read (by rfl) (fun K hK => ?_)
                  go_big_quiet_op
                  refine hK _ ?_
                  clear hK K
                  refine step_read (by rfl) (fun K hK => ?_)
                  go_big_quiet_op
                  refine hK _ ?_
                  clear hK K
                  refine step_read (by rfl) (fun K hK => ?_)
                  go_big_quiet_op
                  refine hK _ ?_
                  clear hK K
                  refine step_read (by rfl) (fun K hK => ?_)
                  go_big_quiet_op
                  refine hK _ ?_
                  clear hK K
                  refine step_read (by rfl) (fun K hK => ?_)
                  go_big_quiet_op
                  refine hK _ ?_
                  clear hK K
                  refine step_read (by rfl) (fun K hK => ?_)
                  go_big_quiet_op
                  refine hK _ ?_
                  clear hK K
                  refine step_read (by rfl) (fun K hK => ?_)
                  go_big_quiet_op
                  refine hK _ ?_
                  clear hK K
                  refine step_br ?_ ?_
                  · refine step_act (by rfl) (fun K hK => ?_)
                    go_wp2_with (go_at_call 21; refine (HMD.out _).mono ?_; rintro e U1 ⟨rfl, hx⟩)
                    refine ⟨_, Ext.refl _, hx, ?_⟩
                    refine step_act (by rfl) (fun K hK => ?_)
                    go_wp2_with fail
                    refine ⟨_, Ext.refl _, hx.trans (Ext.alloc (Ext.refl _) _), ?_⟩
                    have HRz := hid (Row.new U1 #[.bool false, .int .i64 0, .int .i64 0, .int .i64 0, .int .i64 0, .int .i64 0] 24)
                    have HEz := hid (hx.trans (Ext.alloc (Ext.refl U1) (.cells #[.bool false, .int .i64 0, .int .i64 0, .int .i64 0, .int .i64 0, .int .i64 0] 24)))
                    have hsz := hx.size
                    refine step_act (by rfl) (fun K hK => ?_)
                    refine wp_store_mid 24 (.tmp 12) (.tmp 105) rfl U1.heap.size 0 #[.bool x.tag, .int .i64 x.base, .int .i64 x.top, .int .i64 x.at_, .int .i64 x.perms, .int .i64 x.type] rfl rfl HRz.out.there (by kernel_rfl) (by simp [Value.oneCell']) ?_
                    refine hK _ _ ⟨_, Ext.refl _, ((Only.setCells (S := fun _ => False) (b := U1.heap.size) (.inr (by omega)) (Cap.cells (Cap.mk x.tag x.base x.top x.at_ x.perms x.type)) 0 (Only.ofExt HEz.out)).ext (fun _ h => h.elim)), ?_⟩
                    clear hK K
                    refine step_nil ?_
                    have HXx := hid (HU0.out.trans ((Only.setCells (S := fun _ => False) (b := U1.heap.size) (.inr (by omega)) (Cap.cells (Cap.mk x.tag x.base x.top x.at_ x.perms x.type)) 0 (Only.ofExt HEz.out)).ext (fun _ h => h.elim)))
                    have HRx : Hid (Row (World.setCells (U1.alloc (.cells #[.bool false, .int .i64 0, .int .i64 0, .int .i64 0, .int .i64 0, .int .i64 0] 24)) U1.heap.size 0 (Cap.cells (Cap.mk x.tag x.base x.top x.at_ x.perms x.type))) U1.heap.size 0 (Cap.cells (Cap.mk x.tag x.base x.top x.at_ x.perms x.type))) := hid (Row.putNew HRz.out rfl)
                    clear hx HRz HEz hsz HU0 HMD
                    generalize U1.heap.size = bx at HRx HXx ⊢
                    clear p0 p1 p2 p3 p4 p5 p6 r0 r1 r2 r3 r4 r5 r6
                    go_upto_region 21 with (fail)
                    refine wp_gen (fun W => Hid (Ext W5 W) ∧ Hid (Row W bx 0 (Cap.cells (Cap.mk x.tag x.base x.top x.at_ x.perms x.type)))) ⟨HXx, HRx⟩ ?_
                    clear HXx HRx
                    rintro W6 ⟨HX6, HR6⟩
                    obtain ⟨p0, p1, p2, p3, p4, p5, p6⟩ := Row.six (c := (Cap.mk x.tag x.base x.top x.at_ x.perms x.type)) (HR6.out)
                    simp only [Nat.zero_add] at p2 p3 p4 p5 p6
                    go_wp2_with fail
                    refine (sHas x.tag x.base x.top x.at_ x.perms x.type _ (HS.out.ext (HX5.out.trans HX6.out))).mono ?_
                    rintro e W8 ⟨he, hx⟩
                    have HXV' : hv zs0 (Cap.mk x.tag x.base x.top x.at_ x.perms x.type) = true := HXV.out
                    rw [HXV'] at he
                    subst he
                    have HX8 := hid (HX5.out.trans (HX6.out.trans hx))
                    have HR8 := hid (HR6.out.ext hx)
                    have HO8 := hid (HO5.out.ext (HX6.out.trans hx))
                    clear hx HXV' HO5 HX6 HR6 HX5
                    clear p0 p1 p2 p3 p4 p5 p6
                    cases hxt : x.tag with
                    | false =>
                      rw [show (Cap.mk x.tag x.base x.top x.at_ x.perms x.type) = (Cap.mk false x.base x.top x.at_ x.perms x.type) by rw [← hxt]] at HR8
                      obtain ⟨p0, p1, p2, p3, p4, p5, p6⟩ := Row.six (c := (Cap.mk false x.base x.top x.at_ x.perms x.type)) (HR8.out)
                      simp only [Nat.zero_add] at p2 p3 p4 p5 p6
                      go_wp2
                      go_roundw
                      case rel => exact ⟨k + 1, AL, la, by omega, by go_num, HLA, hid (by have := HLB.out; omega), HAV, hid ⟨_, _, rfl, HO8.out⟩, HX8⟩
                      case measure => simp [intOf]; omega
                    | true =>
                      rw [show (Cap.mk x.tag x.base x.top x.at_ x.perms x.type) = (Cap.mk true x.base x.top x.at_ x.perms x.type) by rw [← hxt]] at HR8
                      have HXT := hid hxt
                      have HLs := hid (show zs0.any (fun g : Cap => g.tag && (rightC g && underC (Cap.mk x.tag x.base x.top x.at_ x.perms x.type) g)) = true from hv_less HXV.out hxt)
                      clear hxt
                      obtain ⟨p0, p1, p2, p3, p4, p5, p6⟩ := Row.six (c := (Cap.mk true x.base x.top x.at_ x.perms x.type)) (HR8.out)
                      simp only [Nat.zero_add] at p2 p3 p4 p5 p6
                      go_wp2
                      go_loopw [13, 14] (fun b i wr => ∃ j : Nat, j ≤ m ∧ i = .int .i64 j ∧ b = .bool ((zs0.take j).any (fun g : Cap => g.tag && (rightC g && underC (Cap.mk x.tag x.base x.top x.at_ x.perms x.type) g))) ∧ Hid (Ext W8 wr)) (fun _ i _ => m - (intOf i).toNat)
                      case atStart => exact ⟨0, Nat.zero_le _, rfl, rfl, hid (Ext.refl _)⟩
                      case round =>
                        obtain ⟨j, hj, rfl, rfl, HXj⟩ := hrel
                        have hj0 : (0 : Int) ≤ (j : Int) := by omega
                        obtain ⟨p0, p1, p2, p3, p4, p5, p6⟩ := Row.six (c := (Cap.mk true x.base x.top x.at_ x.perms x.type)) (HR8.out.ext HXj.out)
                        simp only [Nat.zero_add] at p2 p3 p4 p5 p6
                        by_cases hltj : j < m
                        · have hj1 : (j : Int) < (m : Int) := by omega
                          have hjl : j < zs0.length := by rw [HM.out]; exact hltj
                          obtain ⟨d, hd⟩ : ∃ d, zs0[j] = d := ⟨_, rfl⟩
                          have HV := hid (show (zs0.take (j + 1)).any (fun g : Cap => g.tag && (rightC g && underC (Cap.mk x.tag x.base x.top x.at_ x.perms x.type) g)) = ((zs0.take j).any (fun g : Cap => g.tag && (rightC g && underC (Cap.mk x.tag x.base x.top x.at_ x.perms x.type) g)) || (d.tag && (rightC d && underC (Cap.mk x.tag x.base x.top x.at_ x.perms x.type) d))) by rw [List.take_succ_eq_append_getElem hjl, List.any_append, hd]; simp)
                          generalize (zs0.take j).any (fun g : Cap => g.tag && (rightC g && underC (Cap.mk x.tag x.base x.top x.at_ x.perms x.type) g)) = v at HV ⊢
                          obtain ⟨b', o', rfl, hb1', q0, q1, q2, q3, q4, q5⟩ := (HA.out.ext (HB.out.trans (HE2.out.trans (HX8.out.trans HXj.out)))).cap hjl d hd
                          clear hd
                          cases v with
                          | true =>
                            go_upto_region 28 with (fail)
                            refine wp_region_grow (by kernel_rfl) (by kernel_rfl) (by first | (simp only [List.append]; rfl) | rfl) ?_
                            (repeat (go_big_quiet_step (fail)))
                            refine wpQuiet_nil ?_
                            intro wq hq
                            obtain ⟨dq, rfl⟩ := hq
                            go_wp2
                            go_roundw
                            case rel => exact ⟨j + 1, by omega, by go_num, by rw [HV.out]; rfl, hid (HXj.out.trans (by repeat (first | (with_reducible exact Ext.refl _) | (with_reducible refine Ext.undrew ?_) | (with_reducible refine Ext.grow ?_ _) | (with_reducible refine Ext.drew ?_) | (with_reducible refine Ext.drewN ?_ _) | (with_reducible refine Ext.alloc ?_ _) | (with_reducible assumption) | ((with_reducible refine Ext.setCell ?_ ?_ _); rotate_left; (first | exact Nat.le_refl _ | ((try dsimp only); (try simp only [World.size_alloc, grow_size, World.size_setCell]); omega))))))⟩
                            case measure => simp [intOf]; omega
                          | false =>
                            cases hdt : d.tag with
                            | false =>
                              rw [hdt] at q0 HV
                              go_upto_region 28 with (fail)
                              refine wp_region_grow (by kernel_rfl) (by kernel_rfl) (by first | (simp only [List.append]; rfl) | rfl) ?_
                              (repeat (go_big_quiet_step (fail)))
                              refine wpQuiet_nil ?_
                              intro wq hq
                              obtain ⟨dq, rfl⟩ := hq
                              go_wp2
                              go_roundw
                              case rel => exact ⟨j + 1, by omega, by go_num, by rw [HV.out]; rfl, hid (HXj.out.trans (by repeat (first | (with_reducible exact Ext.refl _) | (with_reducible refine Ext.undrew ?_) | (with_reducible refine Ext.grow ?_ _) | (with_reducible refine Ext.drew ?_) | (with_reducible refine Ext.drewN ?_ _) | (with_reducible refine Ext.alloc ?_ _) | (with_reducible assumption) | ((with_reducible refine Ext.setCell ?_ ?_ _); rotate_left; (first | exact Nat.le_refl _ | ((try dsimp only); (try simp only [World.size_alloc, grow_size, World.size_setCell]); omega))))))⟩
                              case measure => simp [intOf]; omega
                            | true =>
                              have HRI : Hid (∀ W, Calls Try.prog 22 #[.agg #[.bool true, .int .i64 d.base, .int .i64 d.top, .int .i64 d.at_, .int .i64 d.perms, .int .i64 d.type]] W fun e w' => e = .returned (.bool (rightC d)) ∧ Ext W w') := hid (fun W => by
                                have h9 := rcapRight d.tag d.base d.top d.at_ d.perms d.type W
                                rw [hdt] at h9
                                have e9 : (Cap.mk true d.base d.top d.at_ d.perms d.type) = d := by rw [← hdt]
                                rw [e9] at h9
                                exact h9)
                              have HUI : Hid (∀ W, Calls Try.prog 23 #[.agg #[.bool true, .int .i64 x.base, .int .i64 x.top, .int .i64 x.at_, .int .i64 x.perms, .int .i64 x.type], .agg #[.bool true, .int .i64 d.base, .int .i64 d.top, .int .i64 d.at_, .int .i64 d.perms, .int .i64 d.type]] W fun e w' => e = .returned (.bool (underC (Cap.mk x.tag x.base x.top x.at_ x.perms x.type) d)) ∧ Ext W w') := hid (fun W => by
                                have h9 := rcapUnder x.tag x.base x.top x.at_ x.perms x.type d.tag d.base d.top d.at_ d.perms d.type W
                                rw [hdt, HXT.out, underR_under] at h9
                                have e9 : (Cap.mk true d.base d.top d.at_ d.perms d.type) = d := by rw [← hdt]
                                rw [e9] at h9
                                have e8 : (Cap.mk true x.base x.top x.at_ x.perms x.type) = (Cap.mk x.tag x.base x.top x.at_ x.perms x.type) := by rw [← HXT.out]
                                rw [e8] at h9
                                exact h9)
                              rw [hdt] at q0 HV
                              clear hdt
                              generalize rightC d = vr at HRI HV
                              generalize underC (Cap.mk x.tag x.base x.top x.at_ x.perms x.type) d = vu at HUI HV
                              cases vr with
                              | false =>
                                go_upto_region 28 with (fail)
                                refine wp_region_grow (by kernel_rfl) (by kernel_rfl) (by first | (simp only [List.append]; rfl) | rfl) ?_
                                (repeat (go_big_quiet_step ((go_at_call 22; exact growOf (HRI.out _)))))
                                refine wpQuiet_nil ?_
                                intro wq hq
                                obtain ⟨dq, rfl⟩ := hq
                                go_wp2
                                go_roundw
                                case rel => exact ⟨j + 1, by omega, by go_num, by rw [HV.out]; rfl, hid (HXj.out.trans (by repeat (first | (with_reducible exact Ext.refl _) | (with_reducible refine Ext.undrew ?_) | (with_reducible refine Ext.grow ?_ _) | (with_reducible refine Ext.drew ?_) | (with_reducible refine Ext.drewN ?_ _) | (with_reducible refine Ext.alloc ?_ _) | (with_reducible assumption) | ((with_reducible refine Ext.setCell ?_ ?_ _); rotate_left; (first | exact Nat.le_refl _ | ((try dsimp only); (try simp only [World.size_alloc, grow_size, World.size_setCell]); omega))))))⟩
                                case measure => simp [intOf]; omega
                              | true =>
                                cases vu
                                all_goals
                                  go_upto_region 28 with (fail)
                                  refine wp_region_grow (by kernel_rfl) (by kernel_rfl) (by first | (simp only [List.append]; rfl) | rfl) ?_
                                  (repeat (go_big_quiet_step ((first | (go_at_call 22; exact growOf (HRI.out _)) | (go_at_call 23; exact growOf (HUI.out _))))))
                                  refine wpQuiet_nil ?_
                                  intro wq hq
                                  obtain ⟨dq, rfl⟩ := hq
                                  go_wp2
                                  go_roundw
                                  case rel => exact ⟨j + 1, by omega, by go_num, by rw [HV.out]; rfl, hid (HXj.out.trans (by repeat (first | (with_reducible exact Ext.refl _) | (with_reducible refine Ext.undrew ?_) | (with_reducible refine Ext.grow ?_ _) | (with_reducible refine Ext.drew ?_) | (with_reducible refine Ext.drewN ?_ _) | (with_reducible refine Ext.alloc ?_ _) | (with_reducible assumption) | ((with_reducible refine Ext.setCell ?_ ?_ _); rotate_left; (first | exact Nat.le_refl _ | ((try dsimp only); (try simp only [World.size_alloc, grow_size, World.size_setCell]); omega))))))⟩
                                  case measure => simp [intOf]; omega
                        · obtain rfl : m = j := by omega
                          have hj1 : ¬ (m : Int) < (m : Int) := by omega
                          rw [show zs0.take m = zs0 from List.take_of_length_le (by rw [HM.out]; exact Nat.le_refl _), HLs.out]
                          have hsz5 := HX8.out.size
                          have hszj := HXj.out.size
                          go_wp2_with (at_builtin; refine wpList_plain rfl fun K hK => ?_; go_loud (refine wp_app_row cap_len (by decide) cap_one Try.underlying22 info_capN _ _ rfl W2.heap.size (.slice (some ⟨bA, oA, none⟩) la cv) la (rowF Cap.cells AL) rfl (HO8.out.ext (HXj.out.trans (Ext.alloc (Ext.refl _) _))) (some ⟨wr.heap.size, 0, none⟩) 1 1 [(Cap.mk true x.base x.top x.at_ x.perms x.type)] rfl rfl (rdF_row0 (f := Cap.cells) (z := (Cap.mk true x.base x.top x.at_ x.perms x.type)) (Row.new wr #[.bool true, .int .i64 x.base, .int .i64 x.top, .int .i64 x.at_, .int .i64 x.perms, .int .i64 x.type] 24)) (by unfold maxLen; omega) (by omega) (by simp; omega) ?_); intro v7 W7 hown hgrow hat; obtain ⟨A7, c7, rfl, _, _⟩ := hown.shape; refine hK _ _ ?_; clear hK K)
                          have HO9 : Hid (ownsAt W7 W2.heap.size 24 6 (.slice A7 (la + 1) c7) (AL ++ [x]).length (rowF Cap.cells (AL ++ [x]))) := hid (by
                            have e8 : (Cap.mk true x.base x.top x.at_ x.perms x.type) = x := by rw [← HXT.out]
                            rw [rowF_append, List.length_append, HLA.out, ← e8]
                            exact hown)
                          have HE9 : Hid (Ext W2 W7) := hid (Ext.only ((HX8.out.trans HXj.out).trans (Ext.alloc (Ext.refl _) _)) (grownOnly (S := fun i => W2.heap.size ≤ i) hgrow (fun g e => (HO8.out.lt g e).1)) (fun i hi => hi))
                          clear hown hgrow hat
                          go_roundw
                          case rel => exact ⟨k + 1, AL ++ [x], la + 1, by omega, by go_num, hid (by rw [List.length_append, HLA.out]; rfl), hid (by have := HLB.out; omega), hid (fun y hy => by
                            rcases List.mem_append.1 hy with h | h
                            · exact HAV.out y h
                            · obtain rfl := List.mem_singleton.1 h
                              exact HXV.out), hid (by have h9 := HO9.out; rw [List.length_append, HLA.out] at h9; exact ⟨A7, c7, rfl, h9⟩), HE9⟩
                          case measure => simp [intOf]; omega
                  · refine step_act (by rfl) (fun K hK => ?_)
                    go_wp2_with fail
                    refine ⟨_, Ext.refl _, Ext.alloc (Ext.refl _) _, ?_⟩
                    refine step_act (by rfl) (fun K hK => ?_)
                    go_wp2_with (go_at_call 21; refine (HMD.out _).mono ?_; rintro e U1 ⟨rfl, hx⟩)
                    refine ⟨_, Ext.refl _, (Ext.alloc (Ext.refl _) _).trans hx, ?_⟩
                    have HRz := hid ((Row.new U0 #[.bool false, .int .i64 0, .int .i64 0, .int .i64 0, .int .i64 0, .int .i64 0] 24).ext hx)
                    have HEz := hid ((Ext.alloc (Ext.refl U0) (.cells #[.bool false, .int .i64 0, .int .i64 0, .int .i64 0, .int .i64 0, .int .i64 0] 24)).trans hx)
                    have hsz := Nat.le_refl U0.heap.size
                    refine step_act (by rfl) (fun K hK => ?_)
                    refine wp_store_mid 24 (.tmp 12) (.tmp 105) rfl U0.heap.size 0 #[.bool x.tag, .int .i64 x.base, .int .i64 x.top, .int .i64 x.at_, .int .i64 x.perms, .int .i64 x.type] rfl rfl HRz.out.there (by kernel_rfl) (by simp [Value.oneCell']) ?_
                    refine hK _ _ ⟨_, Ext.refl _, ((Only.setCells (S := fun _ => False) (b := U0.heap.size) (.inr (by omega)) (Cap.cells (Cap.mk x.tag x.base x.top x.at_ x.perms x.type)) 0 (Only.ofExt HEz.out)).ext (fun _ h => h.elim)), ?_⟩
                    clear hK K
                    refine step_nil ?_
                    have HXx := hid (HU0.out.trans ((Only.setCells (S := fun _ => False) (b := U0.heap.size) (.inr (by omega)) (Cap.cells (Cap.mk x.tag x.base x.top x.at_ x.perms x.type)) 0 (Only.ofExt HEz.out)).ext (fun _ h => h.elim)))
                    have HRx : Hid (Row (World.setCells U1 U0.heap.size 0 (Cap.cells (Cap.mk x.tag x.base x.top x.at_ x.perms x.type))) U0.heap.size 0 (Cap.cells (Cap.mk x.tag x.base x.top x.at_ x.perms x.type))) := hid (Row.putNew HRz.out rfl)
                    clear hx HRz HEz hsz HU0 HMD
                    generalize U0.heap.size = bx at HRx HXx ⊢
                    clear p0 p1 p2 p3 p4 p5 p6 r0 r1 r2 r3 r4 r5 r6
                    go_upto_region 21 with (fail)
                    refine wp_gen (fun W => Hid (Ext W5 W) ∧ Hid (Row W bx 0 (Cap.cells (Cap.mk x.tag x.base x.top x.at_ x.perms x.type)))) ⟨HXx, HRx⟩ ?_
                    clear HXx HRx
                    rintro W6 ⟨HX6, HR6⟩
                    obtain ⟨p0, p1, p2, p3, p4, p5, p6⟩ := Row.six (c := (Cap.mk x.tag x.base x.top x.at_ x.perms x.type)) (HR6.out)
                    simp only [Nat.zero_add] at p2 p3 p4 p5 p6
                    go_wp2_with fail
                    refine (sHas x.tag x.base x.top x.at_ x.perms x.type _ (HS.out.ext (HX5.out.trans HX6.out))).mono ?_
                    rintro e W8 ⟨he, hx⟩
                    have HXV' : hv zs0 (Cap.mk x.tag x.base x.top x.at_ x.perms x.type) = true := HXV.out
                    rw [HXV'] at he
                    subst he
                    have HX8 := hid (HX5.out.trans (HX6.out.trans hx))
                    have HR8 := hid (HR6.out.ext hx)
                    have HO8 := hid (HO5.out.ext (HX6.out.trans hx))
                    clear hx HXV' HO5 HX6 HR6 HX5
                    clear p0 p1 p2 p3 p4 p5 p6
                    cases hxt : x.tag with
                    | false =>
                      rw [show (Cap.mk x.tag x.base x.top x.at_ x.perms x.type) = (Cap.mk false x.base x.top x.at_ x.perms x.type) by rw [← hxt]] at HR8
                      obtain ⟨p0, p1, p2, p3, p4, p5, p6⟩ := Row.six (c := (Cap.mk false x.base x.top x.at_ x.perms x.type)) (HR8.out)
                      simp only [Nat.zero_add] at p2 p3 p4 p5 p6
                      go_wp2
                      go_roundw
                      case rel => exact ⟨k + 1, AL, la, by omega, by go_num, HLA, hid (by have := HLB.out; omega), HAV, hid ⟨_, _, rfl, HO8.out⟩, HX8⟩
                      case measure => simp [intOf]; omega
                    | true =>
                      rw [show (Cap.mk x.tag x.base x.top x.at_ x.perms x.type) = (Cap.mk true x.base x.top x.at_ x.perms x.type) by rw [← hxt]] at HR8
                      have HXT := hid hxt
                      have HLs := hid (show zs0.any (fun g : Cap => g.tag && (rightC g && underC (Cap.mk x.tag x.base x.top x.at_ x.perms x.type) g)) = true from hv_less HXV.out hxt)
                      clear hxt
                      obtain ⟨p0, p1, p2, p3, p4, p5, p6⟩ := Row.six (c := (Cap.mk true x.base x.top x.at_ x.perms x.type)) (HR8.out)
                      simp only [Nat.zero_add] at p2 p3 p4 p5 p6
                      go_wp2
                      go_loopw [13, 14] (fun b i wr => ∃ j : Nat, j ≤ m ∧ i = .int .i64 j ∧ b = .bool ((zs0.take j).any (fun g : Cap => g.tag && (rightC g && underC (Cap.mk x.tag x.base x.top x.at_ x.perms x.type) g))) ∧ Hid (Ext W8 wr)) (fun _ i _ => m - (intOf i).toNat)
                      case atStart => exact ⟨0, Nat.zero_le _, rfl, rfl, hid (Ext.refl _)⟩
                      case round =>
                        obtain ⟨j, hj, rfl, rfl, HXj⟩ := hrel
                        have hj0 : (0 : Int) ≤ (j : Int) := by omega
                        obtain ⟨p0, p1, p2, p3, p4, p5, p6⟩ := Row.six (c := (Cap.mk true x.base x.top x.at_ x.perms x.type)) (HR8.out.ext HXj.out)
                        simp only [Nat.zero_add] at p2 p3 p4 p5 p6
                        by_cases hltj : j < m
                        · have hj1 : (j : Int) < (m : Int) := by omega
                          have hjl : j < zs0.length := by rw [HM.out]; exact hltj
                          obtain ⟨d, hd⟩ : ∃ d, zs0[j] = d := ⟨_, rfl⟩
                          have HV := hid (show (zs0.take (j + 1)).any (fun g : Cap => g.tag && (rightC g && underC (Cap.mk x.tag x.base x.top x.at_ x.perms x.type) g)) = ((zs0.take j).any (fun g : Cap => g.tag && (rightC g && underC (Cap.mk x.tag x.base x.top x.at_ x.perms x.type) g)) || (d.tag && (rightC d && underC (Cap.mk x.tag x.base x.top x.at_ x.perms x.type) d))) by rw [List.take_succ_eq_append_getElem hjl, List.any_append, hd]; simp)
                          generalize (zs0.take j).any (fun g : Cap => g.tag && (rightC g && underC (Cap.mk x.tag x.base x.top x.at_ x.perms x.type) g)) = v at HV ⊢
                          obtain ⟨b', o', rfl, hb1', q0, q1, q2, q3, q4, q5⟩ := (HA.out.ext (HB.out.trans (HE2.out.trans (HX8.out.trans HXj.out)))).cap hjl d hd
                          clear hd
                          cases v with
                          | true =>
                            go_upto_region 28 with (fail)
                            refine wp_region_grow (by kernel_rfl) (by kernel_rfl) (by first | (simp only [List.append]; rfl) | rfl) ?_
                            (repeat (go_big_quiet_step (fail)))
                            refine wpQuiet_nil ?_
                            intro wq hq
                            obtain ⟨dq, rfl⟩ := hq
                            go_wp2
                            go_roundw
                            case rel => exact ⟨j + 1, by omega, by go_num, by rw [HV.out]; rfl, hid (HXj.out.trans (by repeat (first | (with_reducible exact Ext.refl _) | (with_reducible refine Ext.undrew ?_) | (with_reducible refine Ext.grow ?_ _) | (with_reducible refine Ext.drew ?_) | (with_reducible refine Ext.drewN ?_ _) | (with_reducible refine Ext.alloc ?_ _) | (with_reducible assumption) | ((with_reducible refine Ext.setCell ?_ ?_ _); rotate_left; (first | exact Nat.le_refl _ | ((try dsimp only); (try simp only [World.size_alloc, grow_size, World.size_setCell]); omega))))))⟩
                            case measure => simp [intOf]; omega
                          | false =>
                            cases hdt : d.tag with
                            | false =>
                              rw [hdt] at q0 HV
                              go_upto_region 28 with (fail)
                              refine wp_region_grow (by kernel_rfl) (by kernel_rfl) (by first | (simp only [List.append]; rfl) | rfl) ?_
                              (repeat (go_big_quiet_step (fail)))
                              refine wpQuiet_nil ?_
                              intro wq hq
                              obtain ⟨dq, rfl⟩ := hq
                              go_wp2
                              go_roundw
                              case rel => exact ⟨j + 1, by omega, by go_num, by rw [HV.out]; rfl, hid (HXj.out.trans (by repeat (first | (with_reducible exact Ext.refl _) | (with_reducible refine Ext.undrew ?_) | (with_reducible refine Ext.grow ?_ _) | (with_reducible refine Ext.drew ?_) | (with_reducible refine Ext.drewN ?_ _) | (with_reducible refine Ext.alloc ?_ _) | (with_reducible assumption) | ((with_reducible refine Ext.setCell ?_ ?_ _); rotate_left; (first | exact Nat.le_refl _ | ((try dsimp only); (try simp only [World.size_alloc, grow_size, World.size_setCell]); omega))))))⟩
                              case measure => simp [intOf]; omega
                            | true =>
                              have HRI : Hid (∀ W, Calls Try.prog 22 #[.agg #[.bool true, .int .i64 d.base, .int .i64 d.top, .int .i64 d.at_, .int .i64 d.perms, .int .i64 d.type]] W fun e w' => e = .returned (.bool (rightC d)) ∧ Ext W w') := hid (fun W => by
                                have h9 := rcapRight d.tag d.base d.top d.at_ d.perms d.type W
                                rw [hdt] at h9
                                have e9 : (Cap.mk true d.base d.top d.at_ d.perms d.type) = d := by rw [← hdt]
                                rw [e9] at h9
                                exact h9)
                              have HUI : Hid (∀ W, Calls Try.prog 23 #[.agg #[.bool true, .int .i64 x.base, .int .i64 x.top, .int .i64 x.at_, .int .i64 x.perms, .int .i64 x.type], .agg #[.bool true, .int .i64 d.base, .int .i64 d.top, .int .i64 d.at_, .int .i64 d.perms, .int .i64 d.type]] W fun e w' => e = .returned (.bool (underC (Cap.mk x.tag x.base x.top x.at_ x.perms x.type) d)) ∧ Ext W w') := hid (fun W => by
                                have h9 := rcapUnder x.tag x.base x.top x.at_ x.perms x.type d.tag d.base d.top d.at_ d.perms d.type W
                                rw [hdt, HXT.out, underR_under] at h9
                                have e9 : (Cap.mk true d.base d.top d.at_ d.perms d.type) = d := by rw [← hdt]
                                rw [e9] at h9
                                have e8 : (Cap.mk true x.base x.top x.at_ x.perms x.type) = (Cap.mk x.tag x.base x.top x.at_ x.perms x.type) := by rw [← HXT.out]
                                rw [e8] at h9
                                exact h9)
                              rw [hdt] at q0 HV
                              clear hdt
                              generalize rightC d = vr at HRI HV
                              generalize underC (Cap.mk x.tag x.base x.top x.at_ x.perms x.type) d = vu at HUI HV
                              cases vr with
                              | false =>
                                go_upto_region 28 with (fail)
                                refine wp_region_grow (by kernel_rfl) (by kernel_rfl) (by first | (simp only [List.append]; rfl) | rfl) ?_
                                (repeat (go_big_quiet_step ((go_at_call 22; exact growOf (HRI.out _)))))
                                refine wpQuiet_nil ?_
                                intro wq hq
                                obtain ⟨dq, rfl⟩ := hq
                                go_wp2
                                go_roundw
                                case rel => exact ⟨j + 1, by omega, by go_num, by rw [HV.out]; rfl, hid (HXj.out.trans (by repeat (first | (with_reducible exact Ext.refl _) | (with_reducible refine Ext.undrew ?_) | (with_reducible refine Ext.grow ?_ _) | (with_reducible refine Ext.drew ?_) | (with_reducible refine Ext.drewN ?_ _) | (with_reducible refine Ext.alloc ?_ _) | (with_reducible assumption) | ((with_reducible refine Ext.setCell ?_ ?_ _); rotate_left; (first | exact Nat.le_refl _ | ((try dsimp only); (try simp only [World.size_alloc, grow_size, World.size_setCell]); omega))))))⟩
                                case measure => simp [intOf]; omega
                              | true =>
                                cases vu
                                all_goals
                                  go_upto_region 28 with (fail)
                                  refine wp_region_grow (by kernel_rfl) (by kernel_rfl) (by first | (simp only [List.append]; rfl) | rfl) ?_
                                  (repeat (go_big_quiet_step ((first | (go_at_call 22; exact growOf (HRI.out _)) | (go_at_call 23; exact growOf (HUI.out _))))))
                                  refine wpQuiet_nil ?_
                                  intro wq hq
                                  obtain ⟨dq, rfl⟩ := hq
                                  go_wp2
                                  go_roundw
                                  case rel => exact ⟨j + 1, by omega, by go_num, by rw [HV.out]; rfl, hid (HXj.out.trans (by repeat (first | (with_reducible exact Ext.refl _) | (with_reducible refine Ext.undrew ?_) | (with_reducible refine Ext.grow ?_ _) | (with_reducible refine Ext.drew ?_) | (with_reducible refine Ext.drewN ?_ _) | (with_reducible refine Ext.alloc ?_ _) | (with_reducible assumption) | ((with_reducible refine Ext.setCell ?_ ?_ _); rotate_left; (first | exact Nat.le_refl _ | ((try dsimp only); (try simp only [World.size_alloc, grow_size, World.size_setCell]); omega))))))⟩
                                  case measure => simp [intOf]; omega
                        · obtain rfl : m = j := by omega
                          have hj1 : ¬ (m : Int) < (m : Int) := by omega
                          rw [show zs0.take m = zs0 from List.take_of_length_le (by rw [HM.out]; exact Nat.le_refl _), HLs.out]
                          have hsz5 := HX8.out.size
                          have hszj := HXj.out.size
                          go_wp2_with (at_builtin; refine wpList_plain rfl fun K hK => ?_; go_loud (refine wp_app_row cap_len (by decide) cap_one Try.underlying22 info_capN _ _ rfl W2.heap.size (.slice (some ⟨bA, oA, none⟩) la cv) la (rowF Cap.cells AL) rfl (HO8.out.ext (HXj.out.trans (Ext.alloc (Ext.refl _) _))) (some ⟨wr.heap.size, 0, none⟩) 1 1 [(Cap.mk true x.base x.top x.at_ x.perms x.type)] rfl rfl (rdF_row0 (f := Cap.cells) (z := (Cap.mk true x.base x.top x.at_ x.perms x.type)) (Row.new wr #[.bool true, .int .i64 x.base, .int .i64 x.top, .int .i64 x.at_, .int .i64 x.perms, .int .i64 x.type] 24)) (by unfold maxLen; omega) (by omega) (by simp; omega) ?_); intro v7 W7 hown hgrow hat; obtain ⟨A7, c7, rfl, _, _⟩ := hown.shape; refine hK _ _ ?_; clear hK K)
                          have HO9 : Hid (ownsAt W7 W2.heap.size 24 6 (.slice A7 (la + 1) c7) (AL ++ [x]).length (rowF Cap.cells (AL ++ [x]))) := hid (by
                            have e8 : (Cap.mk true x.base x.top x.at_ x.perms x.type) = x := by rw [← HXT.out]
                            rw [rowF_append, List.length_append, HLA.out, ← e8]
                            exact hown)
                          have HE9 : Hid (Ext W2 W7) := hid (Ext.only ((HX8.out.trans HXj.out).trans (Ext.alloc (Ext.refl _) _)) (grownOnly (S := fun i => W2.heap.size ≤ i) hgrow (fun g e => (HO8.out.lt g e).1)) (fun i hi => hi))
                          clear hown hgrow hat
                          go_roundw
                          case rel => exact ⟨k + 1, AL ++ [x], la + 1, by omega, by go_num, hid (by rw [List.length_append, HLA.out]; rfl), hid (by have := HLB.out; omega), hid (fun y hy => by
                            rcases List.mem_append.1 hy with h | h
                            · exact HAV.out y h
                            · obtain rfl := List.mem_singleton.1 h
                              exact HXV.out), hid (by have h9 := HO9.out; rw [List.length_append, HLA.out] at h9; exact ⟨A7, c7, rfl, h9⟩), HE9⟩
                          case measure => simp [intOf]; omega
                · obtain rfl : k = n := by omega
                  have hk1 : ¬ (k : Int) < (k : Int) := by omega
                  go_wp2
                  go_ret
                  exact ⟨rfl, HB.out.trans (HE2.out.trans HX.out)⟩
end closAll

end Go.Proofs.Ytlapemeoffpmgaa
