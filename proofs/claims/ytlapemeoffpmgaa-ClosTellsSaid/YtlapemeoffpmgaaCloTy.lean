/- Layer 6: Types. -/
import Derived.Test.YtlapemeoffpmgaaCloZ
import Derived.Test.YtlapemeoffpmgaaCloTv
import Derived.Test.YtlapemeoffpmgaaCloD
namespace Go.Proofs.Ytlapemeoffpmgaa
set_option linter.unusedSimpArgs false
set_option linter.unusedVariables false
open Go.RowKit

set_option maxRecDepth 100000 in
set_option maxHeartbeats 4000000 in
theorem ctypes_ (s : Nat) (A : Option Addr) (cg : Nat) (G : List Cap) (B : Option Addr) (co : Nat) (O : List Cap) (p : Int) (w : World) (h : ClS w s A cg G B co O) (ho : O.length ≤ 100000) : Calls Try.prog 19 #[.pointer (some ⟨s, 0, none⟩), .int .i64 p] w fun e w' => ∃ A' c' m, e = .returned (.slice A' m c') ∧ (tyN O p).length = m ∧ Hid (RdF intF w' A' (tyN O p)) ∧ Hid (Ext w w') := by
  have HB := hid h
  have HA := hid h.r1
  obtain ⟨hlt, k0, k1, _, _⟩ := h
  go_enter Try.func19, Try.ntmps19
  go_wp2
  clear k0 k1 hlt
  go_loopw [5, 13] (fun g i wr => ∃ k : Nat, k ≤ O.length ∧ i = .int .i64 k ∧ Hid (ownsAt wr w.heap.size 3 1 g (rawT (O.take k) p).length (rowF intF (rawT (O.take k) p))) ∧ Hid (Ext w wr)) (fun _ i _ => O.length - (intOf i).toNat)
  case atStart => exact ⟨0, Nat.zero_le _, rfl, hid (ownsAt_nil _ _ _ _), hid (Ext.refl _)⟩
  case round =>
    obtain ⟨k, hk, rfl, HO, HX⟩ := hrel
    obtain ⟨A, ca, rfl, _, _⟩ := HO.out.shape
    have hkl := rawT_len p (O.take k)
    rw [List.length_take] at hkl
    by_cases hlt : k < O.length
    · have hk1 : (k : Int) < (O.length : Int) := by omega
      have hk0 : (0 : Int) ≤ (k : Int) := by omega
      obtain ⟨d, hd⟩ : ∃ d, O[k] = d := ⟨_, rfl⟩
      have HT : Hid (rawT (O.take (k + 1)) p = (rawT (O.take k) p) ++ kindsOf p d) := hid (by rw [List.take_succ_eq_append_getElem hlt, hd, rawT_snoc])
      have hkd := kindsOf_len p d
      obtain ⟨b', o', rfl, hb1, q0, q1, q2, q3, q4, q5⟩ := (HA.out.ext HX.out).cap hlt d hd
      clear hd
      have HU : Hid (∀ W, Ext wr W → Calls Try.prog 36 #[.agg #[.bool d.tag, .int .i64 d.base, .int .i64 d.top, .int .i64 d.at_, .int .i64 d.perms, .int .i64 d.type], .int .i64 p] W fun e w' => ∃ A ca, e = .returned (.slice A (kindsOf p d).length ca) ∧ Hid (ownsAt w' (W.heap.size + 1) 3 1 (.slice A (kindsOf p d).length ca) (kindsOf p d).length (rowF intF (kindsOf p d))) ∧ Hid (Ext W w')) := hid (fun W hx => cover_ d.tag d.base d.top d.at_ d.perms d.type p W)
      go_wp2_with fail
      refine (HU.out _ (by repeat (first | (with_reducible exact Ext.refl _) | (with_reducible refine Ext.undrew ?_) | (with_reducible refine Ext.grow ?_ _) | (with_reducible refine Ext.drew ?_) | (with_reducible refine Ext.drewN ?_ _) | (with_reducible refine Ext.alloc ?_ _) | (with_reducible assumption) | ((with_reducible refine Ext.setCell ?_ ?_ _); rotate_left; (first | exact Nat.le_refl _ | ((try dsimp only); (try simp only [World.size_alloc, grow_size, World.size_setCell]); omega)))))).mono ?_; rintro e W2 ⟨A2, c2, rfl, HO2, hy⟩
      have HY : Hid (Ext wr W2) := hid (((Ext.refl _).alloc _).trans hy.out)
      clear hy HU
      go_wp2_with (at_builtin; refine wpList_plain rfl fun K hK => ?_; refine wp_app_row intF_len (by decide) intF_one Try.underlying34 info_intN _ _ rfl w.heap.size (.slice A (rawT (O.take k) p).length ca) (rawT (O.take k) p).length (rowF intF (rawT (O.take k) p)) rfl (HO.out.ext HY.out) A2 (kindsOf p d).length c2 (kindsOf p d) rfl rfl (HO2.out.rdF rfl) (by unfold maxLen; omega) (by omega) (by have := HX.out.size; have := HY.out.size; simp at *; omega) ?_; intro v7 W7 hown hgrow hat; obtain ⟨A7, c7, rfl, _, _⟩ := hown.shape; refine hK _ _ ?_; clear hK K)
      have HO5 : Hid (ownsAt W7 w.heap.size 3 1 (.slice A7 ((rawT (O.take k) p).length + (kindsOf p d).length) c7) (rawT (O.take (k + 1)) p).length (rowF intF (rawT (O.take (k + 1)) p))) := hid (by
        rw [HT.out, rowF_append, List.length_append]
        exact hown)
      have HE5 : Hid (Ext w W7) := hid (Ext.only (HX.out.trans HY.out) (grownOnly (S := fun i => w.heap.size ≤ i) hgrow (fun g e => (HO.out.lt g e).1)) (fun i hi => hi))
      clear hown hgrow hat
      go_roundw
      case rel => exact ⟨k + 1, by omega, by go_num, HO5, HE5⟩
      case measure => simp [intOf]; omega
    · obtain rfl : k = O.length := by omega
      have hk1 : ¬ (O.length : Int) < (O.length : Int) := by omega
      rw [List.take_length] at HO hkl
      have hlen : ((rawT O p).map fun k : Nat => (k : Int)).length = (rawT O p).length := List.length_map _
      have HQ : Hid (ownsAt wr w.heap.size 3 1 (.slice A (rawT O p).length ca) (rawT O p).length (rowF intZ ((rawT O p).map fun k : Nat => (k : Int)))) := hid (by rw [← rowF_intF]; exact HO.out)
      go_wp2_with fail
      refine (isort_ w.heap.size _ _ ((rawT O p).map fun k : Nat => (k : Int)) wr HQ.out hlen (by omega)).mono ?_
      rintro e W3 ⟨rfl, HO3, HX3⟩
      have HC : Hid (∀ W, W3 = W → Calls Try.prog 38 #[.slice A (rawT O p).length ca] W fun e w' => ∃ A' c, e = .returned (.slice A' (tyN O p).length c) ∧ Hid (ownsAt w' w.heap.size 3 1 (.slice A' (tyN O p).length c) (tyN O p).length (rowF intF (tyN O p))) ∧ Hid (Only (fun i => some i = (Value.slice A (rawT O p).length ca).ownBlock) W w')) := hid (by
        rintro W rfl
        have h5 := icompact_ w.heap.size _ _ (((rawT O p).map fun k : Nat => (k : Int)).mergeSort fun x y => decide (x ≤ y)) W3 HO3.out (by rw [List.length_mergeSort]; exact hlen) (by omega) (by
          unfold Lib.compact Lib.compactUpTo
          rw [List.length_map]
          refine Nat.le_trans (List.length_filter_le _ _) ?_
          rw [List.length_range, List.length_mergeSort, hlen]
          exact Nat.le_refl _)
        rw [types_eq, List.length_map, ← rowF_intF] at h5
        refine h5.mono ?_
        rintro e w' ⟨A', c', h6, h7, h8⟩
        have e0 : A = A := rfl
        exact ⟨A', c', h6, h7, h8⟩)
      go_wp2_with fail
      refine (HC.out _ rfl).mono ?_
      rintro e W4 ⟨A4, c4, rfl, HO4, HX4⟩
      have hfin : Ext w W4 := Ext.only (Ext.only HX.out (HX3.out.wider (T := fun i => w.heap.size ≤ i) (fun i hi => (HO.out.lt i hi.symm).1)) (fun i hi => hi)) (HX4.out.wider (T := fun i => w.heap.size ≤ i) (fun i hi => (HO.out.lt i hi.symm).1)) (fun i hi => hi)
      have HF := hid hfin
      clear hfin
      go_wp2
      go_ret
      exact ⟨A4, ⟨c4, _, rfl, rfl, hid (HO4.out.rdF rfl), HF⟩⟩

end Go.Proofs.Ytlapemeoffpmgaa
