/- Layer 16: the document's Read. -/
import Derived.Test.YtdhpbofpomefoaaDoorAsmY0
import Derived.Test.YtdhpbofpomefoaaDoorAsmM
namespace Go.Proofs.YtdhpbofpomefoaaDoor
set_option linter.unusedSimpArgs false
set_option linter.unusedVariables false
open Go.RowKit

set_option maxRecDepth 100000 in
set_option maxHeartbeats 4000000 in
theorem rread_ (s : ByteArray) (hsz : s.size ≤ 1000000) (w : World) (ht : Tb w) : Calls Tryd.prog 17 #[.string s] w fun e w' => ∃ v, e = .returned (.tuple #[v, .int .i64 (readL numR s.data.toList).2.1, .bool (readL numR s.data.toList).2.2]) ∧ Hid (ownsAt w' w.heap.size 23 4 v (readL numR s.data.toList).1.length (rowF insC (readL numR s.data.toList).1)) ∧ Hid (Ext w w') := by
  have HT := hid ht
  clear ht
  have HDL : Hid (s.data.toList.length = s.size) := hid (by simp)
  go_enter Tryd.func17, Tryd.ntmps17
  go_wp2
  go_loopw [5, 6, 7] (fun v f i wr => ∃ (k fr : Nat) (acc : List In), k ≤ s.size ∧ f = .int .i64 fr ∧ i = .int .i64 k ∧ fr ≤ k ∧ acc.length ≤ k ∧ Hid (rst s.data.toList k fr acc) ∧ Hid (ownsAt wr w.heap.size 23 4 v acc.length (rowF insC acc)) ∧ Hid (Ext w wr)) (fun _ _ i _ => s.size - (intOf i).toNat)
  case atStart => exact ⟨0, 0, [], Nat.zero_le _, rfl, rfl, Nat.le_refl _, Nat.le_refl _, hid (rst_start _), hid (ownsAt_nil _ _ _ _), hid (Ext.refl _)⟩
  case round =>
    obtain ⟨k, fr, acc, hk, rfl, rfl, hfr, hal, HW, HO, HX⟩ := hrel
    have hk0 : (0 : Int) ≤ (k : Int) := by omega
    have hf0 : (0 : Int) ≤ (fr : Int) := by omega
    have hfi : (fr : Int) ≤ (k : Int) := by omega
    obtain ⟨A, ca, rfl, hca, _⟩ := HO.out.shape
    by_cases hlt : k < s.size
    · have hlti : (k : Int) < (s.size : Int) := by omega
      have hle1 : (k : Int) ≤ (s.size : Int) := by omega
      have hkL : k < s.data.toList.length := by rw [HDL.out]; exact hlt
      by_cases h10 : s[k]'hlt = 10
      · have q0 : (((s[k]'hlt).toNat : Int) == 10) = true := by rw [h10]; rfl
        have HC : Hid (s.data.toList[k] = 10) := hid (by rw [← ba_at hlt]; exact h10)
        clear h10
        have hex := ext_mid s fr k
        obtain ⟨cur, hcur⟩ : ∃ z, (s.data.toList.drop fr).take (k - fr) = z := ⟨_, rfl⟩
        have HCUR := hid hcur
        rw [hcur] at hex
        have hcl : cur.length ≤ 1000000 := by rw [← hcur, List.length_take, List.length_drop, HDL.out]; omega
        obtain ⟨pz, hpz⟩ : ∃ z, parseN numR cur = z := ⟨_, rfl⟩
        obtain ⟨⟨zo, za, zb, zc⟩, zi⟩ := pz
        have HPZ := hid hpz
        have HPR : Hid (∀ W, Ext w W → Calls Tryd.prog 11 #[.string ⟨cur.toArray⟩] W fun e w' => e = .returned (.tuple #[.agg #[.int .i64 zo, .int .i64 za, .int .i64 zb, .int .i64 zc], .bool zi]) ∧ Ext W w') := hid (fun W hx => by have h := rparse_ ⟨cur.toArray⟩ W (by show cur.toArray.size ≤ _; rw [List.size_toArray]; exact hcl) (HT.out.ext hx); rw [show parseN numR (⟨cur.toArray⟩ : ByteArray).data.toList = _ from hpz] at h; exact h)
        clear hcur hpz hcl
        go_wp2_with fail
        refine Calls.mono (HPR.out _ HX.out) ?_
        rintro e W2 ⟨rfl, hy⟩
        have HY := hid hy
        clear hy
        cases zi with
        | false =>
          have HRN := hid (rst_no HW.out hkL HC.out (by rw [HCUR.out]; exact HPZ.out))
          go_wp2
          have hxx := HX.out.trans HY.out
          refine bodyPost_ret (v := .tuple #[.slice none 0 0, .int .i64 acc.length, .bool false]) (by simp [results, Tryd.results17, go_sem]) rfl ⟨_, by rw [HRN.out], hid ?_, hid (by repeat (first | (with_reducible exact Ext.refl _) | (with_reducible refine Ext.undrew ?_) | (with_reducible refine Ext.grow ?_ _) | (with_reducible refine Ext.drew ?_) | (with_reducible refine Ext.drewN ?_ _) | (with_reducible refine Ext.alloc ?_ _) | (with_reducible assumption) | ((with_reducible refine Ext.setCell ?_ ?_ _); rotate_left; (first | exact Nat.le_refl _ | ((try dsimp only); (try simp only [World.size_alloc, grow_size, World.size_setCell]); omega)))))⟩
          rw [HRN.out]
          exact ownsAt_nil _ _ _ _
        | true =>
          have HRY := hid (rst_yes HW.out hkL HC.out (by rw [HCUR.out]; exact HPZ.out))
          go_upto_region 10 with (fail)
          refine wp_gen (fun V => Hid (Ext wr V) ∧ Hid (Row V W2.heap.size 0 [.int .i64 zo, .int .i64 za, .int .i64 zb, .int .i64 zc])) ⟨hid (Ext.trans HY.out (by repeat (first | (with_reducible exact Ext.refl _) | (with_reducible refine Ext.undrew ?_) | (with_reducible refine Ext.grow ?_ _) | (with_reducible refine Ext.drew ?_) | (with_reducible refine Ext.drewN ?_ _) | (with_reducible refine Ext.alloc ?_ _) | (with_reducible assumption) | ((with_reducible refine Ext.setCell ?_ ?_ _); rotate_left; (first | exact Nat.le_refl _ | ((try dsimp only); (try simp only [World.size_alloc, grow_size, World.size_setCell]); omega)))))), hid (Row.new W2 _ _)⟩ ?_
          clear HY hex
          rintro V1 ⟨HX1, HR1⟩
          generalize W2.heap.size = xb at HR1 ⊢
          have x0 : World.cell? V1 ⟨xb, 0, none⟩ = some (.int .i64 zo) := by have := HR1.out.at_ 0 _ rfl; simpa using this
          have x1 : World.cell? V1 ⟨xb, 1, none⟩ = some (.int .i64 za) := by have := HR1.out.at_ 1 _ rfl; simpa using this
          have x2 : World.cell? V1 ⟨xb, 2, none⟩ = some (.int .i64 zb) := by have := HR1.out.at_ 2 _ rfl; simpa using this
          have x3 : World.cell? V1 ⟨xb, 3, none⟩ = some (.int .i64 zc) := by have := HR1.out.at_ 3 _ rfl; simpa using this
          have xl := HR1.out.lt
          go_wp2_with (first | (refine wpList_plain rfl fun K hK => ?_; refine wp_build1 30 23 _ rfl #[.int .i64 zo, .int .i64 za, .int .i64 zb, .int .i64 zc] 4 rfl rfl (by omega) (by omega) Tryd.underlying30 (by kernel_rfl) (by kernel_rfl) ?_; refine hK _ _ ?_; clear hK K) | (at_builtin; refine wpList_plain rfl fun K hK => ?_; refine wp_app_row insC_len (by decide) insC_one Tryd.underlying30 info_insN _ _ rfl w.heap.size (.slice A acc.length ca) acc.length (rowF insC acc) rfl (HO.out.ext (HX1.out.trans (Ext.alloc (Ext.refl _) _))) (some ⟨V1.heap.size, 0, none⟩) 1 1 [⟨zo, za, zb, zc⟩] rfl rfl (rdF_ins (Row.new V1 #[.int .i64 zo, .int .i64 za, .int .i64 zb, .int .i64 zc] _)) (by unfold maxLen; omega) (by omega) (by have := HX1.out.size; have := HX.out.size; simp; omega) ?_; intro v7 W7 hown hgrow hat; obtain ⟨A7, c7, rfl, _, _⟩ := hown.shape; refine hK _ _ ?_; clear hK K))
          have HON := hid hown
          have HXN := hid (Ext.only ((HX.out.trans HX1.out).trans (Ext.alloc (Ext.refl _) _)) (S := fun j => (Value.slice A acc.length ca).ownBlock = some j) (grownOnly hgrow fun g e => e) (fun j hj => (HO.out.lt j hj).1))
          clear hown hgrow hat
          go_roundw
          case rel => exact ⟨k + 1, k + 1, acc ++ [⟨zo, za, zb, zc⟩], by omega, by go_num, by go_num, Nat.le_refl _, by simp; omega, HRY, hid (by rw [List.length_append, rowF_snoc]; have e := HON.out; rw [rowF_one] at e; exact e), HXN⟩
          case measure => simp [intOf]; omega
      · have q0 : (((s[k]'hlt).toNat : Int) == 10) = false := by
          have : ¬ (s[k]'hlt).toNat = 10 := fun e => h10 (UInt8.toNat.inj e)
          simpa using (fun e => this (by omega))
        go_wp2
        go_roundw
        case rel => exact ⟨k + 1, fr, acc, by omega, rfl, by go_num, by omega, by omega, hid (rst_more HW.out hkL (by rw [← ba_at hlt]; exact h10)), HO, HX⟩
        case measure => simp [intOf]; omega
    · obtain rfl : k = s.size := by omega
      have hlti : ¬ (s.size : Int) < (s.size : Int) := by omega
      have HW2 : Hid (rst s.data.toList s.data.toList.length fr acc) := hid (by rw [HDL.out]; exact HW.out)
      by_cases hf : fr < s.size
      · have hf1 : (fr : Int) < (s.size : Int) := by omega
        have HRN := hid (rst_end1 HW2.out (by rw [HDL.out]; exact hf))
        go_wp2
        refine bodyPost_ret (v := .tuple #[.slice none 0 0, .int .i64 acc.length, .bool false]) (by simp [results, Tryd.results17, go_sem]) rfl ⟨_, by rw [HRN.out], hid ?_, HX⟩
        rw [HRN.out]
        exact ownsAt_nil _ _ _ _
      · have hf1 : ¬ (fr : Int) < (s.size : Int) := by omega
        have HRN := hid (rst_end2 HW2.out (by rw [HDL.out]; exact hf))
        go_wp2
        refine bodyPost_ret (v := .tuple #[.slice A acc.length ca, .int .i64 acc.length, .bool true]) (by simp [results, Tryd.results17, go_sem]) rfl ⟨_, by rw [HRN.out], hid ?_, HX⟩
        rw [HRN.out]
        exact HO.out

end Go.Proofs.YtdhpbofpomefoaaDoor
