/- Layer 16: the document's Parse. -/
import Derived.Test.YtdhpbofpomefoaaDoorAsmM0
namespace Go.Proofs.YtdhpbofpomefoaaDoor
set_option linter.unusedSimpArgs false
set_option linter.unusedVariables false
open Go.RowKit

set_option maxRecDepth 100000 in
set_option maxHeartbeats 4000000 in
theorem rparse_ (s : ByteArray) (w : World) (hsz : s.size ≤ 1000000) (ht : Tb w) : Calls Tryd.prog 11 #[.string s] w fun e w' => e = .returned (.tuple #[insV (parseN numR s.data.toList).1, .bool (parseN numR s.data.toList).2]) ∧ Ext w w' := by
  have HT := hid ht
  clear ht
  have HDL : Hid (s.data.toList.length = s.size) := hid (by simp)
  go_enter Tryd.func11, Tryd.ntmps11
  go_upto_region 1 with (fail)
  refine wp_gen (fun V => Hid (Ext w V) ∧ Hid (V.heap.size = w.heap.size + 1) ∧ Hid (Row V w.heap.size 0 [.int .i64 0, .int .i64 0, .int .i64 0, .int .i64 0])) ⟨hid (by repeat (first | (with_reducible exact Ext.refl _) | (with_reducible refine Ext.undrew ?_) | (with_reducible refine Ext.grow ?_ _) | (with_reducible refine Ext.drew ?_) | (with_reducible refine Ext.drewN ?_ _) | (with_reducible refine Ext.alloc ?_ _) | (with_reducible assumption) | ((with_reducible refine Ext.setCell ?_ ?_ _); rotate_left; (first | exact Nat.le_refl _ | ((try dsimp only); (try simp only [World.size_alloc, grow_size, World.size_setCell]); omega))))), hid (by simp), hid (Row.new w _ _)⟩ ?_
  rintro V0 ⟨HX0, HZ0, HR0⟩
  obtain ⟨rr, hrr⟩ : ∃ z, w.heap.size = z := ⟨_, rfl⟩
  have HRB := hid hrr
  rw [hrr] at HR0 ⊢
  clear hrr
  go_wp2
  go_loopw [4, 5, 6] (fun v f i wr => ∃ (k fr : Nat) (acc : List (List UInt8)), k ≤ s.size + 1 ∧ f = .int .i64 fr ∧ i = .int .i64 k ∧ fr ≤ k ∧ acc.length ≤ k ∧ Hid (wst s.data.toList k fr acc) ∧ Hid (ownsAt wr (w.heap.size + 1) 9 1 v acc.length (rowF strC acc)) ∧ Hid (Ext V0 wr)) (fun _ _ i _ => s.size + 1 - (intOf i).toNat)
  case atStart => exact ⟨0, 0, [], Nat.zero_le _, rfl, rfl, Nat.le_refl _, Nat.le_refl _, hid (wst_start _), hid (ownsAt_nil _ _ _ _), hid (Ext.refl _)⟩
  case round =>
    obtain ⟨i, fr, acc, hi, rfl, rfl, hfr, hal, HW, HO, HX⟩ := hrel
    have hi0 : (0 : Int) ≤ (i : Int) := by omega
    have hf0 : (0 : Int) ≤ (fr : Int) := by omega
    have hfi : (fr : Int) ≤ (i : Int) := by omega
    obtain ⟨A, ca, rfl, _, _⟩ := HO.out.shape
    by_cases hle : i ≤ s.size
    · have hl1 : (i : Int) ≤ (s.size : Int) := by omega
      by_cases heq : i = s.size
      · have he1 : ((i : Int) == (s.size : Int)) = true := by rw [show (i : Int) = (s.size : Int) by omega]; exact beq_self_eq_true _
        have HCUT : Hid (i = s.data.toList.length ∨ ∃ hl : i < s.data.toList.length, s.data.toList[i] = 32) := hid (.inl (by rw [HDL.out]; exact heq))
        clear heq
        obtain ⟨cur, hcur⟩ : ∃ z, (s.data.toList.drop fr).take (i - fr) = z := ⟨_, rfl⟩
        have hex := ext_mid s fr i
        rw [hcur] at hex
        have HW2 := hid (wst_cut HW.out (by rw [HDL.out]; exact hle) HCUT.out)
        rw [hcur] at HW2
        clear hcur
        go_wp2_with (at_builtin; refine wpList_plain rfl fun K hK => ?_; refine wp_app_row strC_len (by decide) strC_one Tryd.underlying41 info_strN _ _ rfl (w.heap.size + 1) (.slice A acc.length ca) acc.length (rowF strC acc) rfl (HO.out.ext (Ext.alloc (Ext.refl _) _)) (some ⟨wr.heap.size, 0, none⟩) 1 1 [cur] rfl rfl (rdF_row1 (Row.new wr #[.string ⟨cur.toArray⟩] _)) (by unfold maxLen; omega) (by omega) (by have := HX.out.size; have := HZ0.out; simp; omega) ?_; intro v7 W7 hown hgrow hat; refine hK _ _ ?_; clear hK K)
        have HON := hid hown
        have HXN := hid (Ext.only (HX.out.trans (Ext.alloc (Ext.refl _) _)) (S := fun j => (Value.slice A acc.length ca).ownBlock = some j) (grownOnly hgrow fun g e => e) (fun j hj => by have := (HO.out.lt j hj).1; have := HZ0.out; omega))
        clear hown hgrow hat
        go_roundw
        case rel => exact ⟨i + 1, i + 1, acc ++ [cur], by omega, by go_num, by go_num, Nat.le_refl _, by simp; omega, HW2, hid (by rw [List.length_append, rowF_snoc]; have e := HON.out; rw [rowF_one] at e; exact e), HXN⟩
        case measure => simp [intOf]; omega
      · have he1 : ((i : Int) == (s.size : Int)) = false := by simpa using (fun e : (i : Int) = (s.size : Int) => heq (by omega))
        have hlt : i < s.size := by omega
        have hli : (i : Int) < (s.size : Int) := by omega
        by_cases h32 : s[i]'hlt = 32
        · have q0 : (((s[i]'hlt).toNat : Int) == 32) = true := by rw [h32]; rfl
          have HCUT : Hid (i = s.data.toList.length ∨ ∃ hl : i < s.data.toList.length, s.data.toList[i] = 32) := hid (.inr ⟨by rw [HDL.out]; exact hlt, by rw [← ba_at]; exact h32⟩)
          clear h32
          obtain ⟨cur, hcur⟩ : ∃ z, (s.data.toList.drop fr).take (i - fr) = z := ⟨_, rfl⟩
          have hex := ext_mid s fr i
          rw [hcur] at hex
          have HW2 := hid (wst_cut HW.out (by rw [HDL.out]; exact hle) HCUT.out)
          rw [hcur] at HW2
          clear hcur
          go_wp2_with (at_builtin; refine wpList_plain rfl fun K hK => ?_; refine wp_app_row strC_len (by decide) strC_one Tryd.underlying41 info_strN _ _ rfl (w.heap.size + 1) (.slice A acc.length ca) acc.length (rowF strC acc) rfl (HO.out.ext (Ext.alloc (Ext.refl _) _)) (some ⟨wr.heap.size, 0, none⟩) 1 1 [cur] rfl rfl (rdF_row1 (Row.new wr #[.string ⟨cur.toArray⟩] _)) (by unfold maxLen; omega) (by omega) (by have := HX.out.size; have := HZ0.out; simp; omega) ?_; intro v7 W7 hown hgrow hat; refine hK _ _ ?_; clear hK K)
          have HON := hid hown
          have HXN := hid (Ext.only (HX.out.trans (Ext.alloc (Ext.refl _) _)) (S := fun j => (Value.slice A acc.length ca).ownBlock = some j) (grownOnly hgrow fun g e => e) (fun j hj => by have := (HO.out.lt j hj).1; have := HZ0.out; omega))
          clear hown hgrow hat
          go_roundw
          case rel => exact ⟨i + 1, i + 1, acc ++ [cur], by omega, by go_num, by go_num, Nat.le_refl _, by simp; omega, HW2, hid (by rw [List.length_append, rowF_snoc]; have e := HON.out; rw [rowF_one] at e; exact e), HXN⟩
          case measure => simp [intOf]; omega
        · have q0 : (((s[i]'hlt).toNat : Int) == 32) = false := by
            have : ¬ (s[i]'hlt).toNat = 32 := fun e => h32 (UInt8.toNat.inj e)
            simpa using (fun e => this (by omega))
          go_wp2
          go_roundw
          case rel => exact ⟨i + 1, fr, acc, by omega, rfl, by go_num, by omega, by omega, hid (wst_more HW.out (by rw [HDL.out]; exact hlt) (by rw [← ba_at]; exact h32)), hid (HO.out.ext (by repeat (first | (with_reducible exact Ext.refl _) | (with_reducible refine Ext.undrew ?_) | (with_reducible refine Ext.grow ?_ _) | (with_reducible refine Ext.drew ?_) | (with_reducible refine Ext.drewN ?_ _) | (with_reducible refine Ext.alloc ?_ _) | (with_reducible assumption) | ((with_reducible refine Ext.setCell ?_ ?_ _); rotate_left; (first | exact Nat.le_refl _ | ((try dsimp only); (try simp only [World.size_alloc, grow_size, World.size_setCell]); omega)))))), hid (HX.out.trans (by repeat (first | (with_reducible exact Ext.refl _) | (with_reducible refine Ext.undrew ?_) | (with_reducible refine Ext.grow ?_ _) | (with_reducible refine Ext.drew ?_) | (with_reducible refine Ext.drewN ?_ _) | (with_reducible refine Ext.alloc ?_ _) | (with_reducible assumption) | ((with_reducible refine Ext.setCell ?_ ?_ _); rotate_left; (first | exact Nat.le_refl _ | ((try dsimp only); (try simp only [World.size_alloc, grow_size, World.size_setCell]); omega))))))⟩
          case measure => simp [intOf]; omega
    · have hl1 : ¬ (i : Int) ≤ (s.size : Int) := by omega
      obtain rfl : i = s.size + 1 := by omega
      have HWD : Hid (wordsGo [] s.data.toList = acc) := hid (HW.out.2 (by rw [HDL.out]))
      obtain ⟨w0, ws, hco⟩ : ∃ w0 ws, acc = w0 :: ws := by
        cases acc with
        | nil => exact absurd HWD.out (wordsGo_ne _ _)
        | cons a b => exact ⟨a, b, rfl⟩
      have HCO := hid hco
      have HWL : Hid (∀ v ∈ acc, v.length ≤ 1000000) := hid (fun v hv => by
        have h1 := wordsGo_len s.data.toList [] v (by rw [HWD.out]; exact hv)
        have h2 := HDL.out
        simp only [List.length_nil] at h1
        omega)
      obtain ⟨m, hm⟩ : ∃ m, acc.length = m := ⟨_, rfl⟩
      have HM := hid hm
      have hm0 : 0 < m := by rw [← hm, hco]; simp
      have HF : Hid (RdF strC wr A acc) := hid (HO.out.rdF rfl)
      have HW0 : Hid (acc[0]'(by rw [HM.out]; exact hm0) = w0) := hid (by simp [hco])
      have HRR : Hid (Row wr rr 0 [.int .i64 0, .int .i64 0, .int .i64 0, .int .i64 0]) := hid (HR0.out.ext HX.out)
      have HXW : Hid (Ext w wr) := hid (HX0.out.trans HX.out)
      have HRL : Hid (w.heap.size ≤ rr) := hid (Nat.le_of_eq HRB.out)
      clear hco HO HX HW hi hfr hal hi0 hf0 hfi
      rw [hm]
      clear hm
      have hm1 : (0 : Int) < (m : Int) := by omega
      obtain ⟨W1, hW1⟩ : ∃ z, z = wr := ⟨_, rfl⟩
      subst hW1
      go_wp2
      go_loopw [7] (fun v wx => ∃ k : Nat, k ≤ 30 ∧ v = .int .i64 k ∧ Hid (Ext W1 wx) ∧ Hid ((∀ j : Nat, j < k → ¬ nameL j = w0) ∨ parseN numR s.data.toList = (noIn, false))) (fun v _ => 30 - (intOf v).toNat)
      case atStart => exact ⟨0, Nat.zero_le _, rfl, hid (by repeat (first | (with_reducible exact Ext.refl _) | (with_reducible refine Ext.undrew ?_) | (with_reducible refine Ext.grow ?_ _) | (with_reducible refine Ext.drew ?_) | (with_reducible refine Ext.drewN ?_ _) | (with_reducible refine Ext.alloc ?_ _) | (with_reducible assumption) | ((with_reducible refine Ext.setCell ?_ ?_ _); rotate_left; (first | exact Nat.le_refl _ | ((try dsimp only); (try simp only [World.size_alloc, grow_size, World.size_setCell]); omega))))), hid (.inl fun j hj => by omega)⟩
      case round =>
        obtain ⟨W2, hW2⟩ : ∃ z, z = wr := ⟨_, rfl⟩
        subst hW2
        obtain ⟨k, hk, rfl, HX, HNO⟩ := hrel
        have hk0 : (0 : Int) ≤ (k : Int) := by omega
        by_cases hlt : k ≤ 29
        · have hk1 : (k : Int) ≤ 29 := by omega
          have HN : Hid (∀ W, Calls Tryd.prog 13 #[.int .i64 (k : Int)] W fun e w' => e = .returned (.string ⟨(nameL k).toArray⟩) ∧ Ext W w') := hid (fun W => rname_ k W)
          obtain ⟨fb, fo, hA, hfb, hfc⟩ := (HF.out.ext HX.out).elem strC_len (show 0 < acc.length by rw [HM.out]; exact hm0) w0 HW0.out
          have hfc0 : World.cell? W2 ⟨fb, fo, none⟩ = some (.string ⟨w0.toArray⟩) := by have h9 := hfc 0 _ rfl; rw [Nat.zero_mul] at h9; exact h9
          clear hfc
          by_cases hn : nameL k = w0
          · skip
            have hk30 : k < 30 := by omega
            obtain ⟨ks, hks⟩ : ∃ z, kstr (kd (k : Int)) = z := ⟨_, rfl⟩
            have hk0d : ¬ kd (k : Int) = 0 := kd_names ⟨k, hk30⟩
            have hs3 : ks.size = 3 := by have := kstr_size ⟨kd (k : Int), kd_lt (k : Int)⟩; simp only at this; rw [← hks, this, if_neg hk0d]
            have HAL : Hid (∀ j, j < 3 → chAt ks j = 114 ∨ chAt ks j = 105 ∨ chAt ks j = 119 ∨ chAt ks j = 118 ∨ chAt ks j = 45) := hid (fun j hj => by rw [← hks]; exact kstr_al ⟨kd (k : Int), kd_lt (k : Int)⟩ ⟨j, hj⟩ hk0d)
            have HKS := hid hks
            have HK : Hid (∀ W, Calls Tryd.prog 28 #[.int .i64 (k : Int)] W fun e w' => e = .returned (.string ks) ∧ W = w') := hid (fun W => by have h := rkinds (k : Int) W; rw [hks] at h; exact h)
            have HNM := hid hn
            rw [hn] at HN
            obtain ⟨s2, hs'⟩ : ∃ z : ByteArray, (⟨w0.toArray⟩ : ByteArray) = z := ⟨_, rfl⟩
            rw [hs'] at hfc0 HN
            clear hs' hn hks hk0d
            subst hA
            go_upto_region 12 with (fail)
            refine wp_region_grow (by kernel_rfl) (by kernel_rfl) (by first | (simp only [List.append]; rfl) | rfl) ?_
            (repeat (go_big_quiet_step ((go_at_call 13; exact growOf (HN.out _)))))
            refine wpQuiet_nil ?_
            intro wq hq
            obtain ⟨d9, rfl⟩ := hq
            go_upto_region 13 with (fail)
            refine wp_gen (fun V => Hid (Ext W1 V)) (hid (Ext.trans HX.out (by repeat (first | (with_reducible exact Ext.refl _) | (with_reducible refine Ext.undrew ?_) | (with_reducible refine Ext.grow ?_ _) | (with_reducible refine Ext.drew ?_) | (with_reducible refine Ext.drewN ?_ _) | (with_reducible refine Ext.alloc ?_ _) | (with_reducible assumption) | ((with_reducible refine Ext.setCell ?_ ?_ _); rotate_left; (first | exact Nat.le_refl _ | ((try dsimp only); (try simp only [World.size_alloc, grow_size, World.size_setCell]); omega))))))) ?_
            clear hfc0 hfb HX
            rintro V2 HX2
            go_upto_region 16 with (go_at_call 28; refine (HK.out _).mono ?_; rintro e w3 ⟨rfl, rfl⟩)
            refine wp_gen (fun V => Hid (Ext W1 V) ∧ Hid (PV V V2.heap.size (fun _ => 0))) ⟨hid (Ext.trans HX2.out (by repeat (first | (with_reducible exact Ext.refl _) | (with_reducible refine Ext.undrew ?_) | (with_reducible refine Ext.grow ?_ _) | (with_reducible refine Ext.drew ?_) | (with_reducible refine Ext.drewN ?_ _) | (with_reducible refine Ext.alloc ?_ _) | (with_reducible assumption) | ((with_reducible refine Ext.setCell ?_ ?_ _); rotate_left; (first | exact Nat.le_refl _ | ((try dsimp only); (try simp only [World.size_alloc, grow_size, World.size_setCell]); omega)))))), hid (PV.new V2 _)⟩ ?_
            rintro V3 ⟨HX3, HP3⟩
            have HNB : Hid (W1.heap.size ≤ V2.heap.size) := hid HX2.out.size
            generalize V2.heap.size = nb at HP3 HNB ⊢
            go_wp2
            go_loopw [9, 11] (fun a v wx => ∃ at_ j : Nat, j ≤ 3 ∧ a = .int .i64 at_ ∧ v = .int .i64 j ∧ 1 ≤ at_ ∧ at_ ≤ j + 1 ∧ Hid (acc.drop at_ = (partP numR ks ws j).2) ∧ Hid (PV wx nb (partP numR ks ws j).1) ∧ Hid (Ext W1 wx)) (fun _ v _ => 3 - (intOf v).toNat)
            case atStart => exact ⟨1, 0, by decide, rfl, rfl, by decide, by decide, hid (by rw [HCO.out]; rfl), HP3, HX3⟩
            case round =>
              clear HP3 HX3 HX2
              obtain ⟨at_, j, hj, rfl, rfl, ha1, ha2, HAC, HP, HXX⟩ := hrel
              have hj0 : (0 : Int) ≤ (j : Int) := by omega
              have ha0 : (0 : Int) ≤ (at_ : Int) := by omega
              by_cases hj3 : j < 3
              · have hji : (j : Int) < 3 := by omega
                have hjs : j < ks.size := by rw [hs3]; exact hj3
                have hjsi : (j : Int) < (ks.size : Int) := by omega
                have hch := chAt_get hjs
                obtain ⟨ch, hcc⟩ : ∃ z, chAt ks j = z := ⟨_, rfl⟩
                have HCH := hid hcc
                rw [hcc] at hch
                clear hcc
                by_cases c114 : ch = 114
                · subst c114
                  have q114 : (((ks[j]'hjs).toNat : Int) == 114) = true := by rw [hch]; simp
                  clear hch
                  by_cases hat : at_ < m
                  · have hati : (at_ : Int) < (m : Int) := by omega
                    have hatl : at_ < acc.length := by rw [HM.out]; exact hat
                    obtain ⟨vw, hvw⟩ : ∃ z, acc[at_]'hatl = z := ⟨_, rfl⟩
                    obtain ⟨fb2, fo2, hA2, hfb, hfc⟩ := (HF.out.ext HXX.out).elem strC_len hatl vw hvw
                    obtain ⟨rfl, rfl⟩ : fb = fb2 ∧ fo = fo2 := by simpa using hA2
                    have hfc0 : World.cell? wr ⟨fb, fo + at_, none⟩ = some (.string ⟨vw.toArray⟩) := by have h9 := hfc 0 _ rfl; rw [Nat.mul_one] at h9; exact h9
                    have hdr : acc.drop at_ = vw :: acc.drop (at_ + 1) := by rw [List.drop_eq_getElem_cons hatl, hvw]
                    have HTK := hid (partP_take (val := numR) (s := ks) (ws := ws) (i := j) (by rw [HCH.out]; omega) (by rw [HCH.out]; omega) (by rw [← HAC.out]; exact hdr))
                    have HNU : Hid (∀ W, Calls Tryd.prog 29 #[.string ⟨vw.toArray⟩] W fun e w' => e = .returned (.int .i64 (numR vw)) ∧ Ext W w') := hid (fun W => rnumber_ ⟨vw.toArray⟩ W (by have h8 := HWL.out vw (by rw [← hvw]; exact List.getElem_mem hatl); show vw.toArray.size ≤ 1000000; rw [List.size_toArray]; exact h8))
                    clear hvw hfc hdr hA2
                    go_wp2_with (go_at_call 29; refine (HNU.out _).mono ?_; rintro e w5 ⟨rfl, hx5⟩; have HP5 := hid (HP.out.ext hx5); have q5 := (HP5.out.2 j hj3).1; have q6 := (HP5.out.2 j hj3).2; have ql := HP5.out.1)
                    have HP6 := hid (HP5.out.set hj3 (numR vw))
                    have HX6 := hid (Ext.setCell (HXX.out.trans hx5) (show W1.heap.size ≤ nb from HNB.out) (.int .i64 (numR vw)) : Ext W1 (World.setCell w5 ⟨nb, j, none⟩ (.int .i64 (numR vw))))
                    clear q5 q6 ql HP5 hx5
                    go_roundw
                    case rel => exact ⟨at_ + 1, j + 1, by omega, by go_num, by go_num, by omega, by omega, hid (by rw [HTK.out]), hid (by rw [HTK.out]; exact HP6.out), HX6⟩
                    case measure => simp [intOf]; omega
                  · have hati : ¬ (at_ : Int) < (m : Int) := by omega
                    have HSK := hid (partP_skip (val := numR) (s := ks) (ws := ws) (i := j) (.inr (.inr (by rw [← HAC.out]; exact List.drop_of_length_le (by rw [HM.out]; omega)))))
                    go_wp2
                    go_roundw
                    case rel => exact ⟨at_, j + 1, by omega, rfl, by go_num, by omega, by omega, hid (by rw [HSK.out]; exact HAC.out), hid (by rw [HSK.out]; exact HP.out), HXX⟩
                    case measure => simp [intOf]; omega
                · skip
                  by_cases c105 : ch = 105
                  · subst c105
                    have q114 : (((ks[j]'hjs).toNat : Int) == 114) = false := by rw [hch]; simp
                    have q105 : (((ks[j]'hjs).toNat : Int) == 105) = true := by rw [hch]; simp
                    clear hch
                    by_cases hat : at_ < m
                    · have hati : (at_ : Int) < (m : Int) := by omega
                      have hatl : at_ < acc.length := by rw [HM.out]; exact hat
                      obtain ⟨vw, hvw⟩ : ∃ z, acc[at_]'hatl = z := ⟨_, rfl⟩
                      obtain ⟨fb2, fo2, hA2, hfb, hfc⟩ := (HF.out.ext HXX.out).elem strC_len hatl vw hvw
                      obtain ⟨rfl, rfl⟩ : fb = fb2 ∧ fo = fo2 := by simpa using hA2
                      have hfc0 : World.cell? wr ⟨fb, fo + at_, none⟩ = some (.string ⟨vw.toArray⟩) := by have h9 := hfc 0 _ rfl; rw [Nat.mul_one] at h9; exact h9
                      have hdr : acc.drop at_ = vw :: acc.drop (at_ + 1) := by rw [List.drop_eq_getElem_cons hatl, hvw]
                      have HTK := hid (partP_take (val := numR) (s := ks) (ws := ws) (i := j) (by rw [HCH.out]; omega) (by rw [HCH.out]; omega) (by rw [← HAC.out]; exact hdr))
                      have HNU : Hid (∀ W, Calls Tryd.prog 29 #[.string ⟨vw.toArray⟩] W fun e w' => e = .returned (.int .i64 (numR vw)) ∧ Ext W w') := hid (fun W => rnumber_ ⟨vw.toArray⟩ W (by have h8 := HWL.out vw (by rw [← hvw]; exact List.getElem_mem hatl); show vw.toArray.size ≤ 1000000; rw [List.size_toArray]; exact h8))
                      clear hvw hfc hdr hA2
                      go_wp2_with (go_at_call 29; refine (HNU.out _).mono ?_; rintro e w5 ⟨rfl, hx5⟩; have HP5 := hid (HP.out.ext hx5); have q5 := (HP5.out.2 j hj3).1; have q6 := (HP5.out.2 j hj3).2; have ql := HP5.out.1)
                      have HP6 := hid (HP5.out.set hj3 (numR vw))
                      have HX6 := hid (Ext.setCell (HXX.out.trans hx5) (show W1.heap.size ≤ nb from HNB.out) (.int .i64 (numR vw)) : Ext W1 (World.setCell w5 ⟨nb, j, none⟩ (.int .i64 (numR vw))))
                      clear q5 q6 ql HP5 hx5
                      go_roundw
                      case rel => exact ⟨at_ + 1, j + 1, by omega, by go_num, by go_num, by omega, by omega, hid (by rw [HTK.out]), hid (by rw [HTK.out]; exact HP6.out), HX6⟩
                      case measure => simp [intOf]; omega
                    · have hati : ¬ (at_ : Int) < (m : Int) := by omega
                      have HSK := hid (partP_skip (val := numR) (s := ks) (ws := ws) (i := j) (.inr (.inr (by rw [← HAC.out]; exact List.drop_of_length_le (by rw [HM.out]; omega)))))
                      go_wp2
                      go_roundw
                      case rel => exact ⟨at_, j + 1, by omega, rfl, by go_num, by omega, by omega, hid (by rw [HSK.out]; exact HAC.out), hid (by rw [HSK.out]; exact HP.out), HXX⟩
                      case measure => simp [intOf]; omega
                  · skip
                    by_cases c119 : ch = 119
                    · subst c119
                      have q114 : (((ks[j]'hjs).toNat : Int) == 114) = false := by rw [hch]; simp
                      have q105 : (((ks[j]'hjs).toNat : Int) == 105) = false := by rw [hch]; simp
                      have q119 : (((ks[j]'hjs).toNat : Int) == 119) = true := by rw [hch]; simp
                      clear hch
                      by_cases hat : at_ < m
                      · have hati : (at_ : Int) < (m : Int) := by omega
                        have hatl : at_ < acc.length := by rw [HM.out]; exact hat
                        obtain ⟨vw, hvw⟩ : ∃ z, acc[at_]'hatl = z := ⟨_, rfl⟩
                        obtain ⟨fb2, fo2, hA2, hfb, hfc⟩ := (HF.out.ext HXX.out).elem strC_len hatl vw hvw
                        obtain ⟨rfl, rfl⟩ : fb = fb2 ∧ fo = fo2 := by simpa using hA2
                        have hfc0 : World.cell? wr ⟨fb, fo + at_, none⟩ = some (.string ⟨vw.toArray⟩) := by have h9 := hfc 0 _ rfl; rw [Nat.mul_one] at h9; exact h9
                        have hdr : acc.drop at_ = vw :: acc.drop (at_ + 1) := by rw [List.drop_eq_getElem_cons hatl, hvw]
                        have HTK := hid (partP_take (val := numR) (s := ks) (ws := ws) (i := j) (by rw [HCH.out]; omega) (by rw [HCH.out]; omega) (by rw [← HAC.out]; exact hdr))
                        have HNU : Hid (∀ W, Calls Tryd.prog 29 #[.string ⟨vw.toArray⟩] W fun e w' => e = .returned (.int .i64 (numR vw)) ∧ Ext W w') := hid (fun W => rnumber_ ⟨vw.toArray⟩ W (by have h8 := HWL.out vw (by rw [← hvw]; exact List.getElem_mem hatl); show vw.toArray.size ≤ 1000000; rw [List.size_toArray]; exact h8))
                        clear hvw hfc hdr hA2
                        go_wp2_with (go_at_call 29; refine (HNU.out _).mono ?_; rintro e w5 ⟨rfl, hx5⟩; have HP5 := hid (HP.out.ext hx5); have q5 := (HP5.out.2 j hj3).1; have q6 := (HP5.out.2 j hj3).2; have ql := HP5.out.1)
                        have HP6 := hid (HP5.out.set hj3 (numR vw))
                        have HX6 := hid (Ext.setCell (HXX.out.trans hx5) (show W1.heap.size ≤ nb from HNB.out) (.int .i64 (numR vw)) : Ext W1 (World.setCell w5 ⟨nb, j, none⟩ (.int .i64 (numR vw))))
                        clear q5 q6 ql HP5 hx5
                        go_roundw
                        case rel => exact ⟨at_ + 1, j + 1, by omega, by go_num, by go_num, by omega, by omega, hid (by rw [HTK.out]), hid (by rw [HTK.out]; exact HP6.out), HX6⟩
                        case measure => simp [intOf]; omega
                      · have hati : ¬ (at_ : Int) < (m : Int) := by omega
                        have HSK := hid (partP_skip (val := numR) (s := ks) (ws := ws) (i := j) (.inr (.inr (by rw [← HAC.out]; exact List.drop_of_length_le (by rw [HM.out]; omega)))))
                        go_wp2
                        go_roundw
                        case rel => exact ⟨at_, j + 1, by omega, rfl, by go_num, by omega, by omega, hid (by rw [HSK.out]; exact HAC.out), hid (by rw [HSK.out]; exact HP.out), HXX⟩
                        case measure => simp [intOf]; omega
                    · skip
                      have q114 : (((ks[j]'hjs).toNat : Int) == 114) = false := by rw [hch]; simpa using (fun e => c114 (by omega))
                      have q105 : (((ks[j]'hjs).toNat : Int) == 105) = false := by rw [hch]; simpa using (fun e => c105 (by omega))
                      have q119 : (((ks[j]'hjs).toNat : Int) == 119) = false := by rw [hch]; simpa using (fun e => c119 (by omega))
                      have HSK := hid (partP_skip (val := numR) (s := ks) (ws := ws) (i := j) (by
                        rw [HCH.out]
                        rcases HAL.out j hj3 with h | h | h | h | h
                        · rw [HCH.out] at h; exact absurd h c114
                        · rw [HCH.out] at h; exact absurd h c105
                        · rw [HCH.out] at h; exact absurd h c119
                        · rw [HCH.out] at h; exact .inl h
                        · rw [HCH.out] at h; exact .inr (.inl h)))
                      clear hch c114 c105 c119
                      go_wp2
                      go_roundw
                      case rel => exact ⟨at_, j + 1, by omega, rfl, by go_num, by omega, by omega, hid (by rw [HSK.out]; exact HAC.out), hid (by rw [HSK.out]; exact HP.out), HXX⟩
                      case measure => simp [intOf]; omega
              · obtain rfl : j = 3 := by omega
                have hji : ¬ ((3 : Nat) : Int) < 3 := by omega
                obtain ⟨a, hpa⟩ : ∃ z, (partP numR ks ws 3).1 0 = z := ⟨_, rfl⟩
                obtain ⟨b, hpb⟩ : ∃ z, (partP numR ks ws 3).1 1 = z := ⟨_, rfl⟩
                obtain ⟨c, hpc⟩ : ∃ z, (partP numR ks ws 3).1 2 = z := ⟨_, rfl⟩
                have p0 := (HP.out.2 0 (by decide)).1
                have p1 := (HP.out.2 1 (by decide)).1
                have p2 := (HP.out.2 2 (by decide)).1
                have pl := HP.out.1
                rw [hpa] at p0
                rw [hpb] at p1
                rw [hpc] at p2
                have HPA := hid hpa
                have HPB := hid hpb
                have HPC := hid hpc
                clear hpa hpb hpc HP HAC
                go_upto_region 22 with (fail)
                refine wp_region_step (.rd 0 (.rd 1 (.rd 2 (.rd 3 (.rd 4 (.rd 5 (.rd 6 (.rd 7 (.rd 8 (.rd 9 (.rd 10 (.ac 11 (.ac 12 .done))))))))))))) (by kernel_rfl) (by kernel_rfl) (fun _ _ d _ _ h => by cases d <;> exact h) (by simp only [Ord.map, nthOp, List.append]; rfl) ?_
                intro d0
                repeat' (first | (refine step_read (by rfl) (fun K hK => ?_); go_big_quiet_op; refine hK _ ?_; clear hK K) | (refine step_act (by rfl) (fun K hK => ?_); go_wp2_with (first | fail); refine ⟨_, Ext.refl _, (by repeat (first | (with_reducible exact Ext.refl _) | (with_reducible refine Ext.undrew ?_) | (with_reducible refine Ext.grow ?_ _) | (with_reducible refine Ext.drew ?_) | (with_reducible refine Ext.drewN ?_ _) | (with_reducible refine Ext.alloc ?_ _) | (with_reducible assumption) | ((with_reducible refine Ext.setCell ?_ ?_ _); rotate_left; (first | exact Nat.le_refl _ | ((try dsimp only); (try simp only [World.size_alloc, grow_size, World.size_setCell]); omega))))), ?_⟩) | refine step_br ?_ ?_)
                all_goals refine step_nil ?_
                go_upto_region 23 with (fail)
                refine wp_gen (fun V => Hid (Ext W1 V) ∧ Hid (Row V (wr.heap.size + d0.n) 0 [.int .i64 (k : Int), .int .i64 a, .int .i64 b, .int .i64 c])) ⟨hid (Ext.trans HXX.out (by repeat (first | (with_reducible exact Ext.refl _) | (with_reducible refine Ext.undrew ?_) | (with_reducible refine Ext.grow ?_ _) | (with_reducible refine Ext.drew ?_) | (with_reducible refine Ext.drewN ?_ _) | (with_reducible refine Ext.alloc ?_ _) | (with_reducible assumption) | ((with_reducible refine Ext.setCell ?_ ?_ _); rotate_left; (first | exact Nat.le_refl _ | ((try dsimp only); (try simp only [World.size_alloc, grow_size, World.size_setCell]); omega)))))), hid (by have h9 := Row.new (Go.Proofs.YtdhpbofpomefoaaDoor.grow wr d0) #[.int .i64 (k : Int), .int .i64 a, .int .i64 b, .int .i64 c] 23; rw [grow_size] at h9; exact h9)⟩ ?_
                clear p0 p1 p2 pl HXX
                rintro V4 ⟨HX4, HN4⟩
                generalize wr.heap.size + d0.n = xb at HN4 ⊢
                have hw : words s.data.toList = w0 :: ws := by rw [words_go _ _ (Nat.le_refl _), HWD.out, HCO.out]
                have n0 : World.cell? V4 ⟨xb, 0, none⟩ = some (.int .i64 (k : Int)) := by have := HN4.out.at_ 0 _ rfl; simpa using this
                have n1 : World.cell? V4 ⟨xb, 1, none⟩ = some (.int .i64 a) := by have := HN4.out.at_ 1 _ rfl; simpa using this
                have n2 : World.cell? V4 ⟨xb, 2, none⟩ = some (.int .i64 b) := by have := HN4.out.at_ 2 _ rfl; simpa using this
                have n3 : World.cell? V4 ⟨xb, 3, none⟩ = some (.int .i64 c) := by have := HN4.out.at_ 3 _ rfl; simpa using this
                have nl := HN4.out.lt
                by_cases hts : textL (k : Int) a b c = s.data.toList
                · have HPY := hid (rp_yes hk30 hw HNM.out (by rw [HKS.out, HPA.out, HPB.out, HPC.out]; exact hts))
                  have HPZ : Hid (parseN numR s.data.toList = (⟨k, a, b, c⟩, true)) := hid (by have h9 := HPY.out; rw [HKS.out, HPA.out, HPB.out, HPC.out] at h9; exact h9)
                  have HTX : Hid (∀ W, Ext w W → Calls Tryd.prog 15 #[.agg #[.int .i64 (k : Int), .int .i64 a, .int .i64 b, .int .i64 c]] W fun e w' => e = .returned (.string s) ∧ Ext W w') := hid (fun W hx => by have h := rtext_ (k : Int) a b c W (HT.out.ext hx); rw [hts] at h; exact h)
                  clear hts hw HPY
                  go_upto_region 24 with (go_at_call 15; refine (HTX.out _ (Ext.trans HXW.out (HX4.out.trans (by repeat (first | (with_reducible exact Ext.refl _) | (with_reducible refine Ext.undrew ?_) | (with_reducible refine Ext.grow ?_ _) | (with_reducible refine Ext.drew ?_) | (with_reducible refine Ext.drewN ?_ _) | (with_reducible refine Ext.alloc ?_ _) | (with_reducible assumption) | ((with_reducible refine Ext.setCell ?_ ?_ _); rotate_left; (first | exact Nat.le_refl _ | ((try dsimp only); (try simp only [World.size_alloc, grow_size, World.size_setCell]); omega)))))))).mono ?_; rintro e w6 ⟨rfl, hx6⟩)
                  have HN6 := hid (HN4.out.ext hx6)
                  have HRZ := hid (HRR.out.ext (HX4.out.trans hx6))
                  have hxw := HXW.out.trans (HX4.out.trans hx6)
                  have hrl := HRL.out
                  clear n0 n1 n2 n3 nl HN4 hx6
                  have n0 : World.cell? w6 ⟨xb, 0, none⟩ = some (.int .i64 (k : Int)) := by have := HN6.out.at_ 0 _ rfl; simpa using this
                  have n1 : World.cell? w6 ⟨xb, 1, none⟩ = some (.int .i64 a) := by have := HN6.out.at_ 1 _ rfl; simpa using this
                  have n2 : World.cell? w6 ⟨xb, 2, none⟩ = some (.int .i64 b) := by have := HN6.out.at_ 2 _ rfl; simpa using this
                  have n3 : World.cell? w6 ⟨xb, 3, none⟩ = some (.int .i64 c) := by have := HN6.out.at_ 3 _ rfl; simpa using this
                  have nl := HN6.out.lt
                  have z0 : World.cell? w6 ⟨rr, 0, none⟩ = some (.int .i64 0) := by have := HRZ.out.at_ 0 _ rfl; simpa using this
                  have zf0 : World.frozen? w6 ⟨rr, 0, none⟩ = false := by have := HRZ.out.free 0 (by simp); simpa using this
                  have z1 : World.cell? w6 ⟨rr, 1, none⟩ = some (.int .i64 0) := by have := HRZ.out.at_ 1 _ rfl; simpa using this
                  have zf1 : World.frozen? w6 ⟨rr, 1, none⟩ = false := by have := HRZ.out.free 1 (by simp); simpa using this
                  have z2 : World.cell? w6 ⟨rr, 2, none⟩ = some (.int .i64 0) := by have := HRZ.out.at_ 2 _ rfl; simpa using this
                  have zf2 : World.frozen? w6 ⟨rr, 2, none⟩ = false := by have := HRZ.out.free 2 (by simp); simpa using this
                  have z3 : World.cell? w6 ⟨rr, 3, none⟩ = some (.int .i64 0) := by have := HRZ.out.at_ 3 _ rfl; simpa using this
                  have zf3 : World.frozen? w6 ⟨rr, 3, none⟩ = false := by have := HRZ.out.free 3 (by simp); simpa using this
                  have zl := HRZ.out.lt
                  go_wp2
                  rw [HPZ.out]
                  have HRW : Row (World.setCell (World.setCell (World.setCell (World.setCell w6 ⟨rr, 0, none⟩ (.int .i64 (k : Int))) ⟨rr, 1, none⟩ (.int .i64 a)) ⟨rr, 2, none⟩ (.int .i64 b)) ⟨rr, 3, none⟩ (.int .i64 c)) rr 0 [.int .i64 (k : Int), .int .i64 a, .int .i64 b, .int .i64 c] := row_atc (row_atc (row_atc (row_atc HRZ.out 0 (by simp) _) 1 (by simp) _) 2 (by simp) _) 3 (by simp) _
                  have r0 : World.cell? (World.setCell (World.setCell (World.setCell (World.setCell w6 ⟨rr, 0, none⟩ (.int .i64 (k : Int))) ⟨rr, 1, none⟩ (.int .i64 a)) ⟨rr, 2, none⟩ (.int .i64 b)) ⟨rr, 3, none⟩ (.int .i64 c)) ⟨rr, 0, none⟩ = some (.int .i64 (k : Int)) := by have := HRW.at_ 0 _ rfl; simpa using this
                  have r1 : World.cell? (World.setCell (World.setCell (World.setCell (World.setCell w6 ⟨rr, 0, none⟩ (.int .i64 (k : Int))) ⟨rr, 1, none⟩ (.int .i64 a)) ⟨rr, 2, none⟩ (.int .i64 b)) ⟨rr, 3, none⟩ (.int .i64 c)) ⟨rr, 1, none⟩ = some (.int .i64 a) := by have := HRW.at_ 1 _ rfl; simpa using this
                  have r2 : World.cell? (World.setCell (World.setCell (World.setCell (World.setCell w6 ⟨rr, 0, none⟩ (.int .i64 (k : Int))) ⟨rr, 1, none⟩ (.int .i64 a)) ⟨rr, 2, none⟩ (.int .i64 b)) ⟨rr, 3, none⟩ (.int .i64 c)) ⟨rr, 2, none⟩ = some (.int .i64 b) := by have := HRW.at_ 2 _ rfl; simpa using this
                  have r3 : World.cell? (World.setCell (World.setCell (World.setCell (World.setCell w6 ⟨rr, 0, none⟩ (.int .i64 (k : Int))) ⟨rr, 1, none⟩ (.int .i64 a)) ⟨rr, 2, none⟩ (.int .i64 b)) ⟨rr, 3, none⟩ (.int .i64 c)) ⟨rr, 3, none⟩ = some (.int .i64 c) := by have := HRW.at_ 3 _ rfl; simpa using this
                  exact bodyPost_ret (v := .tuple #[.agg #[.int .i64 (k : Int), .int .i64 a, .int .i64 b, .int .i64 c], .bool true]) (by simp [results, Tryd.results11, go_sem, r0, r1, r2, r3]) rfl ⟨rfl, (by repeat (first | (with_reducible exact Ext.refl _) | (with_reducible refine Ext.undrew ?_) | (with_reducible refine Ext.grow ?_ _) | (with_reducible refine Ext.drew ?_) | (with_reducible refine Ext.drewN ?_ _) | (with_reducible refine Ext.alloc ?_ _) | (with_reducible assumption) | ((with_reducible refine Ext.setCell ?_ ?_ _); rotate_left; (first | exact Nat.le_refl _ | ((try dsimp only); (try simp only [World.size_alloc, grow_size, World.size_setCell]); omega)))))⟩
                · have HPZ : Hid (parseN numR s.data.toList = (noIn, false)) := hid (rp_no hk30 hw HNM.out (by rw [HKS.out, HPA.out, HPB.out, HPC.out]; exact hts))
                  have hs1 := bs_eq (textL (k : Int) a b c) s.data.toList
                  have hs2 := bs_eqL (textL (k : Int) a b c) s.data.toList
                  rw [decide_eq_false hts] at hs1 hs2
                  obtain ⟨tl, htl⟩ : ∃ z : ByteArray, (⟨(textL (k : Int) a b c).toArray⟩ : ByteArray) = z := ⟨_, rfl⟩
                  rw [htl] at hs1 hs2
                  rw [ba_eta] at hs1 hs2
                  have HTX : Hid (∀ W, Ext w W → Calls Tryd.prog 15 #[.agg #[.int .i64 (k : Int), .int .i64 a, .int .i64 b, .int .i64 c]] W fun e w' => e = .returned (.string tl) ∧ Ext W w') := hid (fun W hx => by have h := rtext_ (k : Int) a b c W (HT.out.ext hx); rw [htl] at h; exact h)
                  clear hts hw htl
                  go_wp2_with (go_at_call 15; refine (HTX.out _ (Ext.trans HXW.out (HX4.out.trans (by repeat (first | (with_reducible exact Ext.refl _) | (with_reducible refine Ext.undrew ?_) | (with_reducible refine Ext.grow ?_ _) | (with_reducible refine Ext.drew ?_) | (with_reducible refine Ext.drewN ?_ _) | (with_reducible refine Ext.alloc ?_ _) | (with_reducible assumption) | ((with_reducible refine Ext.setCell ?_ ?_ _); rotate_left; (first | exact Nat.le_refl _ | ((try dsimp only); (try simp only [World.size_alloc, grow_size, World.size_setCell]); omega)))))))).mono ?_; rintro e w6 ⟨rfl, hx6⟩)
                  go_roundw
                  case rel => exact ⟨k + 1, by omega, by go_num, hid ((HX4.out.trans (by repeat (first | (with_reducible exact Ext.refl _) | (with_reducible refine Ext.undrew ?_) | (with_reducible refine Ext.grow ?_ _) | (with_reducible refine Ext.drew ?_) | (with_reducible refine Ext.drewN ?_ _) | (with_reducible refine Ext.alloc ?_ _) | (with_reducible assumption) | ((with_reducible refine Ext.setCell ?_ ?_ _); rotate_left; (first | exact Nat.le_refl _ | ((try dsimp only); (try simp only [World.size_alloc, grow_size, World.size_setCell]); omega)))))).trans hx6), hid (.inr HPZ.out)⟩
                  case measure => simp [intOf]; omega
          · have hs1 := bs_eq (nameL k) w0
            have hs2 := bs_eqL (nameL k) w0
            rw [decide_eq_false hn] at hs1 hs2
            have HN2 : Hid ((∀ j : Nat, j < k + 1 → ¬ nameL j = w0) ∨ parseN numR s.data.toList = (noIn, false)) := hid (by
              rcases HNO.out with h | h
              · refine .inl fun j hj => ?_
                by_cases hjk : j = k
                · subst hjk; exact hn
                · exact h j (by omega)
              · exact .inr h)
            obtain ⟨s1, hs⟩ : ∃ z : ByteArray, (⟨(nameL k).toArray⟩ : ByteArray) = z := ⟨_, rfl⟩
            obtain ⟨s2, hs'⟩ : ∃ z : ByteArray, (⟨w0.toArray⟩ : ByteArray) = z := ⟨_, rfl⟩
            rw [hs] at hs1 hs2 HN
            rw [hs'] at hs1 hs2 hfc0
            clear hs hs' hn
            subst hA
            go_upto_region 12 with (fail)
            refine wp_region_grow (by kernel_rfl) (by kernel_rfl) (by first | (simp only [List.append]; rfl) | rfl) ?_
            (repeat (go_big_quiet_step ((go_at_call 13; exact growOf (HN.out _)))))
            refine wpQuiet_nil ?_
            intro wq hq
            obtain ⟨d9, rfl⟩ := hq
            go_wp2
            go_roundw
            case rel => exact ⟨k + 1, by omega, by go_num, hid (Ext.trans HX.out (by repeat (first | (with_reducible exact Ext.refl _) | (with_reducible refine Ext.undrew ?_) | (with_reducible refine Ext.grow ?_ _) | (with_reducible refine Ext.drew ?_) | (with_reducible refine Ext.drewN ?_ _) | (with_reducible refine Ext.alloc ?_ _) | (with_reducible assumption) | ((with_reducible refine Ext.setCell ?_ ?_ _); rotate_left; (first | exact Nat.le_refl _ | ((try dsimp only); (try simp only [World.size_alloc, grow_size, World.size_setCell]); omega)))))), HN2⟩
            case measure => simp [intOf]; omega
        · obtain rfl : k = 30 := by omega
          have hk1 : ¬ ((30 : Nat) : Int) ≤ 29 := by omega
          have HPN : Hid (parseN numR s.data.toList = (noIn, false)) := hid (by
            rcases HNO.out with h | h
            · exact rp_none (by rw [words_go _ _ (Nat.le_refl _), HWD.out, HCO.out]) (fun j hj => h j hj)
            · exact h)
          have HRZ := hid (HRR.out.ext HX.out)
          have hxw := HXW.out.trans HX.out
          have hrl := HRL.out
          have z0 : World.cell? W2 ⟨rr, 0, none⟩ = some (.int .i64 0) := by have := HRZ.out.at_ 0 _ rfl; simpa using this
          have zf0 : World.frozen? W2 ⟨rr, 0, none⟩ = false := by have := HRZ.out.free 0 (by simp); simpa using this
          have z1 : World.cell? W2 ⟨rr, 1, none⟩ = some (.int .i64 0) := by have := HRZ.out.at_ 1 _ rfl; simpa using this
          have zf1 : World.frozen? W2 ⟨rr, 1, none⟩ = false := by have := HRZ.out.free 1 (by simp); simpa using this
          have z2 : World.cell? W2 ⟨rr, 2, none⟩ = some (.int .i64 0) := by have := HRZ.out.at_ 2 _ rfl; simpa using this
          have zf2 : World.frozen? W2 ⟨rr, 2, none⟩ = false := by have := HRZ.out.free 2 (by simp); simpa using this
          have z3 : World.cell? W2 ⟨rr, 3, none⟩ = some (.int .i64 0) := by have := HRZ.out.at_ 3 _ rfl; simpa using this
          have zf3 : World.frozen? W2 ⟨rr, 3, none⟩ = false := by have := HRZ.out.free 3 (by simp); simpa using this
          have zl := HRZ.out.lt
          go_wp2
          rw [HPN.out]
          have HRW : Row (World.setCell (World.setCell (World.setCell (World.setCell W2 ⟨rr, 0, none⟩ (.int .i64 0)) ⟨rr, 1, none⟩ (.int .i64 0)) ⟨rr, 2, none⟩ (.int .i64 0)) ⟨rr, 3, none⟩ (.int .i64 0)) rr 0 [.int .i64 0, .int .i64 0, .int .i64 0, .int .i64 0] := row_atc (row_atc (row_atc (row_atc HRZ.out 0 (by simp) _) 1 (by simp) _) 2 (by simp) _) 3 (by simp) _
          have r0 : World.cell? (World.setCell (World.setCell (World.setCell (World.setCell W2 ⟨rr, 0, none⟩ (.int .i64 0)) ⟨rr, 1, none⟩ (.int .i64 0)) ⟨rr, 2, none⟩ (.int .i64 0)) ⟨rr, 3, none⟩ (.int .i64 0)) ⟨rr, 0, none⟩ = some (.int .i64 0) := by have := HRW.at_ 0 _ rfl; simpa using this
          have r1 : World.cell? (World.setCell (World.setCell (World.setCell (World.setCell W2 ⟨rr, 0, none⟩ (.int .i64 0)) ⟨rr, 1, none⟩ (.int .i64 0)) ⟨rr, 2, none⟩ (.int .i64 0)) ⟨rr, 3, none⟩ (.int .i64 0)) ⟨rr, 1, none⟩ = some (.int .i64 0) := by have := HRW.at_ 1 _ rfl; simpa using this
          have r2 : World.cell? (World.setCell (World.setCell (World.setCell (World.setCell W2 ⟨rr, 0, none⟩ (.int .i64 0)) ⟨rr, 1, none⟩ (.int .i64 0)) ⟨rr, 2, none⟩ (.int .i64 0)) ⟨rr, 3, none⟩ (.int .i64 0)) ⟨rr, 2, none⟩ = some (.int .i64 0) := by have := HRW.at_ 2 _ rfl; simpa using this
          have r3 : World.cell? (World.setCell (World.setCell (World.setCell (World.setCell W2 ⟨rr, 0, none⟩ (.int .i64 0)) ⟨rr, 1, none⟩ (.int .i64 0)) ⟨rr, 2, none⟩ (.int .i64 0)) ⟨rr, 3, none⟩ (.int .i64 0)) ⟨rr, 3, none⟩ = some (.int .i64 0) := by have := HRW.at_ 3 _ rfl; simpa using this
          exact bodyPost_ret (v := .tuple #[.agg #[.int .i64 0, .int .i64 0, .int .i64 0, .int .i64 0], .bool false]) (by simp [results, Tryd.results11, go_sem, r0, r1, r2, r3]) rfl ⟨rfl, (by repeat (first | (with_reducible exact Ext.refl _) | (with_reducible refine Ext.undrew ?_) | (with_reducible refine Ext.grow ?_ _) | (with_reducible refine Ext.drew ?_) | (with_reducible refine Ext.drewN ?_ _) | (with_reducible refine Ext.alloc ?_ _) | (with_reducible assumption) | ((with_reducible refine Ext.setCell ?_ ?_ _); rotate_left; (first | exact Nat.le_refl _ | ((try dsimp only); (try simp only [World.size_alloc, grow_size, World.size_setCell]); omega)))))⟩

end Go.Proofs.YtdhpbofpomefoaaDoor
