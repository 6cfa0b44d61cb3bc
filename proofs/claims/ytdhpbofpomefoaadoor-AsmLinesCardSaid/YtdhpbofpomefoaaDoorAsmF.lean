/- Layer 16: the document on how one is written. -/
import Derived.Test.YtdhpbofpomefoaaDoorAsmE
import Derived.Test.YtdhpbofpomefoaaDoorAsmD
namespace Go.Proofs.YtdhpbofpomefoaaDoor
set_option linter.unusedSimpArgs false
set_option linter.unusedVariables false
open Go.RowKit

set_option maxRecDepth 100000 in
set_option maxHeartbeats 4000000 in
theorem rtext_ (op a b c : Int) (w : World) (ht : Tb w) : Calls Tryd.prog 15 #[.agg #[.int .i64 op, .int .i64 a, .int .i64 b, .int .i64 c]] w fun e w' => e = .returned (.string ⟨(textL op a b c).toArray⟩) ∧ Ext w w' := by
  have HT := hid ht
  clear ht
  cases hri : rightI op a b c with
  | false =>
    have HRI := hid hri
    have htx : textL op a b c = [] := by unfold textL; rw [if_neg (by rw [hri]; decide)]
    rw [htx]
    clear hri htx
    go_enter Tryd.func15, Tryd.ntmps15
    go_wp2_with (go_at_call 21; refine (rright15 op a b c _).mono ?_; rw [HRI.out]; rintro e w1 ⟨rfl, hx1⟩)
    go_ret
    exact ⟨rfl, (Ext.alloc (Ext.refl w) _).trans hx1⟩
  | true =>
    have HRI := hid hri
    have hk0 := right_kd hri
    have HV := hid (right_bd hri)
    have hs3 : (kstr (kd op)).size = 3 := by have := kstr_size ⟨kd op, kd_lt op⟩; simp only at this; rw [this, if_neg hk0]
    have htx : textL op a b c = nameL op ++ partT (kstr (kd op)) (v3 a b c) 3 := by unfold textL; rw [if_pos hri, ← partT_all hk0, hs3]
    rw [htx]
    have hnl := nameL_len op
    have hK := fun w => rkinds op w
    obtain ⟨nm, hnm⟩ : ∃ z, nameL op = z := ⟨_, rfl⟩
    have HN : Hid (∀ w, Calls Tryd.prog 13 #[.int .i64 op] w fun e w' => e = .returned (.string ⟨nm.toArray⟩) ∧ Ext w w') := hid (fun w => by have := rname_ op w; rw [hnm] at this; exact this)
    rw [hnm] at hnl ⊢
    generalize kstr (kd op) = s at hs3 hK ⊢
    have HK := hid hK
    have hnl0 : nm.length ≤ 4 := hnl
    clear hri htx hk0 hK hnm hnl
    go_enter Tryd.func15, Tryd.ntmps15
    go_upto_region 1 with (fail)
    refine wp_gen (fun V => Hid (Ext w V) ∧ Hid (Row V w.heap.size 0 [.int .i64 op, .int .i64 a, .int .i64 b, .int .i64 c])) ⟨hid (by repeat (first | (with_reducible exact Ext.refl _) | (with_reducible refine Ext.undrew ?_) | (with_reducible refine Ext.grow ?_ _) | (with_reducible refine Ext.drew ?_) | (with_reducible refine Ext.drewN ?_ _) | (with_reducible refine Ext.alloc ?_ _) | (with_reducible assumption) | ((with_reducible refine Ext.setCell ?_ ?_ _); rotate_left; (first | exact Nat.le_refl _ | ((try dsimp only); (try simp only [World.size_alloc, grow_size, World.size_setCell]); omega))))), hid (Row.new w _ _)⟩ ?_
    rintro V0 ⟨HX0, HO0⟩
    generalize w.heap.size = ob at HO0 ⊢
    have o0 : World.cell? V0 ⟨ob, 0, none⟩ = some (.int .i64 op) := by have := HO0.out.at_ 0 _ rfl; simpa using this
    have o1 : World.cell? V0 ⟨ob, 1, none⟩ = some (.int .i64 a) := by have := HO0.out.at_ 1 _ rfl; simpa using this
    have o2 : World.cell? V0 ⟨ob, 2, none⟩ = some (.int .i64 b) := by have := HO0.out.at_ 2 _ rfl; simpa using this
    have o3 : World.cell? V0 ⟨ob, 3, none⟩ = some (.int .i64 c) := by have := HO0.out.at_ 3 _ rfl; simpa using this
    have ol := HO0.out.lt
    go_upto_region 3 with (go_at_call 21; refine (rright15 op a b c _).mono ?_; rw [HRI.out]; rintro e w1 ⟨rfl, hx1⟩)
    have HO1 := hid (HO0.out.ext hx1)
    have HX1 := hid (HX0.out.trans hx1)
    clear HO0 HX0 hx1 o0 o1 o2 o3 ol
    have o0 : World.cell? w1 ⟨ob, 0, none⟩ = some (.int .i64 op) := by have := HO1.out.at_ 0 _ rfl; simpa using this
    have o1 : World.cell? w1 ⟨ob, 1, none⟩ = some (.int .i64 a) := by have := HO1.out.at_ 1 _ rfl; simpa using this
    have o2 : World.cell? w1 ⟨ob, 2, none⟩ = some (.int .i64 b) := by have := HO1.out.at_ 2 _ rfl; simpa using this
    have o3 : World.cell? w1 ⟨ob, 3, none⟩ = some (.int .i64 c) := by have := HO1.out.at_ 3 _ rfl; simpa using this
    have ol := HO1.out.lt
    go_upto_region 4 with (go_at_call 13; refine (HN.out _).mono ?_; rintro e w2 ⟨rfl, hx2⟩)
    have HO2 := hid (HO1.out.ext hx2)
    have HX2 := hid (HX1.out.trans hx2)
    clear HO1 HX1 hx2 o0 o1 o2 o3 ol
    have o0 : World.cell? w2 ⟨ob, 0, none⟩ = some (.int .i64 op) := by have := HO2.out.at_ 0 _ rfl; simpa using this
    have o1 : World.cell? w2 ⟨ob, 1, none⟩ = some (.int .i64 a) := by have := HO2.out.at_ 1 _ rfl; simpa using this
    have o2 : World.cell? w2 ⟨ob, 2, none⟩ = some (.int .i64 b) := by have := HO2.out.at_ 2 _ rfl; simpa using this
    have o3 : World.cell? w2 ⟨ob, 3, none⟩ = some (.int .i64 c) := by have := HO2.out.at_ 3 _ rfl; simpa using this
    have ol := HO2.out.lt
    go_upto_region 6 with (go_at_call 28; refine (HK.out _).mono ?_; rintro e w3 ⟨rfl, rfl⟩)
    refine wp_gen (fun V => Hid (Ext w V) ∧ Hid (Row V w2.heap.size 0 [.int .i64 a, .int .i64 b, .int .i64 c])) ⟨hid (HX2.out.trans (by repeat (first | (with_reducible exact Ext.refl _) | (with_reducible refine Ext.undrew ?_) | (with_reducible refine Ext.grow ?_ _) | (with_reducible refine Ext.drew ?_) | (with_reducible refine Ext.drewN ?_ _) | (with_reducible refine Ext.alloc ?_ _) | (with_reducible assumption) | ((with_reducible refine Ext.setCell ?_ ?_ _); rotate_left; (first | exact Nat.le_refl _ | ((try dsimp only); (try simp only [World.size_alloc, grow_size, World.size_setCell]); omega)))))), hid (Row.new w2 _ _)⟩ ?_
    clear HX2 HO2 o0 o1 o2 o3 ol HN HK
    rintro W ⟨HXW, HPW⟩
    generalize w2.heap.size = pb at HPW ⊢
    have HS3 := hid hs3
    clear hs3
    have hq := HPW.out.lt
    go_wp2
    go_loopw [3, 6] (fun t i wr => ∃ k : Nat, k ≤ 3 ∧ t = .string ⟨(nm ++ partT s (v3 a b c) k).toArray⟩ ∧ i = .int .i64 k ∧ Hid (Ext W wr)) (fun _ i _ => 3 - (intOf i).toNat)
    case atStart => exact ⟨0, Nat.zero_le _, by rw [partT_zero, List.append_nil], rfl, hid (Ext.refl _)⟩
    case round =>
      obtain ⟨k, hk, rfl, rfl, hx⟩ := hrel
      have HI0 : (0 : Int) ≤ (k : Int) := by omega
      by_cases hlt : k < 3
      · have HI1 : (k : Int) < 3 := by omega
        have hks : k < s.size := by rw [HS3.out]; exact hlt
        have hksi : (k : Int) < (s.size : Int) := by omega
        have hch := chAt_get hks
        have hps : wr.cell? ⟨pb, k, none⟩ = some (.int .i64 (v3 a b c k)) := (hx.out.cells pb k hq).trans (by
          match k, hlt with
          | 0, _ => have := HPW.out.at_ 0 _ rfl; simpa [v3] using this
          | 1, _ => have := HPW.out.at_ 1 _ rfl; simpa [v3] using this
          | 2, _ => have := HPW.out.at_ 2 _ rfl; simpa [v3] using this)
        have hqr : pb < wr.heap.size := Nat.lt_of_lt_of_le hq hx.out.size
        have HTT := hid (HT.out.ext (HXW.out.trans hx.out))
        have hvb := HV.out k
        obtain ⟨vi, hvi⟩ : ∃ z, v3 a b c k = z := ⟨_, rfl⟩
        have hpl := partT_len s (v3 a b c) HV.out k
        have hil := itoa_len hvb.1 hvb.2
        rw [hvi] at hps hvb hil
        obtain ⟨hv0, hv1⟩ := hvb
        obtain ⟨pt, hpt⟩ : ∃ z, partT s (v3 a b c) k = z := ⟨_, rfl⟩
        have HPT : Hid (partT s (v3 a b c) (k + 1) = pt ++ argC (chAt s k) vi) := hid (by rw [partT_succ, hpt, hvi])
        rw [hpt] at hpl ⊢
        obtain ⟨ch, hcc⟩ : ∃ z, chAt s k = z := ⟨_, rfl⟩
        rw [hcc] at HPT hch
        have hz1 : (nm ++ pt).length ≤ 100 := by rw [List.length_append]; omega
        clear hvi hpt hcc
        by_cases h1 : ch = 114
        · have q1 : (((s[k]'hks).toNat : Int) == 114) = true := by rw [hch, h1]; rfl
          subst h1
          clear hch
          go_wp2_with (go_at_call 31; refine (Tryd.strconv_Itoa vi (by omega) (by omega) _ (HTT.out.ext (by repeat (first | (with_reducible exact Ext.refl _) | (with_reducible refine Ext.undrew ?_) | (with_reducible refine Ext.grow ?_ _) | (with_reducible refine Ext.drew ?_) | (with_reducible refine Ext.drewN ?_ _) | (with_reducible refine Ext.alloc ?_ _) | (with_reducible assumption) | ((with_reducible refine Ext.setCell ?_ ?_ _); rotate_left; (first | exact Nat.le_refl _ | ((try dsimp only); (try simp only [World.size_alloc, grow_size, World.size_setCell]); omega)))))).pw).mono ?_; rintro e w4 ⟨rfl, hg⟩; have hx4 := itoa_ext hg; obtain ⟨d4, rfl⟩ := hx4.grown; clear hg hx4)
          go_roundw
          case rel => exact ⟨k + 1, by omega, by rw [HPT.out, show (⟨#[32, 114]⟩ : ByteArray) = ⟨[32, 114].toArray⟩ from rfl, bstr_app, bstr_app]; simp [argC], by go_num, hid (Ext.trans hx.out (by repeat (first | (with_reducible exact Ext.refl _) | (with_reducible refine Ext.undrew ?_) | (with_reducible refine Ext.grow ?_ _) | (with_reducible refine Ext.drew ?_) | (with_reducible refine Ext.drewN ?_ _) | (with_reducible refine Ext.alloc ?_ _) | (with_reducible assumption) | ((with_reducible refine Ext.setCell ?_ ?_ _); rotate_left; (first | exact Nat.le_refl _ | ((try dsimp only); (try simp only [World.size_alloc, grow_size, World.size_setCell]); omega))))))⟩
          case measure => simp [intOf]; omega
        · have q1 : (((s[k]'hks).toNat : Int) == 114) = false := by rw [hch]; simpa using (fun e => h1 (by omega))
          by_cases h2 : ch = 105
          · have q2 : (((s[k]'hks).toNat : Int) == 105) = true := by rw [hch, h2]; rfl
            subst h2
            clear hch
            go_wp2_with (go_at_call 31; refine (Tryd.strconv_Itoa vi (by omega) (by omega) _ (HTT.out.ext (by repeat (first | (with_reducible exact Ext.refl _) | (with_reducible refine Ext.undrew ?_) | (with_reducible refine Ext.grow ?_ _) | (with_reducible refine Ext.drew ?_) | (with_reducible refine Ext.drewN ?_ _) | (with_reducible refine Ext.alloc ?_ _) | (with_reducible assumption) | ((with_reducible refine Ext.setCell ?_ ?_ _); rotate_left; (first | exact Nat.le_refl _ | ((try dsimp only); (try simp only [World.size_alloc, grow_size, World.size_setCell]); omega)))))).pw).mono ?_; rintro e w4 ⟨rfl, hg⟩; have hx4 := itoa_ext hg; obtain ⟨d4, rfl⟩ := hx4.grown; clear hg hx4)
            go_roundw
            case rel => exact ⟨k + 1, by omega, by rw [HPT.out, show (⟨#[32]⟩ : ByteArray) = ⟨[32].toArray⟩ from rfl, bstr_app, bstr_app]; simp [argC], by go_num, hid (Ext.trans hx.out (by repeat (first | (with_reducible exact Ext.refl _) | (with_reducible refine Ext.undrew ?_) | (with_reducible refine Ext.grow ?_ _) | (with_reducible refine Ext.drew ?_) | (with_reducible refine Ext.drewN ?_ _) | (with_reducible refine Ext.alloc ?_ _) | (with_reducible assumption) | ((with_reducible refine Ext.setCell ?_ ?_ _); rotate_left; (first | exact Nat.le_refl _ | ((try dsimp only); (try simp only [World.size_alloc, grow_size, World.size_setCell]); omega))))))⟩
            case measure => simp [intOf]; omega
          · have q2 : (((s[k]'hks).toNat : Int) == 105) = false := by rw [hch]; simpa using (fun e => h2 (by omega))
            by_cases h3 : ch = 119
            · have q3 : (((s[k]'hks).toNat : Int) == 119) = true := by rw [hch, h3]; rfl
              subst h3
              clear hch
              go_wp2_with (go_at_call 31; refine (Tryd.strconv_Itoa vi (by omega) (by omega) _ (HTT.out.ext (by repeat (first | (with_reducible exact Ext.refl _) | (with_reducible refine Ext.undrew ?_) | (with_reducible refine Ext.grow ?_ _) | (with_reducible refine Ext.drew ?_) | (with_reducible refine Ext.drewN ?_ _) | (with_reducible refine Ext.alloc ?_ _) | (with_reducible assumption) | ((with_reducible refine Ext.setCell ?_ ?_ _); rotate_left; (first | exact Nat.le_refl _ | ((try dsimp only); (try simp only [World.size_alloc, grow_size, World.size_setCell]); omega)))))).pw).mono ?_; rintro e w4 ⟨rfl, hg⟩; have hx4 := itoa_ext hg; obtain ⟨d4, rfl⟩ := hx4.grown; clear hg hx4)
              go_roundw
              case rel => exact ⟨k + 1, by omega, by rw [HPT.out, show (⟨#[32]⟩ : ByteArray) = ⟨[32].toArray⟩ from rfl, bstr_app, bstr_app]; simp [argC], by go_num, hid (Ext.trans hx.out (by repeat (first | (with_reducible exact Ext.refl _) | (with_reducible refine Ext.undrew ?_) | (with_reducible refine Ext.grow ?_ _) | (with_reducible refine Ext.drew ?_) | (with_reducible refine Ext.drewN ?_ _) | (with_reducible refine Ext.alloc ?_ _) | (with_reducible assumption) | ((with_reducible refine Ext.setCell ?_ ?_ _); rotate_left; (first | exact Nat.le_refl _ | ((try dsimp only); (try simp only [World.size_alloc, grow_size, World.size_setCell]); omega))))))⟩
              case measure => simp [intOf]; omega
            · have q3 : (((s[k]'hks).toNat : Int) == 119) = false := by rw [hch]; simpa using (fun e => h3 (by omega))
              clear hch
              go_wp2
              go_roundw
              case rel => exact ⟨k + 1, by omega, by rw [HPT.out, show argC ch vi = [] from (by unfold argC; rw [if_neg h1, if_neg (by omega)]), List.append_nil], by go_num, hid (Ext.trans hx.out (by repeat (first | (with_reducible exact Ext.refl _) | (with_reducible refine Ext.undrew ?_) | (with_reducible refine Ext.grow ?_ _) | (with_reducible refine Ext.drew ?_) | (with_reducible refine Ext.drewN ?_ _) | (with_reducible refine Ext.alloc ?_ _) | (with_reducible assumption) | ((with_reducible refine Ext.setCell ?_ ?_ _); rotate_left; (first | exact Nat.le_refl _ | ((try dsimp only); (try simp only [World.size_alloc, grow_size, World.size_setCell]); omega))))))⟩
              case measure => simp [intOf]; omega
      · obtain rfl : k = 3 := by omega
        have HI1 : ¬ ((3 : Nat) : Int) < 3 := by omega
        go_wp2
        go_ret
        exact ⟨rfl, HXW.out.trans hx.out⟩

end Go.Proofs.YtdhpbofpomefoaaDoor
