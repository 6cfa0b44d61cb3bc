/- Layer 7: StoreCap. -/
import Derived.Test.YtgpeabbbeidhpaaTagE
namespace Go.Proofs.Ytgpeabbbeidhpaa
set_option linter.unusedSimpArgs false
set_option linter.unusedVariables false
open Go.RowKit

theorem bytesC_byteL (c : Cap) : byteL (bytesC c) := fun y hy => by
  simp [bytesC, rowB, four] at hy
  omega
theorem no_u8 : True := trivial
set_option maxRecDepth 100000 in
set_option maxHeartbeats 4000000 in
theorem tsc_no1 (q g n : Nat) (B : Nat → Int) (T D : Nat → Bool) (w : World) (h : Mm w q g n B T D) (x : Int) (t : Bool) (b tp at_ pm ty : Int) (hc : ¬ placeP n x) : Calls Try.prog 12 #[.pointer (some ⟨q, 0, none⟩), .int .i64 x, .agg #[.bool t, .int .i64 b, .int .i64 tp, .int .i64 at_, .int .i64 pm, .int .i64 ty]] w fun e w' => e = .returned (.bool false) ∧ Ext w w' := by
  have HH := hid h
  have HC := hid hc
  clear h hc
  go_enter Try.func12, Try.ntmps12
  go_wp2_with (go_at_call 35; refine (tbegins_no q g n B T D _ (HH.out.ext (by repeat (first | (with_reducible exact Ext.refl _) | (with_reducible refine Ext.undrew ?_) | (with_reducible refine Ext.grow ?_ _) | (with_reducible refine Ext.drew ?_) | (with_reducible refine Ext.drewN ?_ _) | (with_reducible refine Ext.alloc ?_ _) | (with_reducible assumption) | ((with_reducible refine Ext.setCell ?_ ?_ _); rotate_left; (first | exact Nat.le_refl _ | ((try dsimp only); (try simp only [World.size_alloc, grow_size, World.size_setCell]); omega)))))) x HC.out).mono ?_; rintro e w1 ⟨rfl, rfl⟩)
  go_ret
  exact ⟨rfl, (by repeat (first | (with_reducible exact Ext.refl _) | (with_reducible refine Ext.undrew ?_) | (with_reducible refine Ext.grow ?_ _) | (with_reducible refine Ext.drew ?_) | (with_reducible refine Ext.drewN ?_ _) | (with_reducible refine Ext.alloc ?_ _) | (with_reducible assumption) | ((with_reducible refine Ext.setCell ?_ ?_ _); rotate_left; (first | exact Nat.le_refl _ | ((try dsimp only); (try simp only [World.size_alloc, grow_size, World.size_setCell]); omega)))))⟩
set_option maxRecDepth 100000 in
set_option maxHeartbeats 4000000 in
theorem tsc_no2 (q g n : Nat) (B : Nat → Int) (T D : Nat → Bool) (w : World) (h : Mm w q g n B T D) (x : Int) (t : Bool) (b tp at_ pm ty : Int) (hc : placeP n x) (hr : rightC ⟨t, b, tp, at_, pm, ty⟩ = false) : Calls Try.prog 12 #[.pointer (some ⟨q, 0, none⟩), .int .i64 x, .agg #[.bool t, .int .i64 b, .int .i64 tp, .int .i64 at_, .int .i64 pm, .int .i64 ty]] w fun e w' => e = .returned (.bool false) ∧ Ext w w' := by
  have HH := hid h
  have HC := hid hc
  have HRT := hid hr
  clear h hc hr
  go_enter Try.func12, Try.ntmps12
  go_wp2_with (first | (go_at_call 35; refine (tbegins_yes q g n B T D _ (HH.out.ext (by repeat (first | (with_reducible exact Ext.refl _) | (with_reducible refine Ext.undrew ?_) | (with_reducible refine Ext.grow ?_ _) | (with_reducible refine Ext.drew ?_) | (with_reducible refine Ext.drewN ?_ _) | (with_reducible refine Ext.alloc ?_ _) | (with_reducible assumption) | ((with_reducible refine Ext.setCell ?_ ?_ _); rotate_left; (first | exact Nat.le_refl _ | ((try dsimp only); (try simp only [World.size_alloc, grow_size, World.size_setCell]); omega)))))) x HC.out).mono ?_; rintro e w1 ⟨rfl, rfl⟩) | (go_at_call 36; refine (capRight t b tp at_ pm ty _).mono ?_; rw [HRT.out]; rintro e w2 ⟨rfl, hy⟩; obtain ⟨d, rfl⟩ := hy.grown; clear hy))
  go_ret
  exact ⟨rfl, (by repeat (first | (with_reducible exact Ext.refl _) | (with_reducible refine Ext.undrew ?_) | (with_reducible refine Ext.grow ?_ _) | (with_reducible refine Ext.drew ?_) | (with_reducible refine Ext.drewN ?_ _) | (with_reducible refine Ext.alloc ?_ _) | (with_reducible assumption) | ((with_reducible refine Ext.setCell ?_ ?_ _); rotate_left; (first | exact Nat.le_refl _ | ((try dsimp only); (try simp only [World.size_alloc, grow_size, World.size_setCell]); omega)))))⟩
set_option maxRecDepth 100000 in
set_option maxHeartbeats 4000000 in
theorem tsc_yes (q g n : Nat) (B : Nat → Int) (T D : Nat → Bool) (w : World) (h : Mm w q g n B T D) (x : Int) (p i : Nat) (hpn : p < n) (hi16 : i < 16) (hx : x = 256 * (p : Int) + 16 * (i : Int)) (t : Bool) (b tp at_ pm ty : Int) (hr : rightC ⟨t, b, tp, at_, pm, ty⟩ = true) : Calls Try.prog 12 #[.pointer (some ⟨q, 0, none⟩), .int .i64 x, .agg #[.bool t, .int .i64 b, .int .i64 tp, .int .i64 at_, .int .i64 pm, .int .i64 ty]] w fun e w' => e = .returned (.bool true) ∧ Hid (Mm w' q g n (putB B (256 * p + 16 * i) (bytesC ⟨t, b, tp, at_, pm, ty⟩)) (upd1 T (16 * p + i) t) (upd1 D p (D p || t))) ∧ Hid (Only (· = g) w w') := by
  have HH := hid h
  have H0 : Hid (0 ≤ x) := hid (by omega)
  have HP : Hid (x / 256 = (p : Int)) := hid (by omega)
  have HI : Hid (x % 256 / 16 = (i : Int)) := hid (by omega)
  have HC : Hid (placeP n x) := hid ⟨by omega, by omega, by omega⟩
  have hi0 : (0 : Int) ≤ (i : Int) := by omega
  have hi1 : (i : Int) < 16 := by omega
  have hlg := h.ltg
  have hbd := h.bd
  have HRT := hid hr
  clear h hx hr
  go_enter Try.func12, Try.ntmps12
  go_upto_region 4 with (first | (go_at_call 35; refine (tbegins_yes q g n B T D _ (HH.out.ext (by repeat (first | (with_reducible exact Ext.refl _) | (with_reducible refine Ext.undrew ?_) | (with_reducible refine Ext.grow ?_ _) | (with_reducible refine Ext.drew ?_) | (with_reducible refine Ext.drewN ?_ _) | (with_reducible refine Ext.alloc ?_ _) | (with_reducible assumption) | ((with_reducible refine Ext.setCell ?_ ?_ _); rotate_left; (first | exact Nat.le_refl _ | ((try dsimp only); (try simp only [World.size_alloc, grow_size, World.size_setCell]); omega)))))) x HC.out).mono ?_; rintro e w1 ⟨rfl, rfl⟩) | (go_at_call 36; refine (capRight t b tp at_ pm ty _).mono ?_; rw [HRT.out]; rintro e w2 ⟨rfl, hy⟩; obtain ⟨d, rfl⟩ := hy.grown; clear hy) | (go_at_call 37; refine (tplace_ q g n B T D _ (HH.out.ext (by repeat (first | (with_reducible exact Ext.refl _) | (with_reducible refine Ext.undrew ?_) | (with_reducible refine Ext.grow ?_ _) | (with_reducible refine Ext.drew ?_) | (with_reducible refine Ext.drewN ?_ _) | (with_reducible refine Ext.alloc ?_ _) | (with_reducible assumption) | ((with_reducible refine Ext.setCell ?_ ?_ _); rotate_left; (first | exact Nat.le_refl _ | ((try dsimp only); (try simp only [World.size_alloc, grow_size, World.size_setCell]); omega)))))) x p i H0.out HP.out HI.out hpn).mono ?_; rintro e w1 ⟨rfl, rfl⟩))
  have hbq : ¬ w.heap.size = g := by omega
  have HX1 : Hid (Ext w (Go.Proofs.Ytgpeabbbeidhpaa.grow (w.alloc (.cells #[.bool t, .int .i64 b, .int .i64 tp, .int .i64 at_, .int .i64 pm, .int .i64 ty] 31)) d)) := hid (by repeat (first | (with_reducible exact Ext.refl _) | (with_reducible refine Ext.undrew ?_) | (with_reducible refine Ext.grow ?_ _) | (with_reducible refine Ext.drew ?_) | (with_reducible refine Ext.drewN ?_ _) | (with_reducible refine Ext.alloc ?_ _) | (with_reducible assumption) | ((with_reducible refine Ext.setCell ?_ ?_ _); rotate_left; (first | exact Nat.le_refl _ | ((try dsimp only); (try simp only [World.size_alloc, grow_size, World.size_setCell]); omega)))))
  have HROW : Hid (Row (Go.Proofs.Ytgpeabbbeidhpaa.grow (w.alloc (.cells #[.bool t, .int .i64 b, .int .i64 tp, .int .i64 at_, .int .i64 pm, .int .i64 ty] 31)) d) w.heap.size 0 [.bool t, .int .i64 b, .int .i64 tp, .int .i64 at_, .int .i64 pm, .int .i64 ty]) := hid ((⟨by simp, fun j v hj => by simp [go_sem]; simpa using hj, fun j hj => by simp [go_sem]⟩ : Row (w.alloc (.cells #[.bool t, .int .i64 b, .int .i64 tp, .int .i64 at_, .int .i64 pm, .int .i64 ty] 31)) w.heap.size 0 [.bool t, .int .i64 b, .int .i64 tp, .int .i64 at_, .int .i64 pm, .int .i64 ty]).ext (Ext.grow (Ext.refl _) d))
  generalize Go.Proofs.Ytgpeabbbeidhpaa.grow (w.alloc (.cells #[.bool t, .int .i64 b, .int .i64 tp, .int .i64 at_, .int .i64 pm, .int .i64 ty] 31)) d = W1 at HX1 HROW ⊢
  obtain ⟨qc, hqc⟩ : ∃ x, w.heap.size = x := ⟨_, rfl⟩
  rw [hqc] at hbq HROW ⊢
  have HQC := hid hqc
  have hqcl := HROW.out.lt
  clear hqc
  have ct0 : W1.cell? ⟨qc, 0, none⟩ = some (.bool t) := HROW.out.range 0 _ rfl
  have ct1 : W1.cell? ⟨qc, 1, none⟩ = some (.int .i64 b) := HROW.out.range 1 _ rfl
  have ct2 : W1.cell? ⟨qc, 2, none⟩ = some (.int .i64 tp) := HROW.out.range 2 _ rfl
  have ct3 : W1.cell? ⟨qc, 3, none⟩ = some (.int .i64 at_) := HROW.out.range 3 _ rfl
  have ct4 : W1.cell? ⟨qc, 4, none⟩ = some (.int .i64 pm) := HROW.out.range 4 _ rfl
  have ct5 : W1.cell? ⟨qc, 5, none⟩ = some (.int .i64 ty) := HROW.out.range 5 _ rfl
  have HM1 := hid (HH.out.ext HX1.out)
  refine wp_region_turn (q := g) (.rd 0 (.rd 1 (.rd 2 (.rd 3 (.rd 4 (.rd 5 (.rd 6 (.ac 7 (.ac 8 .done))))))))) (by kernel_rfl) (by kernel_rfl) (fun _ _ d _ _ h => by cases d <;> exact h) (by simp only [Ord.map, nthOp, List.append]; rfl) ?_
  intro d0
  repeat (refine turn_read (by rfl) (fun K hK => ?_); go_big_quiet_op; refine hK _ ?_; clear hK K)
  refine turn_act (by rfl) (fun K hK => ?_)
  go_wp2_with (go_at_call 38; refine (put_yes t b tp at_ pm ty _ HRT.out).mono ?_; rintro e w5 ⟨qq, ca, rfl, hca, hcm, hqq, hR5, hx5⟩)
  refine ⟨_, Only.refl _ _, Only.ofExt hx5, ?_⟩
  have hx05 : Ext W1 w5 := (Ext.grow (Ext.refl _) d0).trans hx5
  have HM5 := hid (HM1.out.ext hx05)
  have hcopy : (Builtin.copy_ #[29, 29] 3 #[.slice (some ⟨g, p * 273 + i * 16, none⟩) 16 16, .slice (some ⟨qq, 0, none⟩) 16 ca]).run Try.prog w5 = .ok (goInt 16) (w5.setCells g (p * 273 + i * 16) (bvals (bytesC ⟨t, b, tp, at_, pm, ty⟩))) := by
    obtain ⟨b', o', hA, hb', hc'⟩ := hR5 (by rw [bytesC_length]; decide)
    obtain ⟨rfl, rfl⟩ : qq = b' ∧ 0 = o' := by simpa using hA
    have := run_copy_cells (P := Try.prog) w5 29 29 3 5 g (p * 273 + i * 16) 16 16 ⟨qq, 0, none⟩ 16 ca (bvals (bytesC ⟨t, b, tp, at_, pm, ty⟩)) Try.underlying29 (by kernel_rfl) (by rw [bvals_length, bytesC_length]; rfl) (fun j v hj => by
      have hjl : j < (bytesC ⟨t, b, tp, at_, pm, ty⟩).length := by have := (List.getElem?_eq_some_iff.1 hj).1; rwa [bvals_length] at this
      rw [Addr.add_lit, hc' j hjl]
      rw [bvals_at _ _ hjl, List.getD_eq_getElem?_getD, List.getElem?_eq_getElem hjl] at hj
      exact hj) (fun j hj => by
      rw [bvals_length, bytesC_length] at hj
      rw [show p * 273 + i * 16 + j = p * 273 + (16 * i + j) by omega, HM5.out.by_ p (16 * i + j) hpn (by omega)]
      rfl) (fun j hj => HM5.out.fz _) (bvals_one _)
    rwa [bvals_length, bytesC_length] at this
  have HO6 : Hid (Only (· = g) w5 (w5.setCells g (p * 273 + i * 16) (bvals (bytesC ⟨t, b, tp, at_, pm, ty⟩)))) := hid (Only.setCells (S := (· = g)) (.inl rfl) _ _ (Only.refl _ _))
  have HM6 : Hid (Mm (w5.setCells g (p * 273 + i * 16) (bvals (bytesC ⟨t, b, tp, at_, pm, ty⟩))) q g n (putB B (256 * p + 16 * i) (bytesC ⟨t, b, tp, at_, pm, ty⟩)) T D) := hid (by
    have := HM5.out.lay hpn (x := 16 * i) (bytesC ⟨t, b, tp, at_, pm, ty⟩) (bytesC_byteL _) (by rw [bytesC_length]; omega)
    rw [show p * 273 + i * 16 = p * 273 + 16 * i by omega]
    exact this)
  have HO7 := hid ((Only.ofExt (S := (· = g)) (HX1.out.trans hx05)).trans' HO6.out)
  have hO16 : Only (· = g) W1 (w5.setCells g (p * 273 + i * 16) (bvals (bytesC ⟨t, b, tp, at_, pm, ty⟩))) := (Only.ofExt hx05).trans' HO6.out
  refine turn_act (by rfl) (fun K hK => ?_)
  refine Lib.wp_copy_run _ _ _ 29 29 rfl _ _ rfl rfl hcopy ?_
  refine hK _ _ ⟨_, Only.refl _ _, (Only.ofExt hx5).trans' HO6.out, ?_⟩
  clear hK K
  simp only [Act.put, List.setIfInBounds_toArray, List.set_cons_zero, List.set_cons_succ]
  repeat (refine turn_read (by rfl) (fun K hK => ?_); go_big_quiet_op; refine hK _ ?_; clear hK K)
  refine turn_nil ?_
  have ct0' := (hO16.cells qc 0 hqcl hbq).trans ct0
  have hqcl' := Nat.lt_of_lt_of_le hqcl hO16.size
  clear ct0 ct1 ct2 ct3 ct4 ct5 HROW HX1 HM1 HM5 HO6 hcopy hO16 hR5 hx5 hx05 hqcl
  generalize w5.setCells g (p * 273 + i * 16) (bvals (bytesC ⟨t, b, tp, at_, pm, ty⟩)) = W6 at HM6 HO7 ct0' hqcl' ⊢
  have htg := HM6.out.tg p i hpn hi16
  have hfz := HM6.out.fz (p * 273 + 256 + i)
  have hlg6 := HM6.out.ltg
  go_upto_region 5 with (fail)
  refine wp_region_turn (q := g) (.rd 0 (.rd 1 (.rd 2 (.rd 3 (.rd 4 (.rd 5 (.rd 6 (.ac 7 .done)))))))) (by kernel_rfl) (by kernel_rfl) (fun _ _ d _ _ h => by cases d <;> exact h) (by simp only [Ord.map, nthOp, List.append]; rfl) ?_
  intro d1
  repeat (refine turn_read (by rfl) (fun K hK => ?_); go_big_quiet_op; refine hK _ ?_; clear hK K)
  have hx7 : Ext W6 (Go.Proofs.Ytgpeabbbeidhpaa.grow W6 d1) := Ext.grow (Ext.refl _) d1
  have HM7 := hid ((HM6.out.ext hx7).retag hpn hi16 t)
  have HO8 := hid (HO7.out.transExt hx7)
  have ct1' := (hx7.cells qc 0 hqcl').trans ct0'
  have hdt := (HM6.out.ext hx7).dt p hpn
  have hfd := (HM6.out.ext hx7).fz (p * 273 + 272)
  replace htg := (HM6.out.ext hx7).tg p i hpn hi16
  replace hfz := (HM6.out.ext hx7).fz (p * 273 + 256 + i)
  clear HM6 HO7 ct0' hx7
  generalize Go.Proofs.Ytgpeabbbeidhpaa.grow W6 d1 = W7 at HM7 HO8 ct1' hdt hfd htg hfz ⊢
  have HS : Hid (Only (· = g) W7 (W7.setCell ⟨g, p * 273 + 256 + i, none⟩ (.bool t))) := hid (Only.setCell (S := (· = g)) (Only.refl _ _) (.inl rfl) _)
  have hdt2 : (W7.setCell ⟨g, p * 273 + 256 + i, none⟩ (.bool t)).cell? ⟨g, p * 273 + 272, none⟩ = some (.bool (D p)) := by rw [cell_setCell_far _ _ _ _ _ _ (by omega)]; exact hdt
  have hct2 : (W7.setCell ⟨g, p * 273 + 256 + i, none⟩ (.bool t)).cell? ⟨qc, 0, none⟩ = some (.bool t) := by rw [cell_setCell_far _ _ _ _ _ _ (fun e => hbq e.1)]; exact ct1'
  have hfd2 : (W7.setCell ⟨g, p * 273 + 256 + i, none⟩ (.bool t)).frozen? ⟨g, p * 273 + 272, none⟩ = false := by rw [World.frozen?_setCell]; exact hfd
  refine turn_act (by rfl) (fun K hK => ?_)
  go_wp2_with fail
  refine ⟨_, Only.refl _ _, HS.out, ?_⟩
  refine turn_nil ?_
  have HO9 := hid (HO8.out.trans' HS.out)
  clear HO8 HS htg hfz hdt hfd ct1'
  generalize W7.setCell ⟨g, p * 273 + 256 + i, none⟩ (.bool t) = W8 at HM7 HO9 hdt2 hct2 hfd2 ⊢
  cases hD : D p with
  | true =>
    rw [hD] at HM7 hdt2
    rw [Bool.true_or] at HM7
    have HOA : Hid (Only (· = g) w (W8.setCell ⟨g, p * 273 + 272, none⟩ (.bool true))) := hid (Only.setCell (S := (· = g)) HO9.out (.inl rfl) _)
    go_wp2
    go_ret
    exact ⟨rfl, by rw [hD, Bool.true_or]; exact HM7, HOA⟩
  | false =>
    rw [hD] at HM7 hdt2
    rw [Bool.false_or] at HM7
    have HOA : Hid (Only (· = g) w (W8.setCell ⟨g, p * 273 + 272, none⟩ (.bool t))) := hid (Only.setCell (S := (· = g)) HO9.out (.inl rfl) _)
    go_wp2
    go_ret
    exact ⟨rfl, by rw [hD, Bool.false_or]; exact HM7, HOA⟩

end Go.Proofs.Ytgpeabbbeidhpaa
