/- Layer 16: the live question. -/
import Derived.Test.YtdhpbofpomefoaaDoorAsmK
import Derived.Test.YtdhpbofpomefoaaDoorAsmL
import Derived.Test.YtdhpbofpomefoaaDoorAsmFa
namespace Go.Proofs.YtdhpbofpomefoaaDoor
set_option linter.unusedSimpArgs false
set_option linter.unusedVariables false
open Go.RowKit

theorem wp_build2 {P : Program} {o : Oper} {a : Act} {w : World} {K : Act → World → Prop} {Q : Exit → Act → World → Prop} (t e : TypeId) (x y : Operand) (ho : o.op = .buildSlice t 2 #[(0, x), (1, y)])
    (c0 c1 : Array Value) (s : Nat) (hx : a.eval x = .agg c0) (hy : a.eval y = .agg c1) (hs : c0.size = s) (hs1 : c1.size = s) (h0 : 0 < s) (h1 : s ≤ 1000)
    (hu : P.underlying t = some (.slice e)) (hi : (P.info? e).map (·.size) = some s) (hz : ((P.info? e).bind (·.zero)).map (·.cells.size) = some s)
    (h : K (a.put o.dst (.slice (some ⟨w.heap.size, 0, none⟩) 2 2)) (w.alloc (.cells (c0 ++ c1) e))) : o.wp P a w K Q := by
  cases hie : P.info? e with
  | none => simp [hie] at hi
  | some ie =>
    cases hzz : ie.zero with
    | none => simp [hie, hzz] at hz
    | some z =>
      have hsz : ie.size = s := by simpa [hie] using hi
      have hzs : z.cells.size = s := by simpa [hie, hzz] using hz
      refine wp_buildSlice t e 2 #[(0, x), (1, y)] ho (c0 ++ c1) ie z hu hie hzz (by omega) (by omega) ?_ h
      have hf := Great.fill_whole h0 [.agg c0, .agg c1] ((Array.range (2 * s)).map (z.cells[· % z.cells.size]!)) (by simpa [Value.cells] using ⟨hs, hs1⟩) (by simp)
      rw [hsz, show c0 ++ c1 = (c0.toList ++ c1.toList).toArray from by simp]
      simpa [hx, hy, Value.cells] using hf
theorem hParse1 (w : World) (ht : Tb w) : Calls Tryd.prog 10 #[.string ⟨#[108, 100, 98, 32, 114, 50, 32, 114, 51, 32, 50, 48, 48]⟩] w fun e w' => e = .returned (.tuple #[.agg #[.int .i64 11, .int .i64 2, .int .i64 3, .int .i64 200], .bool true]) ∧ Ext w w' := by
  have h := parse_ ⟨#[108, 100, 98, 32, 114, 50, 32, 114, 51, 32, 50, 48, 48]⟩ w ht (by decide)
  rw [hp_1] at h
  exact h
theorem hParse2 (w : World) (ht : Tb w) : Calls Tryd.prog 10 #[.string ⟨#[108, 100, 98, 32, 114, 50, 32, 114, 51, 32, 32, 50, 48, 48]⟩] w fun e w' => e = .returned (.tuple #[.agg #[.int .i64 0, .int .i64 0, .int .i64 0, .int .i64 0], .bool false]) ∧ Ext w w' := by
  have h := parse_ ⟨#[108, 100, 98, 32, 114, 50, 32, 114, 51, 32, 32, 50, 48, 48]⟩ w ht (by decide)
  rw [hp_2] at h
  exact h
theorem hParse3 (w : World) (ht : Tb w) : Calls Tryd.prog 10 #[.string ⟨#[109, 111, 118, 105, 32, 114, 49, 32, 43, 49]⟩] w fun e w' => e = .returned (.tuple #[.agg #[.int .i64 0, .int .i64 0, .int .i64 0, .int .i64 0], .bool false]) ∧ Ext w w' := by
  have h := parse_ ⟨#[109, 111, 118, 105, 32, 114, 49, 32, 43, 49]⟩ w ht (by decide)
  rw [hp_3] at h
  exact h
theorem hText1 (w : World) (ht : Tb w) : Calls Tryd.prog 14 #[.agg #[.int .i64 1, .int .i64 1, .int .i64 (-1), .int .i64 0]] w fun e w' => e = .returned (.string ⟨#[109, 111, 118, 105, 32, 114, 49, 32, 45, 49]⟩) ∧ Ext w w' := by
  have h := text_ 1 1 (-1) 0 w ht
  rw [ht_1] at h
  exact h
theorem hText2 (w : World) (ht : Tb w) : Calls Tryd.prog 14 #[.agg #[.int .i64 30, .int .i64 0, .int .i64 0, .int .i64 0]] w fun e w' => e = .returned (.string ⟨#[]⟩) ∧ Ext w w' := by
  have h := text_ 30 0 0 0 w ht
  rw [ht_2] at h
  exact h
theorem hName1 (w : World) (ht : Tb w) : Calls Tryd.prog 12 #[.int .i64 29] w fun e w' => e = .returned (.string ⟨#[115, 121, 115]⟩) ∧ Ext w w' := by
  have h := name_ 29 w ht
  rw [hn_1] at h
  exact h
theorem hName2 (w : World) (ht : Tb w) : Calls Tryd.prog 12 #[.int .i64 (-1)] w fun e w' => e = .returned (.string ⟨#[]⟩) ∧ Ext w w' := by
  have h := name_ (-1) w ht
  rw [hn_2] at h
  exact h
theorem hRead1 (w : World) (ht : Tb w) : Calls Tryd.prog 16 #[.string ⟨#[104, 97, 108, 116, 10, 106, 109, 112, 32, 45, 50, 10]⟩] w fun e w' => ∃ A c, e = .returned (.tuple #[.slice A 2 c, .int .i64 2, .bool true]) ∧ Hid (RdF insC w' A [⟨0, 0, 0, 0⟩, ⟨9, 0, -2, 0⟩]) ∧ Ext w w' := by
  have h := read_ [104, 97, 108, 116, 10, 106, 109, 112, 32, 45, 50, 10] (by decide) w ht
  rw [hr_1] at h
  refine h.mono ?_
  rintro e w' ⟨v, rfl, HO, HX⟩
  obtain ⟨A, c, rfl, _, _⟩ := HO.out.shape
  exact ⟨A, c, rfl, hid (HO.out.rdF rfl), HX.out⟩
theorem hRead2 (w : World) (ht : Tb w) : Calls Tryd.prog 16 #[.string ⟨#[104, 97, 108, 116, 10, 104, 97, 108, 116]⟩] w fun e w' => ∃ v, e = .returned (.tuple #[v, .int .i64 1, .bool false]) ∧ Ext w w' := by
  have h := read_ [104, 97, 108, 116, 10, 104, 97, 108, 116] (by decide) w ht
  rw [hr_2] at h
  refine h.mono ?_
  rintro e w' ⟨v, rfl, HO, HX⟩
  exact ⟨v, rfl, HX.out⟩
theorem rdF_two {w : World} {b : Nat} {x y : In} (h : Row w b 0 (insC x ++ insC y)) : RdF insC w (some ⟨b, 0, none⟩) [x, y] := fun _ => ⟨b, 0, rfl, h.lt, fun j u hj => by
  have := h.at_ j u (by simpa [rowF] using hj)
  simpa using this⟩
set_option maxRecDepth 100000 in
set_option maxHeartbeats 4000000 in
theorem head_ (w : World) (ht : Tb w) : Calls Tryd.prog 9 #[] w fun e w' => e = .returned (.bool true) ∧ Ext w w' := by
  have HT := hid ht
  clear ht
  go_enter Tryd.func9, Tryd.ntmps9
  go_upto_region 2 with (go_at_call 10; refine (hParse1 _ (HT.out.ext (by repeat (first | (with_reducible exact Ext.refl _) | (with_reducible refine Ext.undrew ?_) | (with_reducible refine Ext.grow ?_ _) | (with_reducible refine Ext.drew ?_) | (with_reducible refine Ext.drewN ?_ _) | (with_reducible refine Ext.alloc ?_ _) | (with_reducible assumption) | ((with_reducible refine Ext.setCell ?_ ?_ _); rotate_left; (first | exact Nat.le_refl _ | ((try dsimp only); (try simp only [World.size_alloc, grow_size, World.size_setCell]); omega))))))).mono ?_; rintro e w1 ⟨rfl, hx1⟩)
  refine wp_gen (fun V => Hid (Ext w V) ∧ Hid (Row V w1.heap.size 0 [.int .i64 11, .int .i64 2, .int .i64 3, .int .i64 200])) ⟨hid (hx1.trans (by repeat (first | (with_reducible exact Ext.refl _) | (with_reducible refine Ext.undrew ?_) | (with_reducible refine Ext.grow ?_ _) | (with_reducible refine Ext.drew ?_) | (with_reducible refine Ext.drewN ?_ _) | (with_reducible refine Ext.alloc ?_ _) | (with_reducible assumption) | ((with_reducible refine Ext.setCell ?_ ?_ _); rotate_left; (first | exact Nat.le_refl _ | ((try dsimp only); (try simp only [World.size_alloc, grow_size, World.size_setCell]); omega)))))), hid (Row.new w1 _ _)⟩ ?_
  clear hx1
  rintro V1 ⟨HX1, HR1⟩
  generalize w1.heap.size = xb at HR1 ⊢
  have hxx := HX1.out
  go_upto_region 3 with (go_at_call 10; refine (hParse2 _ (HT.out.ext (by repeat (first | (with_reducible exact Ext.refl _) | (with_reducible refine Ext.undrew ?_) | (with_reducible refine Ext.grow ?_ _) | (with_reducible refine Ext.drew ?_) | (with_reducible refine Ext.drewN ?_ _) | (with_reducible refine Ext.alloc ?_ _) | (with_reducible assumption) | ((with_reducible refine Ext.setCell ?_ ?_ _); rotate_left; (first | exact Nat.le_refl _ | ((try dsimp only); (try simp only [World.size_alloc, grow_size, World.size_setCell]); omega))))))).mono ?_; rintro e w2 ⟨rfl, hx2⟩)
  refine wp_gen (fun V => Hid (Ext w V) ∧ Hid (Row V xb 0 [.int .i64 11, .int .i64 2, .int .i64 3, .int .i64 200])) ⟨hid (hxx.trans (by repeat (first | (with_reducible exact Ext.refl _) | (with_reducible refine Ext.undrew ?_) | (with_reducible refine Ext.grow ?_ _) | (with_reducible refine Ext.drew ?_) | (with_reducible refine Ext.drewN ?_ _) | (with_reducible refine Ext.alloc ?_ _) | (with_reducible assumption) | ((with_reducible refine Ext.setCell ?_ ?_ _); rotate_left; (first | exact Nat.le_refl _ | ((try dsimp only); (try simp only [World.size_alloc, grow_size, World.size_setCell]); omega)))))), hid (HR1.out.ext (by repeat (first | (with_reducible exact Ext.refl _) | (with_reducible refine Ext.undrew ?_) | (with_reducible refine Ext.grow ?_ _) | (with_reducible refine Ext.drew ?_) | (with_reducible refine Ext.drewN ?_ _) | (with_reducible refine Ext.alloc ?_ _) | (with_reducible assumption) | ((with_reducible refine Ext.setCell ?_ ?_ _); rotate_left; (first | exact Nat.le_refl _ | ((try dsimp only); (try simp only [World.size_alloc, grow_size, World.size_setCell]); omega))))))⟩ ?_
  clear hx2 HX1 HR1 hxx
  rintro V2 ⟨HX2, HR2⟩
  have hxx := HX2.out
  go_upto_region 4 with (go_at_call 10; refine (hParse3 _ (HT.out.ext (by repeat (first | (with_reducible exact Ext.refl _) | (with_reducible refine Ext.undrew ?_) | (with_reducible refine Ext.grow ?_ _) | (with_reducible refine Ext.drew ?_) | (with_reducible refine Ext.drewN ?_ _) | (with_reducible refine Ext.alloc ?_ _) | (with_reducible assumption) | ((with_reducible refine Ext.setCell ?_ ?_ _); rotate_left; (first | exact Nat.le_refl _ | ((try dsimp only); (try simp only [World.size_alloc, grow_size, World.size_setCell]); omega))))))).mono ?_; rintro e w3 ⟨rfl, hx3⟩)
  refine wp_gen (fun V => Hid (Ext w V) ∧ Hid (Row V xb 0 [.int .i64 11, .int .i64 2, .int .i64 3, .int .i64 200])) ⟨hid (hxx.trans (by repeat (first | (with_reducible exact Ext.refl _) | (with_reducible refine Ext.undrew ?_) | (with_reducible refine Ext.grow ?_ _) | (with_reducible refine Ext.drew ?_) | (with_reducible refine Ext.drewN ?_ _) | (with_reducible refine Ext.alloc ?_ _) | (with_reducible assumption) | ((with_reducible refine Ext.setCell ?_ ?_ _); rotate_left; (first | exact Nat.le_refl _ | ((try dsimp only); (try simp only [World.size_alloc, grow_size, World.size_setCell]); omega)))))), hid (HR2.out.ext (by repeat (first | (with_reducible exact Ext.refl _) | (with_reducible refine Ext.undrew ?_) | (with_reducible refine Ext.grow ?_ _) | (with_reducible refine Ext.drew ?_) | (with_reducible refine Ext.drewN ?_ _) | (with_reducible refine Ext.alloc ?_ _) | (with_reducible assumption) | ((with_reducible refine Ext.setCell ?_ ?_ _); rotate_left; (first | exact Nat.le_refl _ | ((try dsimp only); (try simp only [World.size_alloc, grow_size, World.size_setCell]); omega))))))⟩ ?_
  clear hx3 HX2 HR2 hxx
  rintro V3 ⟨HX3, HR3⟩
  have hxx := HX3.out
  go_upto_region 5 with (go_at_call 16; refine (hRead1 _ (HT.out.ext hxx)).mono ?_; rintro e w4 ⟨A5, c5, rfl, HL4, hx4⟩)
  have HR4 := hid (HR3.out.ext hx4)
  have hxy := hxx.trans hx4
  clear HR3 hxx hx4 HX3
  go_upto_region 6 with (go_at_call 16; refine (hRead2 _ (HT.out.ext hxy)).mono ?_; rintro e w5 ⟨v5, rfl, hx5⟩)
  have HR5 := hid (HR4.out.ext hx5)
  have HL5 := hid (HL4.out.ext hx5)
  have hxz := hxy.trans hx5
  clear HR4 HL4 hxy hx5
  have x0 : World.cell? w5 ⟨xb, 0, none⟩ = some (.int .i64 11) := by have := HR5.out.at_ 0 _ rfl; simpa using this
  have x1 : World.cell? w5 ⟨xb, 1, none⟩ = some (.int .i64 2) := by have := HR5.out.at_ 1 _ rfl; simpa using this
  have x2 : World.cell? w5 ⟨xb, 2, none⟩ = some (.int .i64 3) := by have := HR5.out.at_ 2 _ rfl; simpa using this
  have x3 : World.cell? w5 ⟨xb, 3, none⟩ = some (.int .i64 200) := by have := HR5.out.at_ 3 _ rfl; simpa using this
  have xl := HR5.out.lt
  go_wp2_with fail
  refine Calls.mono (hText1 _ (HT.out.ext hxz)) ?_
  rintro e u1 ⟨rfl, hy1⟩
  have HR6 := hid (HR5.out.ext hy1)
  have HL6 := hid (HL5.out.ext hy1)
  have hz1 := hxz.trans hy1
  clear HR5 HL5 hxz hy1 x0 x1 x2 x3 xl
  have x0 : World.cell? u1 ⟨xb, 0, none⟩ = some (.int .i64 11) := by have := HR6.out.at_ 0 _ rfl; simpa using this
  have x1 : World.cell? u1 ⟨xb, 1, none⟩ = some (.int .i64 2) := by have := HR6.out.at_ 1 _ rfl; simpa using this
  have x2 : World.cell? u1 ⟨xb, 2, none⟩ = some (.int .i64 3) := by have := HR6.out.at_ 2 _ rfl; simpa using this
  have x3 : World.cell? u1 ⟨xb, 3, none⟩ = some (.int .i64 200) := by have := HR6.out.at_ 3 _ rfl; simpa using this
  have xl := HR6.out.lt
  go_wp2_with fail
  refine Calls.mono (hText2 _ (HT.out.ext hz1)) ?_
  rintro e u2 ⟨rfl, hy2⟩
  have HR7 := hid (HR6.out.ext hy2)
  have HL7 := hid (HL6.out.ext hy2)
  have hz2 := hz1.trans hy2
  clear HR6 HL6 hz1 hy2 x0 x1 x2 x3 xl
  have x0 : World.cell? u2 ⟨xb, 0, none⟩ = some (.int .i64 11) := by have := HR7.out.at_ 0 _ rfl; simpa using this
  have x1 : World.cell? u2 ⟨xb, 1, none⟩ = some (.int .i64 2) := by have := HR7.out.at_ 1 _ rfl; simpa using this
  have x2 : World.cell? u2 ⟨xb, 2, none⟩ = some (.int .i64 3) := by have := HR7.out.at_ 2 _ rfl; simpa using this
  have x3 : World.cell? u2 ⟨xb, 3, none⟩ = some (.int .i64 200) := by have := HR7.out.at_ 3 _ rfl; simpa using this
  have xl := HR7.out.lt
  go_wp2_with (refine wpList_plain rfl fun K hK => ?_; refine wp_build2 30 23 _ _ rfl #[.int .i64 0, .int .i64 0, .int .i64 0, .int .i64 0] #[.int .i64 9, .int .i64 0, .int .i64 (-2), .int .i64 0] 4 rfl rfl rfl rfl (by omega) (by omega) Tryd.underlying30 (by kernel_rfl) (by kernel_rfl) ?_; refine hK _ _ ?_; clear hK K)
  refine Calls.mono (same16_ A5 _ 2 c5 2 [⟨0, 0, 0, 0⟩, ⟨9, 0, -2, 0⟩] _ rfl (HL7.out.ext (Ext.alloc (Ext.refl _) _)) (rdF_two (Row.new _ _ _)) (by decide)) ?_
  rintro e u3 ⟨rfl, hy3⟩
  have hz3 : Ext w u3 := hz2.trans ((Ext.alloc (Ext.refl _) _).trans hy3)
  clear HR7 HL7 hz2 hy3 x0 x1 x2 x3 xl
  go_wp2_with fail
  refine Calls.mono (hName1 _ (HT.out.ext hz3)) ?_
  rintro e u4 ⟨rfl, hy4⟩
  have hz4 := hz3.trans hy4
  clear hz3 hy4
  go_wp2_with fail
  refine Calls.mono (hName2 _ (HT.out.ext hz4)) ?_
  rintro e u5 ⟨rfl, hy5⟩
  have hz5 := hz4.trans hy5
  clear hz4 hy5
  go_wp2_with fail
  go_ret
  exact ⟨rfl, hz5⟩

end Go.Proofs.YtdhpbofpomefoaaDoor
