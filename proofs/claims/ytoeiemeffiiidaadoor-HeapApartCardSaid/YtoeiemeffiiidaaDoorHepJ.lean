/- Layer 14: the live question. -/
import Derived.Test.YtoeiemeffiiidaaDoorHepI
namespace Go.Proofs.YtoeiemeffiiidaaDoor
set_option linter.unusedSimpArgs false
set_option linter.unusedVariables false
open Go.RowKit

set_option maxRecDepth 100000 in
set_option maxHeartbeats 4000000 in
theorem head_ (w : World) (ht : Tab w) : Calls Tryd.prog 8 #[] w fun e w' => e = .returned (.bool true) ∧ Ext w w' := by
  have HT := hid ht
  clear ht
  go_enter Tryd.func8, Tryd.ntmps8
  go_upto_region 2 with (go_at_call 9; refine (new_ 64 _ (by decide) (by decide)).mono ?_; rintro e w1 ⟨p, pq, rfl, hs1, hx1, hp1, hpq1⟩)
  have HS := hid hs1
  have HB1 := hid hx1
  have HPQ := hid hpq1
  clear hs1 hx1 hp1 hpq1
  go_upto_region 5 with (first | (go_at_call 10; refine (root_ 256 8 _ (by decide) (by decide)).mono ?_; rintro e w2 ⟨rfl, hx2⟩; have HB := hid (HB1.out.trans hx2); have HS := hid (HS.out.ext hx2); clear hx2) | (go_at_call 11; refine (hNew w _ p pq 64 256 384 31 32 P0 HB.out HS.out HPQ.out (by decide) (by decide) (by decide) (fun _ => False) (fun _ h => h.elim)).mono ?_; rintro e w3 ⟨h, ck, q, fq, g, bq, bf, rfl, HK3, HX3⟩))
  clear HS HB HB1
  go_upto_region 7 with (go_at_call 11; refine (hNew_no _ 32 _).mono ?_; rintro e w4 ⟨rfl, hx4⟩; have HK4 := hid (HK3.out.ext hx4))
  clear HK3 HX3 hx4
  go_upto_region 8 with (go_at_call 15; refine (hAlloc w _ h ck q fq p pq g bq bf 64 256 384 256 31 32 (fun _ => False) (⟨0, [], [⟨256, 384⟩], P0, []⟩ : HSt) HK4.out 20 (by decide) (HT.out.ext HK4.out.base) (fun _ => rfl)).mono ?_; rw [(n_al1 P0).1, (n_al1 P0).2.1, (n_al1 P0).2.2]; (try dsimp only); rintro e w5 ⟨rfl, HKz, HOz⟩)
  refine wp_gen (fun V => Hid (Hp w V h ck q fq p pq g bq bf 64 256 384 256 31 32 (fun i => i = w5.heap.size) (⟨0, [], [⟨288, 384⟩], P0, [⟨256, 20, 32⟩]⟩ : HSt)) ∧ Hid (Row V w5.heap.size 0 [.bool true, .int .i64 256, .int .i64 276, .int .i64 256, .int .i64 31, .int .i64 0])) ⟨hid ((HKz.out.box _).mono (fun i e => .inr e)), hid (Row.new w5 _ _)⟩ ?_
  clear HKz HOz HK4
  rintro W5 ⟨HK5, HA5⟩
  generalize w5.heap.size = ab at HK5 HA5 ⊢
  go_upto_region 9 with (go_at_call 15; refine (hAlloc w _ h ck q fq p pq g bq bf 64 256 384 256 31 32 (fun i => i = ab) (⟨0, [], [⟨288, 384⟩], P0, [⟨256, 20, 32⟩]⟩ : HSt) HK5.out 64 (by decide) (HT.out.ext HK5.out.base) (fun _ => rfl)).mono ?_; rw [(n_al2 P0).1, (n_al2 P0).2.1, (n_al2 P0).2.2]; (try dsimp only); rintro e w6 ⟨rfl, HKz, HOz⟩)
  refine wp_gen (fun V => Hid (Hp w V h ck q fq p pq g bq bf 64 256 384 256 31 32 (fun i => i = ab ∨ i = w6.heap.size) (⟨0, [], [⟨352, 384⟩], P0, [⟨256, 20, 32⟩, ⟨288, 64, 64⟩]⟩ : HSt)) ∧ Hid (Row V ab 0 [.bool true, .int .i64 256, .int .i64 276, .int .i64 256, .int .i64 31, .int .i64 0]) ∧ Hid (Row V w6.heap.size 0 [.bool true, .int .i64 288, .int .i64 352, .int .i64 288, .int .i64 31, .int .i64 0])) ⟨hid (HKz.out.box _), hid ((HA5.out.only HOz.out (fun e => e rfl)).ext (Ext.alloc (Ext.refl _) _)), hid (Row.new w6 _ _)⟩ ?_
  clear HKz HOz HK5 HA5
  rintro W6 ⟨HK6, HA6, HB6⟩
  generalize w6.heap.size = bb at HK6 HB6 ⊢
  go_upto_region 10 with (go_at_call 15; refine (hAlloc w _ h ck q fq p pq g bq bf 64 256 384 256 31 32 (fun i => i = ab ∨ i = bb) (⟨0, [], [⟨352, 384⟩], P0, [⟨256, 20, 32⟩, ⟨288, 64, 64⟩]⟩ : HSt) HK6.out 48 (by decide) (HT.out.ext HK6.out.base) (fun _ => rfl)).mono ?_; rw [(n_al3 P0).1, (n_al3 P0).2.1, (n_al3 P0).2.2]; (try dsimp only); rintro e w7 ⟨rfl, HKz, HOz⟩)
  refine wp_gen (fun V => Hid (Hp w V h ck q fq p pq g bq bf 64 256 384 256 31 32 (fun i => i = ab ∨ i = bb) (⟨0, [], [⟨352, 384⟩], P0, [⟨256, 20, 32⟩, ⟨288, 64, 64⟩]⟩ : HSt)) ∧ Hid (Row V ab 0 [.bool true, .int .i64 256, .int .i64 276, .int .i64 256, .int .i64 31, .int .i64 0]) ∧ Hid (Row V bb 0 [.bool true, .int .i64 288, .int .i64 352, .int .i64 288, .int .i64 31, .int .i64 0])) ⟨hid ((HKz.out.box _).mono (fun i e => .inl e)), hid ((HA6.out.only HOz.out (fun e => e (.inl rfl))).ext (Ext.alloc (Ext.refl _) _)), hid ((HB6.out.only HOz.out (fun e => e (.inr rfl))).ext (Ext.alloc (Ext.refl _) _))⟩ ?_
  clear HKz HOz HK6 HA6 HB6
  rintro W7 ⟨HK7, HA7, HB7⟩
  have a0 : World.cell? W7 ⟨ab, 0, none⟩ = some (.bool true) := by have := HA7.out.at_ 0 _ rfl; simpa using this
  have a1 : World.cell? W7 ⟨ab, 1, none⟩ = some (.int .i64 256) := by have := HA7.out.at_ 1 _ rfl; simpa using this
  have a2 : World.cell? W7 ⟨ab, 2, none⟩ = some (.int .i64 276) := by have := HA7.out.at_ 2 _ rfl; simpa using this
  have a3 : World.cell? W7 ⟨ab, 3, none⟩ = some (.int .i64 256) := by have := HA7.out.at_ 3 _ rfl; simpa using this
  have a4 : World.cell? W7 ⟨ab, 4, none⟩ = some (.int .i64 31) := by have := HA7.out.at_ 4 _ rfl; simpa using this
  have a5 : World.cell? W7 ⟨ab, 5, none⟩ = some (.int .i64 0) := by have := HA7.out.at_ 5 _ rfl; simpa using this
  have al := HA7.out.lt
  go_upto_region 11 with (go_at_call 16; refine (hSize w _ h ck q fq p pq g bq bf 64 256 384 256 31 32 (fun i => i = ab ∨ i = bb) (⟨0, [], [⟨352, 384⟩], P0, [⟨256, 20, 32⟩, ⟨288, 64, 64⟩]⟩ : HSt) HK7.out true 256 276 256 31 0 (by decide)).mono ?_; rw [(n_size P0).1, (n_size P0).2]; rintro e w8 ⟨rfl, hx8⟩; have HK8 := hid (HK7.out.ext hx8); have HA8 := hid (HA7.out.ext hx8); have HB8 := hid (HB7.out.ext hx8))
  clear HK7 HA7 HB7 hx8 a0 a1 a2 a3 a4 a5 al
  have a0 : World.cell? w8 ⟨ab, 0, none⟩ = some (.bool true) := by have := HA8.out.at_ 0 _ rfl; simpa using this
  have a1 : World.cell? w8 ⟨ab, 1, none⟩ = some (.int .i64 256) := by have := HA8.out.at_ 1 _ rfl; simpa using this
  have a2 : World.cell? w8 ⟨ab, 2, none⟩ = some (.int .i64 276) := by have := HA8.out.at_ 2 _ rfl; simpa using this
  have a3 : World.cell? w8 ⟨ab, 3, none⟩ = some (.int .i64 256) := by have := HA8.out.at_ 3 _ rfl; simpa using this
  have a4 : World.cell? w8 ⟨ab, 4, none⟩ = some (.int .i64 31) := by have := HA8.out.at_ 4 _ rfl; simpa using this
  have a5 : World.cell? w8 ⟨ab, 5, none⟩ = some (.int .i64 0) := by have := HA8.out.at_ 5 _ rfl; simpa using this
  have al := HA8.out.lt
  go_upto_region 12 with (go_at_call 12; refine (hFree w _ h ck q fq p pq g bq bf 64 256 384 256 31 32 (fun i => i = ab ∨ i = bb) (⟨0, [], [⟨352, 384⟩], P0, [⟨256, 20, 32⟩, ⟨288, 64, 64⟩]⟩ : HSt) HK8.out true 256 276 256 31 0 (by decide) (by decide)).mono ?_; rw [(n_size P0).2, n_free P0]; rintro e w9 ⟨rfl, HK9, HOz⟩; have HA9 := hid (HA8.out.only HOz.out (fun e => e (.inl rfl))); have HB9 := hid (HB8.out.only HOz.out (fun e => e (.inr rfl))))
  clear HK8 HA8 HB8 HOz a0 a1 a2 a3 a4 a5 al
  have a0 : World.cell? w9 ⟨ab, 0, none⟩ = some (.bool true) := by have := HA9.out.at_ 0 _ rfl; simpa using this
  have a1 : World.cell? w9 ⟨ab, 1, none⟩ = some (.int .i64 256) := by have := HA9.out.at_ 1 _ rfl; simpa using this
  have a2 : World.cell? w9 ⟨ab, 2, none⟩ = some (.int .i64 276) := by have := HA9.out.at_ 2 _ rfl; simpa using this
  have a3 : World.cell? w9 ⟨ab, 3, none⟩ = some (.int .i64 256) := by have := HA9.out.at_ 3 _ rfl; simpa using this
  have a4 : World.cell? w9 ⟨ab, 4, none⟩ = some (.int .i64 31) := by have := HA9.out.at_ 4 _ rfl; simpa using this
  have a5 : World.cell? w9 ⟨ab, 5, none⟩ = some (.int .i64 0) := by have := HA9.out.at_ 5 _ rfl; simpa using this
  have al := HA9.out.lt
  go_upto_region 13 with (go_at_call 12; refine (hFree w _ h ck q fq p pq g bq bf 64 256 384 256 31 32 (fun i => i = ab ∨ i = bb) (⟨0, [⟨256, 32, 0⟩], [⟨352, 384⟩], P0, [⟨288, 64, 64⟩]⟩ : HSt) HK9.out true 256 276 256 31 0 (by decide) (by decide)).mono ?_; rw [(n_free2 P0).1, (n_free2 P0).2]; rintro e w10 ⟨rfl, HK10, HOz⟩; have HA10 := hid (HA9.out.only HOz.out (fun e => e (.inl rfl))); have HB10 := hid (HB9.out.only HOz.out (fun e => e (.inr rfl))))
  clear HK9 HA9 HB9 HOz a0 a1 a2 a3 a4 a5 al
  go_upto_region 14 with (go_at_call 22; refine (hWants w _ h ck q fq p pq g bq bf 64 256 384 256 31 32 (fun i => i = ab ∨ i = bb) (⟨0, [⟨256, 32, 0⟩], [⟨352, 384⟩], P0, [⟨288, 64, 64⟩]⟩ : HSt) HK10.out).mono ?_; rw [show (!oddB (⟨0, [⟨256, 32, 0⟩], [⟨352, 384⟩], P0, [⟨288, 64, 64⟩]⟩ : HSt).t && decide ((32 : Int) ≤ sumL (⟨0, [⟨256, 32, 0⟩], [⟨352, 384⟩], P0, [⟨288, 64, 64⟩]⟩ : HSt).lq)) = true from rfl]; rintro e w11 ⟨rfl, hx11⟩; have HK11 := hid (HK10.out.ext hx11); have HA11 := hid (HA10.out.ext hx11); have HB11 := hid (HB10.out.ext hx11))
  clear HK10 HA10 HB10 hx11
  go_upto_region 15 with (go_at_call 13; refine (hBegin w _ h ck q fq p pq g bq bf 64 256 384 256 31 32 (fun i => i = ab ∨ i = bb) (⟨0, [⟨256, 32, 0⟩], [⟨352, 384⟩], P0, [⟨288, 64, 64⟩]⟩ : HSt) HK11.out (by decide) (by decide)).mono ?_; rw [n_beg, show (!oddB (⟨0, [⟨256, 32, 0⟩], [⟨352, 384⟩], P0, [⟨288, 64, 64⟩]⟩ : HSt).t) = true from rfl]; rintro e w12 ⟨rfl, HK12, HOz⟩; have HA12 := hid (HA11.out.only HOz.out (fun e => e (.inl rfl))); have HB12 := hid (HB11.out.only HOz.out (fun e => e (.inr rfl))))
  clear HK11 HA11 HB11 HOz
  go_upto_region 16 with (go_at_call 25; refine (many_ p pq 64 P1 _ HK12.out.sh).mono ?_; rw [n_cnt.1]; rintro e wz ⟨rfl, rfl⟩)
  go_upto_region 17 with (go_at_call 14; refine (hEnd w _ h ck q fq p pq g bq bf 64 256 384 256 31 32 (fun i => i = ab ∨ i = bb) (⟨1, [⟨256, 32, 0⟩], [⟨352, 384⟩], P1, [⟨288, 64, 64⟩]⟩ : HSt) HK12.out (by decide) (by decide)).mono ?_; rw [n_end, show oddB (⟨1, [⟨256, 32, 0⟩], [⟨352, 384⟩], P1, [⟨288, 64, 64⟩]⟩ : HSt).t = true from rfl]; rintro e w13 ⟨rfl, HK13, HOz⟩; have HA13 := hid (HA12.out.only HOz.out (fun e => e (.inl rfl))); have HB13 := hid (HB12.out.only HOz.out (fun e => e (.inr rfl))))
  clear HK12 HA12 HB12 HOz
  go_upto_region 18 with (go_at_call 15; refine (hAlloc w _ h ck q fq p pq g bq bf 64 256 384 256 31 32 (fun i => i = ab ∨ i = bb) (⟨2, [], [⟨256, 288⟩, ⟨352, 384⟩], P2, [⟨288, 64, 64⟩]⟩ : HSt) HK13.out 1 (by decide) (HT.out.ext HK13.out.base) (fun _ => rfl)).mono ?_; rw [(n_al4 P2).1, (n_al4 P2).2.1, (n_al4 P2).2.2]; (try dsimp only); rintro e w14 ⟨rfl, HKz, HOz⟩)
  refine wp_gen (fun V => Hid (Hp w V h ck q fq p pq g bq bf 64 256 384 256 31 32 (fun i => i = ab ∨ i = bb) (⟨2, [], [⟨272, 288⟩, ⟨352, 384⟩], P2, [⟨288, 64, 64⟩, ⟨256, 1, 16⟩]⟩ : HSt)) ∧ Hid (Row V ab 0 [.bool true, .int .i64 256, .int .i64 276, .int .i64 256, .int .i64 31, .int .i64 0]) ∧ Hid (Row V bb 0 [.bool true, .int .i64 288, .int .i64 352, .int .i64 288, .int .i64 31, .int .i64 0]) ∧ Hid (Row V w14.heap.size 0 [.bool true, .int .i64 256, .int .i64 257, .int .i64 256, .int .i64 31, .int .i64 0])) ⟨hid ((HKz.out.box _).mono (fun i e => .inl e)), hid ((HA13.out.only HOz.out (fun e => e (.inl rfl))).ext (Ext.alloc (Ext.refl _) _)), hid ((HB13.out.only HOz.out (fun e => e (.inr rfl))).ext (Ext.alloc (Ext.refl _) _)), hid (Row.new w14 _ _)⟩ ?_
  clear HKz HOz HK13 HA13 HB13
  rintro W14 ⟨HK14, HA14, HB14, HC14⟩
  generalize w14.heap.size = cb at HC14 ⊢
  have a0 : World.cell? W14 ⟨ab, 0, none⟩ = some (.bool true) := by have := HA14.out.at_ 0 _ rfl; simpa using this
  have a1 : World.cell? W14 ⟨ab, 1, none⟩ = some (.int .i64 256) := by have := HA14.out.at_ 1 _ rfl; simpa using this
  have a2 : World.cell? W14 ⟨ab, 2, none⟩ = some (.int .i64 276) := by have := HA14.out.at_ 2 _ rfl; simpa using this
  have a3 : World.cell? W14 ⟨ab, 3, none⟩ = some (.int .i64 256) := by have := HA14.out.at_ 3 _ rfl; simpa using this
  have a4 : World.cell? W14 ⟨ab, 4, none⟩ = some (.int .i64 31) := by have := HA14.out.at_ 4 _ rfl; simpa using this
  have a5 : World.cell? W14 ⟨ab, 5, none⟩ = some (.int .i64 0) := by have := HA14.out.at_ 5 _ rfl; simpa using this
  have al := HA14.out.lt
  have b0 : World.cell? W14 ⟨bb, 0, none⟩ = some (.bool true) := by have := HB14.out.at_ 0 _ rfl; simpa using this
  have b1 : World.cell? W14 ⟨bb, 1, none⟩ = some (.int .i64 288) := by have := HB14.out.at_ 1 _ rfl; simpa using this
  have b2 : World.cell? W14 ⟨bb, 2, none⟩ = some (.int .i64 352) := by have := HB14.out.at_ 2 _ rfl; simpa using this
  have b3 : World.cell? W14 ⟨bb, 3, none⟩ = some (.int .i64 288) := by have := HB14.out.at_ 3 _ rfl; simpa using this
  have b4 : World.cell? W14 ⟨bb, 4, none⟩ = some (.int .i64 31) := by have := HB14.out.at_ 4 _ rfl; simpa using this
  have b5 : World.cell? W14 ⟨bb, 5, none⟩ = some (.int .i64 0) := by have := HB14.out.at_ 5 _ rfl; simpa using this
  have bl := HB14.out.lt
  have c0 : World.cell? W14 ⟨cb, 0, none⟩ = some (.bool true) := by have := HC14.out.at_ 0 _ rfl; simpa using this
  have c1 : World.cell? W14 ⟨cb, 1, none⟩ = some (.int .i64 256) := by have := HC14.out.at_ 1 _ rfl; simpa using this
  have c2 : World.cell? W14 ⟨cb, 2, none⟩ = some (.int .i64 257) := by have := HC14.out.at_ 2 _ rfl; simpa using this
  have c3 : World.cell? W14 ⟨cb, 3, none⟩ = some (.int .i64 256) := by have := HC14.out.at_ 3 _ rfl; simpa using this
  have c4 : World.cell? W14 ⟨cb, 4, none⟩ = some (.int .i64 31) := by have := HC14.out.at_ 4 _ rfl; simpa using this
  have c5 : World.cell? W14 ⟨cb, 5, none⟩ = some (.int .i64 0) := by have := HC14.out.at_ 5 _ rfl; simpa using this
  have cl := HC14.out.lt
  go_wp2_with (first | (go_at_call 25; refine (many_ p pq 64 P2 _ HK14.out.sh).mono ?_; rw [n_cnt.2]; rintro e wz ⟨rfl, rfl⟩) | (go_at_call 21; refine (hLeft w _ h ck q fq p pq g bq bf 64 256 384 256 31 32 (fun i => i = ab ∨ i = bb) (⟨2, [], [⟨272, 288⟩, ⟨352, 384⟩], P2, [⟨288, 64, 64⟩, ⟨256, 1, 16⟩]⟩ : HSt) HK14.out (by decide)).mono ?_; rw [show sumP (⟨2, [], [⟨272, 288⟩, ⟨352, 384⟩], P2, [⟨288, 64, 64⟩, ⟨256, 1, 16⟩]⟩ : HSt).lf = 48 from rfl]; rintro e w15 ⟨rfl, hx15⟩; have HK15 := hid (HK14.out.ext hx15)) | (go_at_call 26; refine (hNow w _ h ck q fq p pq g bq bf 64 256 384 256 31 32 (fun i => i = ab ∨ i = bb) (⟨2, [], [⟨272, 288⟩, ⟨352, 384⟩], P2, [⟨288, 64, 64⟩, ⟨256, 1, 16⟩]⟩ : HSt) HK15.out).mono ?_; rintro e w16 ⟨rfl, hx16⟩; have HK16 := hid (HK15.out.ext hx16)))
  go_ret
  exact ⟨rfl, HK16.out.base⟩

end Go.Proofs.YtoeiemeffiiidaaDoor
