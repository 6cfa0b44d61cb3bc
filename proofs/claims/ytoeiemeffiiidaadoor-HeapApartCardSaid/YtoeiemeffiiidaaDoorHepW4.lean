/- The walk of HeapApart: piece 4. -/
import Derived.Test.YtoeiemeffiiidaaDoorHepW
namespace Go.Proofs.YtoeiemeffiiidaaDoor
set_option linter.unusedSimpArgs false
set_option linter.unusedVariables false
open Go.RowKit

open Go.Deep Go.RowKit
namespace heapApart
set_option linter.unusedSimpArgs false
set_option linter.unusedVariables false
set_option maxRecDepth 100000 in
set_option maxHeartbeats 80000000 in
theorem part4 : parts.2.2.2.1 := by
  intro a0 cap1 zs1 w wl1 a0l a0h HT HWZ tu HTU HTB HTA HRI HGG hlen i1 W0 hli HWW w1 p pq HPQ i2 w2 V1 rb HRL w3 h ck q fq g bq bf i3 i4 wr u4 u11 u12 u13 u14 u15 u16 u17 u18 u19 u20 u21 u22 u23 u24 i5 i6 i7 i8 i9 i10 i11 i12 i13 i14 i15 u58 i16 i17 i18 i19 i20 i21 i22 i23 i24 i25 i26 i27 i28 i29 i30 i31 i32 i33 i34 i35 i36 i37 i38 i39 i40 i41 i42 i43 i44 i45 i46 i47 i48 i49 i50 i51 i52 i53 i54 i55 i56 i57 i58 i59 i60 i61 i62 i63 i64 i65 i66 i67 i68 i69 i70 i71 i72 i73 i74 i75 i76 i77 i78 i79 i80 i81 i82 i83 i84 i85 i86 i87 i88 i89 i90 i91 i92 i93 i94 i95 i96 i97 i98 i99 i100 i101 i102 i103 i104 i105 i106 i107 i108 i109 i110 i111 i112 i113 i114 i115 i116 i117 i118 i119 i120 i121 i122 i123 i124 u168 i125 i126 i127 i128 i129 i130 i131 i132 i133 i134 i135 i136 i137 i138 i139 i140 i141 i142 i143 i144 i145 i146 i147 i148 i149 i150 i151 i152 i153 i154 i155 i156 i157 i158 i159 i160 i161 i162 u207 i163 i164 i165 i166 i167 i168 i169 i170 i171 i172 i173 i174 i175 i176 i177 i178 i179 i180 i181 i182 i183 i184 i185 i186 i187 i188 i189 i190 i191 i192 i193 i194 i195 i196 i197 i198 i199 i200 i201 i202 i203 i204 i205 i206 k x n L hk HL hn A c i207 i208 hk3 hlt b0 o HSL hb0 wh zn ct cb cp ca cm cy HZN hk1 hk2 hk4 i209 i210 i211 i212 i213 i214 i215 HI2 W2 HO2 HR0 ob HK2 HR2 d0 d1 d2 d3 d4 d5 d6 d7 dl i216 i217 u47 u48 u49 u50 u51 u52 u53 u54 u55 u56 u57 u59 u60 u61 u62 u63 u64 u65 u66 u67 u68 u69 u70 u71 u72 u73 u74 u75 u76 u77 u78 u79 u80 u81 u82 u83 u84 u85 u86 u87 u88 u89 u90 u91 u92 u93 u94 u95 u96 u97 u98 u99 u100 u101 u102 u103 u104 u105 u106 u107 u108 u109 u110 u111 u112 u113 u114 u115 u116 u117 u118 u119 u120 u121 u122 u123 u124 u125 u126 u127 u128 u129 u130 u131 u132 u133 u134 u135 u136 u137 u138 u139 u140 u141 u142 u143 u144 u145 u146 u147 u148 u149 u150 u151 u152 u153 u154 u155 u156 u157 u158 u159 u160 u161 u162 u163 u164 u165 u166 u167 u169 u170 u171 u172 u173 u174 u175 u176 u177 u178 u179 u180 u181 u182 u183 u184 u185 u186 u187 u188 u189 u190 u191 u192 u193 u194 u195 u196 u197 u198 u199 u200 u201 u202 u203 u204 u205 u206 u208 u209 u210 u211 u212 u213 u214 u215 u216 u217 u218 u219 u220 u221 u222 u223 u224 u225 u226 u227 u228 u229 u230 u231 u232 u233 u234 u235 u236 u237 u238 u239 u240 u241 u242 u243 u244 u245 u246 u247 u248 u249 u250 u251 h7 h8
  have HFR : Hid (alOk x zn = true → idxL x.lv (alAt x zn) = none) := hid (fun e => al_fresh HI2.out.1.ap e)
  cases hok : alOk x zn with
  | false =>
    have HCX : Hid (alC 31 x zn = ⟨false, 0, 0, 0, 0, 0⟩) := hid (by unfold alC; rw [hok]; rfl)
    have HYX : Hid (x.al zn = x) := hid (al_no hok)
    obtain ⟨er, her⟩ : ∃ e, alE x zn = e := ⟨_, rfl⟩
    have HE := hid her
    have he1 : (er == 0) = false := by rw [← her]; exact alE_no hok
    clear her hok
    go_wp2_with (go_at_call 15; refine (hAlloc W0 _ h ck q fq p pq g bq bf 400 512 tu 512 31 64 (fun i => (fun i => i = rb ∨ (Value.slice A n c).ownBlock = some i) i ∨ i = ob) x (HK2.out.ext (by repeat (first | (with_reducible exact Ext.refl _) | (with_reducible refine Ext.undrew ?_) | (with_reducible refine Ext.grow ?_ _) | (with_reducible refine Ext.drew ?_) | (with_reducible refine Ext.drewN ?_ _) | (with_reducible refine Ext.alloc ?_ _) | (with_reducible assumption) | ((with_reducible refine Ext.setCell ?_ ?_ _); rotate_left; (first | exact Nat.le_refl _ | ((try dsimp only); (try simp only [World.size_alloc, grow_size, World.size_setCell]); omega)))))) zn HZN.out (HT.out.ext (HWW.out.trans (HK2.out.base.trans (by repeat (first | (with_reducible exact Ext.refl _) | (with_reducible refine Ext.undrew ?_) | (with_reducible refine Ext.grow ?_ _) | (with_reducible refine Ext.drew ?_) | (with_reducible refine Ext.drewN ?_ _) | (with_reducible refine Ext.alloc ?_ _) | (with_reducible assumption) | ((with_reducible refine Ext.setCell ?_ ?_ _); rotate_left; (first | exact Nat.le_refl _ | ((try dsimp only); (try simp only [World.size_alloc, grow_size, World.size_setCell]); omega)))))))) HFR.out).mono ?_; rw [HCX.out, HE.out, HYX.out]; (try dsimp only); rintro e w7 ⟨rfl, HKz, HOz⟩)
    go_meet
    exact ⟨x, n, L, hid ((HKz.out.ext (by repeat (first | (with_reducible exact Ext.refl _) | (with_reducible refine Ext.undrew ?_) | (with_reducible refine Ext.grow ?_ _) | (with_reducible refine Ext.drew ?_) | (with_reducible refine Ext.drewN ?_ _) | (with_reducible refine Ext.alloc ?_ _) | (with_reducible assumption) | ((with_reducible refine Ext.setCell ?_ ?_ _); rotate_left; (first | exact Nat.le_refl _ | ((try dsimp only); (try simp only [World.size_alloc, grow_size, World.size_setCell]); omega)))))).mono (fun i e => .inl e)), hid ⟨HI2.out.1, HI2.out.2.up⟩, hid (((HO2.out.ext (by repeat (first | (with_reducible exact Ext.refl _) | (with_reducible refine Ext.undrew ?_) | (with_reducible refine Ext.grow ?_ _) | (with_reducible refine Ext.drew ?_) | (with_reducible refine Ext.drewN ?_ _) | (with_reducible refine Ext.alloc ?_ _) | (with_reducible assumption) | ((with_reducible refine Ext.setCell ?_ ?_ _); rotate_left; (first | exact Nat.le_refl _ | ((try dsimp only); (try simp only [World.size_alloc, grow_size, World.size_setCell]); omega)))))).only HOz.out (fun g e hs => hs (.inl (.inr e)))).ext (by repeat (first | (with_reducible exact Ext.refl _) | (with_reducible refine Ext.undrew ?_) | (with_reducible refine Ext.grow ?_ _) | (with_reducible refine Ext.drew ?_) | (with_reducible refine Ext.drewN ?_ _) | (with_reducible refine Ext.alloc ?_ _) | (with_reducible assumption) | ((with_reducible refine Ext.setCell ?_ ?_ _); rotate_left; (first | exact Nat.le_refl _ | ((try dsimp only); (try simp only [World.size_alloc, grow_size, World.size_setCell]); omega)))))), HL, Nat.le_succ_of_le hn, hid (((HR0.out.ext (by repeat (first | (with_reducible exact Ext.refl _) | (with_reducible refine Ext.undrew ?_) | (with_reducible refine Ext.grow ?_ _) | (with_reducible refine Ext.drew ?_) | (with_reducible refine Ext.drewN ?_ _) | (with_reducible refine Ext.alloc ?_ _) | (with_reducible assumption) | ((with_reducible refine Ext.setCell ?_ ?_ _); rotate_left; (first | exact Nat.le_refl _ | ((try dsimp only); (try simp only [World.size_alloc, grow_size, World.size_setCell]); omega)))))).only HOz.out (fun e => e (.inl (.inl rfl)))).ext (by repeat (first | (with_reducible exact Ext.refl _) | (with_reducible refine Ext.undrew ?_) | (with_reducible refine Ext.grow ?_ _) | (with_reducible refine Ext.drew ?_) | (with_reducible refine Ext.drewN ?_ _) | (with_reducible refine Ext.alloc ?_ _) | (with_reducible assumption) | ((with_reducible refine Ext.setCell ?_ ?_ _); rotate_left; (first | exact Nat.le_refl _ | ((try dsimp only); (try simp only [World.size_alloc, grow_size, World.size_setCell]); omega))))))⟩
  | true =>
    have hbd := al_bd HI2.out.1.2 hok
    obtain ⟨z0, z1⟩ := roundB_bd (alOk_take hok).1
    obtain ⟨p1, p2, p3, p4, p5⟩ := roundT_bd (n := zn) z0 z1
    have h16 := (roundT_bdA (alOk_take hok).1).1
    have hun := al_under HI2.out.1.2 hok
    have hof := al_of HI2.out.1.ap hok 31
    have HAP : Hid (∀ b ∈ L, b.over = false → ¬ (alAt x zn < b.c.base + b.n ∧ b.c.base < alAt x zn + roundT zn)) := hid (HL.out.2.apart HI2.out.1 hok)
    have HBA : Hid (BA (x.al zn) (L ++ [⟨alC 31 x zn, roundT zn, false, false, false⟩])) := hid (HL.out.2.al HI2.out.1 (by decide) (by have := HTB.out; omega) hok)
    have HEX : Hid (alE x zn = 0) := hid (alE_yes hok)
    have hcx : alC 31 x zn = ⟨true, alAt x zn, alAt x zn + max zn 1, alAt x zn, 31, 0⟩ := by unfold alC; rw [if_pos hok]
    rw [hcx] at hof HBA
    obtain ⟨at_, hat⟩ : ∃ z, alAt x zn = z := ⟨_, rfl⟩
    obtain ⟨mk, hmk⟩ : ∃ z, max zn 1 = z := ⟨_, rfl⟩
    obtain ⟨r, hr⟩ : ∃ z, roundT zn = z := ⟨_, rfl⟩
    rw [hat, hmk] at hun hof hcx HBA
    rw [hr] at hof HBA HAP
    rw [hat] at HAP
    rw [hat, hr] at hbd
    rw [hr] at p1 p2 p3 p4 p5 h16
    have HCX := hid hcx
    have HOZ := hid hof
    have HUN := hid hun
    have HTQ : Hid (at_ + r ≤ tu) := hid hbd.2
    have hb512 : 512 ≤ at_ := hbd.1
    have hmk0 : 1 ≤ mk := by omega
    have hmk1 : mk ≤ 65536 := by omega
    have hr0 : 16 ≤ r := h16
    have hr1 : r ≤ 65536 := by omega
    have hzr : ¬ r < zn := by omega
    have htu4 : tu ≤ 4592 := HTB.out.2.1
    have hat1 : at_ ≤ 4592 := by have := hbd.2; omega
    have hgt : ¬ tu < at_ + r := by have := hbd.2; omega
    have HAB : Hid (-9223372036854775808 ≤ at_ ∧ at_ ≤ 9223372036854775807) := hid (by omega)
    have HMK := hid hmk
    clear hbd p1 p2 p3 p4 p5 h16 hun hof hcx hat hmk hr hok
    go_upto_region 16 with (go_at_call 15; refine (hAlloc W0 _ h ck q fq p pq g bq bf 400 512 tu 512 31 64 (fun i => (fun i => i = rb ∨ (Value.slice A n c).ownBlock = some i) i ∨ i = ob) x (HK2.out.ext (by repeat (first | (with_reducible exact Ext.refl _) | (with_reducible refine Ext.undrew ?_) | (with_reducible refine Ext.grow ?_ _) | (with_reducible refine Ext.drew ?_) | (with_reducible refine Ext.drewN ?_ _) | (with_reducible refine Ext.alloc ?_ _) | (with_reducible assumption) | ((with_reducible refine Ext.setCell ?_ ?_ _); rotate_left; (first | exact Nat.le_refl _ | ((try dsimp only); (try simp only [World.size_alloc, grow_size, World.size_setCell]); omega)))))) zn HZN.out (HT.out.ext (HWW.out.trans (HK2.out.base.trans (by repeat (first | (with_reducible exact Ext.refl _) | (with_reducible refine Ext.undrew ?_) | (with_reducible refine Ext.grow ?_ _) | (with_reducible refine Ext.drew ?_) | (with_reducible refine Ext.drewN ?_ _) | (with_reducible refine Ext.alloc ?_ _) | (with_reducible assumption) | ((with_reducible refine Ext.setCell ?_ ?_ _); rotate_left; (first | exact Nat.le_refl _ | ((try dsimp only); (try simp only [World.size_alloc, grow_size, World.size_setCell]); omega)))))))) HFR.out).mono ?_; rw [HCX.out, HEX.out]; (try dsimp only); rintro e w7 ⟨rfl, HKz, HOz⟩)
    refine wp_gen (fun V => Hid (Hp W0 V h ck q fq p pq g bq bf 400 512 tu 512 31 64 (fun i => (fun i => i = rb ∨ (Value.slice A n c).ownBlock = some i) i ∨ i = ob) (x.al zn)) ∧ Hid (Row V w7.heap.size 0 [.bool true, .int .i64 at_, .int .i64 (at_ + mk), .int .i64 at_, .int .i64 31, .int .i64 0]) ∧ Hid (ownsAt V (rb + 1) 35 10 (.slice A n c) n (rowF Bk.cells L)) ∧ Hid (Row V rb 0 [.bool true, .int .i64 512, .int .i64 tu, .int .i64 512, .int .i64 31, .int .i64 0]) ∧ Hid (Row V ob 0 [.int .i64 wh, .int .i64 zn, .bool ct, .int .i64 cb, .int .i64 cp, .int .i64 ca, .int .i64 cm, .int .i64 cy])) ⟨hid (HKz.out.ext (by repeat (first | (with_reducible exact Ext.refl _) | (with_reducible refine Ext.undrew ?_) | (with_reducible refine Ext.grow ?_ _) | (with_reducible refine Ext.drew ?_) | (with_reducible refine Ext.drewN ?_ _) | (with_reducible refine Ext.alloc ?_ _) | (with_reducible assumption) | ((with_reducible refine Ext.setCell ?_ ?_ _); rotate_left; (first | exact Nat.le_refl _ | ((try dsimp only); (try simp only [World.size_alloc, grow_size, World.size_setCell]); omega)))))), hid (Row.new w7 _ _), hid (((HO2.out.ext (by repeat (first | (with_reducible exact Ext.refl _) | (with_reducible refine Ext.undrew ?_) | (with_reducible refine Ext.grow ?_ _) | (with_reducible refine Ext.drew ?_) | (with_reducible refine Ext.drewN ?_ _) | (with_reducible refine Ext.alloc ?_ _) | (with_reducible assumption) | ((with_reducible refine Ext.setCell ?_ ?_ _); rotate_left; (first | exact Nat.le_refl _ | ((try dsimp only); (try simp only [World.size_alloc, grow_size, World.size_setCell]); omega)))))).only HOz.out (fun g e hs => hs (.inl (.inr e)))).ext (by repeat (first | (with_reducible exact Ext.refl _) | (with_reducible refine Ext.undrew ?_) | (with_reducible refine Ext.grow ?_ _) | (with_reducible refine Ext.drew ?_) | (with_reducible refine Ext.drewN ?_ _) | (with_reducible refine Ext.alloc ?_ _) | (with_reducible assumption) | ((with_reducible refine Ext.setCell ?_ ?_ _); rotate_left; (first | exact Nat.le_refl _ | ((try dsimp only); (try simp only [World.size_alloc, grow_size, World.size_setCell]); omega)))))), hid (((HR0.out.ext (by repeat (first | (with_reducible exact Ext.refl _) | (with_reducible refine Ext.undrew ?_) | (with_reducible refine Ext.grow ?_ _) | (with_reducible refine Ext.drew ?_) | (with_reducible refine Ext.drewN ?_ _) | (with_reducible refine Ext.alloc ?_ _) | (with_reducible assumption) | ((with_reducible refine Ext.setCell ?_ ?_ _); rotate_left; (first | exact Nat.le_refl _ | ((try dsimp only); (try simp only [World.size_alloc, grow_size, World.size_setCell]); omega)))))).only HOz.out (fun e => e (.inl (.inl rfl)))).ext (by repeat (first | (with_reducible exact Ext.refl _) | (with_reducible refine Ext.undrew ?_) | (with_reducible refine Ext.grow ?_ _) | (with_reducible refine Ext.drew ?_) | (with_reducible refine Ext.drewN ?_ _) | (with_reducible refine Ext.alloc ?_ _) | (with_reducible assumption) | ((with_reducible refine Ext.setCell ?_ ?_ _); rotate_left; (first | exact Nat.le_refl _ | ((try dsimp only); (try simp only [World.size_alloc, grow_size, World.size_setCell]); omega)))))), hid (((HR2.out.ext (by repeat (first | (with_reducible exact Ext.refl _) | (with_reducible refine Ext.undrew ?_) | (with_reducible refine Ext.grow ?_ _) | (with_reducible refine Ext.drew ?_) | (with_reducible refine Ext.drewN ?_ _) | (with_reducible refine Ext.alloc ?_ _) | (with_reducible assumption) | ((with_reducible refine Ext.setCell ?_ ?_ _); rotate_left; (first | exact Nat.le_refl _ | ((try dsimp only); (try simp only [World.size_alloc, grow_size, World.size_setCell]); omega)))))).only HOz.out (fun e => e (.inr rfl))).ext (by repeat (first | (with_reducible exact Ext.refl _) | (with_reducible refine Ext.undrew ?_) | (with_reducible refine Ext.grow ?_ _) | (with_reducible refine Ext.drew ?_) | (with_reducible refine Ext.drewN ?_ _) | (with_reducible refine Ext.alloc ?_ _) | (with_reducible assumption) | ((with_reducible refine Ext.setCell ?_ ?_ _); rotate_left; (first | exact Nat.le_refl _ | ((try dsimp only); (try simp only [World.size_alloc, grow_size, World.size_setCell]); omega))))))⟩ ?_
    clear HKz HOz HK2 HO2 HCX HEX HFR HR2 HR0 d0 d1 d2 d3 d4 d5 d6 d7 dl
    rintro W7 ⟨HK7, HX7, HO7, HR7, HB7⟩
    generalize w7.heap.size = xb at HX7 ⊢
    have e0 : World.cell? W7 ⟨xb, 0, none⟩ = some (.bool true) := by have := HX7.out.at_ 0 _ rfl; simpa using this
    have e1 : World.cell? W7 ⟨xb, 1, none⟩ = some (.int .i64 at_) := by have := HX7.out.at_ 1 _ rfl; simpa using this
    have e2 : World.cell? W7 ⟨xb, 2, none⟩ = some (.int .i64 (at_ + mk)) := by have := HX7.out.at_ 2 _ rfl; simpa using this
    have e3 : World.cell? W7 ⟨xb, 3, none⟩ = some (.int .i64 at_) := by have := HX7.out.at_ 3 _ rfl; simpa using this
    have e4 : World.cell? W7 ⟨xb, 4, none⟩ = some (.int .i64 31) := by have := HX7.out.at_ 4 _ rfl; simpa using this
    have e5 : World.cell? W7 ⟨xb, 5, none⟩ = some (.int .i64 0) := by have := HX7.out.at_ 5 _ rfl; simpa using this
    have el := HX7.out.lt
    go_upto_region 18 with (go_at_call 16; refine (hSize W0 _ h ck q fq p pq g bq bf 400 512 tu 512 31 64 (fun i => (fun i => i = rb ∨ (Value.slice A n c).ownBlock = some i) i ∨ i = ob) (x.al zn) HK7.out true at_ (at_ + mk) at_ 31 0 HAB.out).mono ?_; rw [HOZ.out.1, HOZ.out.2]; rintro e w8 ⟨rfl, hx8⟩)
    have HK8 := hid (HK7.out.ext hx8)
    have HX8 := hid (HX7.out.ext hx8)
    have HO8 := hid (HO7.out.ext hx8)
    have HR8 := hid (HR7.out.ext hx8)
    have HB8 := hid (HB7.out.ext hx8)
    clear HK7 HX7 HO7 HR7 HB7 hx8 HOZ HAB e0 e1 e2 e3 e4 e5 el
    have f0 : World.cell? w8 ⟨xb, 0, none⟩ = some (.bool true) := by have := HX8.out.at_ 0 _ rfl; simpa using this
    have f1 : World.cell? w8 ⟨xb, 1, none⟩ = some (.int .i64 at_) := by have := HX8.out.at_ 1 _ rfl; simpa using this
    have f2 : World.cell? w8 ⟨xb, 2, none⟩ = some (.int .i64 (at_ + mk)) := by have := HX8.out.at_ 2 _ rfl; simpa using this
    have f3 : World.cell? w8 ⟨xb, 3, none⟩ = some (.int .i64 at_) := by have := HX8.out.at_ 3 _ rfl; simpa using this
    have f4 : World.cell? w8 ⟨xb, 4, none⟩ = some (.int .i64 31) := by have := HX8.out.at_ 4 _ rfl; simpa using this
    have f5 : World.cell? w8 ⟨xb, 5, none⟩ = some (.int .i64 0) := by have := HX8.out.at_ 5 _ rfl; simpa using this
    have fl := HX8.out.lt
    have r0 : World.cell? w8 ⟨rb, 0, none⟩ = some (.bool true) := by have := HR8.out.at_ 0 _ rfl; simpa using this
    have r1 : World.cell? w8 ⟨rb, 1, none⟩ = some (.int .i64 512) := by have := HR8.out.at_ 1 _ rfl; simpa using this
    have r2 : World.cell? w8 ⟨rb, 2, none⟩ = some (.int .i64 tu) := by have := HR8.out.at_ 2 _ rfl; simpa using this
    have r3 : World.cell? w8 ⟨rb, 3, none⟩ = some (.int .i64 512) := by have := HR8.out.at_ 3 _ rfl; simpa using this
    have r4 : World.cell? w8 ⟨rb, 4, none⟩ = some (.int .i64 31) := by have := HR8.out.at_ 4 _ rfl; simpa using this
    have r5 : World.cell? w8 ⟨rb, 5, none⟩ = some (.int .i64 0) := by have := HR8.out.at_ 5 _ rfl; simpa using this
    have rl := HR8.out.lt
    have d0 : World.cell? w8 ⟨ob, 0, none⟩ = some (.int .i64 wh) := by have := HB8.out.at_ 0 _ rfl; simpa using this
    have d1 : World.cell? w8 ⟨ob, 1, none⟩ = some (.int .i64 zn) := by have := HB8.out.at_ 1 _ rfl; simpa using this
    have d2 : World.cell? w8 ⟨ob, 2, none⟩ = some (.bool ct) := by have := HB8.out.at_ 2 _ rfl; simpa using this
    have d3 : World.cell? w8 ⟨ob, 3, none⟩ = some (.int .i64 cb) := by have := HB8.out.at_ 3 _ rfl; simpa using this
    have d4 : World.cell? w8 ⟨ob, 4, none⟩ = some (.int .i64 cp) := by have := HB8.out.at_ 4 _ rfl; simpa using this
    have d5 : World.cell? w8 ⟨ob, 5, none⟩ = some (.int .i64 ca) := by have := HB8.out.at_ 5 _ rfl; simpa using this
    have d6 : World.cell? w8 ⟨ob, 6, none⟩ = some (.int .i64 cm) := by have := HB8.out.at_ 6 _ rfl; simpa using this
    have d7 : World.cell? w8 ⟨ob, 7, none⟩ = some (.int .i64 cy) := by have := HB8.out.at_ 7 _ rfl; simpa using this
    have dl := HB8.out.lt
    have hun9 : ∀ W, Calls Tryd.prog 17 #[.agg #[.bool true, .int .i64 at_, .int .i64 (at_ + mk), .int .i64 at_, .int .i64 31, .int .i64 0], .agg #[.bool true, .int .i64 512, .int .i64 tu, .int .i64 512, .int .i64 31, .int .i64 0]] W fun e W' => e = .returned (.bool true) ∧ Ext W W' := fun W => by
      have := rcapUnder true at_ (at_ + mk) at_ 31 0 true 512 tu 512 31 0 W
      rw [HUN.out] at this
      exact this
    have hmq : (at_ + mk - at_ != if zn < 1 then 1 else zn) = false := by
      have h2 := HMK.out
      have : (if zn < 1 then (1 : Int) else zn) = at_ + mk - at_ := by split <;> omega
      rw [this]
      simp
    have tz : decide (r < zn) = false := decide_eq_false (by omega)
    have tg : decide (tu < at_ + r) = false := decide_eq_false (by omega)
    refine wp_region_plain (by first | (simp only [List.append]; rfl) | rfl) ?_
    (repeat (go_big_quiet_step ((go_at_call 17; exact growOf (hun9 _)))))
    refine wpQuiet_nil ?_
    intro wq hq
    obtain ⟨d9, rfl⟩ := hq
    clear hmq
    generalize (if zn < 1 then (1 : Int) else zn) = mx
    go_wp2
    clear tz tg hun9 HUN HMK hzr hgt f0 f1 f2 f3 f4 f5 fl r0 r1 r2 r3 r4 r5 rl d0 d1 d2 d3 d4 d5 d6 d7 dl
    go_loopw [24] (fun i wx => ∃ j : Nat, j ≤ n ∧ i = .int .i64 j ∧ Hid (Ext w8 wx)) (fun i _ => n - (intOf i).toNat)
    case atStart => exact ⟨0, Nat.zero_le _, rfl, hid (by repeat (first | (with_reducible exact Ext.refl _) | (with_reducible refine Ext.undrew ?_) | (with_reducible refine Ext.grow ?_ _) | (with_reducible refine Ext.drew ?_) | (with_reducible refine Ext.drewN ?_ _) | (with_reducible refine Ext.alloc ?_ _) | (with_reducible assumption) | ((with_reducible refine Ext.setCell ?_ ?_ _); rotate_left; (first | exact Nat.le_refl _ | ((try dsimp only); (try simp only [World.size_alloc, grow_size, World.size_setCell]); omega)))))⟩
    case round =>
      obtain ⟨j, hj, rfl, HXJ⟩ := hrel
      have hj3 : (0 : Int) ≤ (j : Int) := by omega
      have HXX := hid (HX8.out.ext HXJ.out)
      have hxj := HXJ.out
      have f0 : World.cell? wr ⟨xb, 0, none⟩ = some (.bool true) := by have := HXX.out.at_ 0 _ rfl; simpa using this
      have f1 : World.cell? wr ⟨xb, 1, none⟩ = some (.int .i64 at_) := by have := HXX.out.at_ 1 _ rfl; simpa using this
      have f2 : World.cell? wr ⟨xb, 2, none⟩ = some (.int .i64 (at_ + mk)) := by have := HXX.out.at_ 2 _ rfl; simpa using this
      have f3 : World.cell? wr ⟨xb, 3, none⟩ = some (.int .i64 at_) := by have := HXX.out.at_ 3 _ rfl; simpa using this
      have f4 : World.cell? wr ⟨xb, 4, none⟩ = some (.int .i64 31) := by have := HXX.out.at_ 4 _ rfl; simpa using this
      have f5 : World.cell? wr ⟨xb, 5, none⟩ = some (.int .i64 0) := by have := HXX.out.at_ 5 _ rfl; simpa using this
      have fl := HXX.out.lt
      by_cases hjl : j < n
      · have hj1 : (j : Int) < (n : Int) := by omega
        have hjL : j < L.length := by rw [HL.out.1]; exact hjl
        obtain ⟨zz, hzz⟩ : ∃ z, L[j] = z := ⟨_, rfl⟩
        have hzb := HL.out.2.bd L[j] (List.getElem_mem hjL)
        have hza := HAP.out L[j] (List.getElem_mem hjL)
        rw [hzz] at hzb hza
        obtain ⟨⟨zt, zb, zp, za, zm, zy⟩, zs, zf, zg, zo⟩ := zz
        simp only at hzb hza
        obtain ⟨⟨q1, q2⟩, q3, q4⟩ := hzb
        have HZA := hid hza
        obtain ⟨g9, o9, rfl, hg9, hop9⟩ := (HO8.out.rdF HL.out.1).elem Bk.len hjL _ hzz
        have HOZ2 := hid (rg_extP hop9 hg9 HXJ.out)
        have hg8 : g9 < wr.heap.size := Nat.lt_of_lt_of_le hg9 HXJ.out.size
        clear hzz hop9 hza
        have e0 : World.cell? wr ⟨g9, o9 + j * 10, none⟩ = some (.bool zt) := HOZ2.out 0 _ rfl
        have e1 : World.cell? wr ⟨g9, o9 + j * 10 + 1, none⟩ = some (.int .i64 zb) := HOZ2.out 1 _ rfl
        have e2 : World.cell? wr ⟨g9, o9 + j * 10 + 2, none⟩ = some (.int .i64 zp) := HOZ2.out 2 _ rfl
        have e3 : World.cell? wr ⟨g9, o9 + j * 10 + 3, none⟩ = some (.int .i64 za) := HOZ2.out 3 _ rfl
        have e4 : World.cell? wr ⟨g9, o9 + j * 10 + 4, none⟩ = some (.int .i64 zm) := HOZ2.out 4 _ rfl
        have e5 : World.cell? wr ⟨g9, o9 + j * 10 + 5, none⟩ = some (.int .i64 zy) := HOZ2.out 5 _ rfl
        have e6 : World.cell? wr ⟨g9, o9 + j * 10 + 6, none⟩ = some (.int .i64 zs) := HOZ2.out 6 _ rfl
        have e7 : World.cell? wr ⟨g9, o9 + j * 10 + 7, none⟩ = some (.bool zf) := HOZ2.out 7 _ rfl
        have e8 : World.cell? wr ⟨g9, o9 + j * 10 + 8, none⟩ = some (.bool zg) := HOZ2.out 8 _ rfl
        have e9 : World.cell? wr ⟨g9, o9 + j * 10 + 9, none⟩ = some (.bool zo) := HOZ2.out 9 _ rfl
        go_upto_region 23 with (fail)
        cases zo with
        | true =>
          refine wp_region_grow (by kernel_rfl) (by kernel_rfl) (by first | (simp only [List.append]; rfl) | rfl) ?_; (repeat (go_big_quiet_step (fail))); refine wpQuiet_nil ?_; intro wq hq; obtain ⟨d9, rfl⟩ := hq
          go_wp2
          go_roundw
          case rel => exact ⟨j + 1, by omega, by go_num, hid (by repeat (first | (with_reducible exact Ext.refl _) | (with_reducible refine Ext.undrew ?_) | (with_reducible refine Ext.grow ?_ _) | (with_reducible refine Ext.drew ?_) | (with_reducible refine Ext.drewN ?_ _) | (with_reducible refine Ext.alloc ?_ _) | (with_reducible assumption) | ((with_reducible refine Ext.setCell ?_ ?_ _); rotate_left; (first | exact Nat.le_refl _ | ((try dsimp only); (try simp only [World.size_alloc, grow_size, World.size_setCell]); omega)))))⟩
          case measure => simp [intOf]; omega
        | false =>
          have hza := HZA.out rfl
          by_cases t1 : at_ < zb + zs
          · have t2 : ¬ zb < at_ + r := fun e => hza ⟨t1, e⟩
            have u1 : decide (at_ < zb + zs) = true := decide_eq_true t1
            have u2 : decide (zb < at_ + r) = false := decide_eq_false t2
            refine wp_region_grow (by kernel_rfl) (by kernel_rfl) (by first | (simp only [List.append]; rfl) | rfl) ?_; (repeat (go_big_quiet_step (fail))); refine wpQuiet_nil ?_; intro wq hq; obtain ⟨d9, rfl⟩ := hq
            go_wp2
            go_roundw
            case rel => exact ⟨j + 1, by omega, by go_num, hid (by repeat (first | (with_reducible exact Ext.refl _) | (with_reducible refine Ext.undrew ?_) | (with_reducible refine Ext.grow ?_ _) | (with_reducible refine Ext.drew ?_) | (with_reducible refine Ext.drewN ?_ _) | (with_reducible refine Ext.alloc ?_ _) | (with_reducible assumption) | ((with_reducible refine Ext.setCell ?_ ?_ _); rotate_left; (first | exact Nat.le_refl _ | ((try dsimp only); (try simp only [World.size_alloc, grow_size, World.size_setCell]); omega)))))⟩
            case measure => simp [intOf]; omega
          · have u1 : decide (at_ < zb + zs) = false := decide_eq_false t1
            refine wp_region_grow (by kernel_rfl) (by kernel_rfl) (by first | (simp only [List.append]; rfl) | rfl) ?_; (repeat (go_big_quiet_step (fail))); refine wpQuiet_nil ?_; intro wq hq; obtain ⟨d9, rfl⟩ := hq
            go_wp2
            go_roundw
            case rel => exact ⟨j + 1, by omega, by go_num, hid (by repeat (first | (with_reducible exact Ext.refl _) | (with_reducible refine Ext.undrew ?_) | (with_reducible refine Ext.grow ?_ _) | (with_reducible refine Ext.drew ?_) | (with_reducible refine Ext.drewN ?_ _) | (with_reducible refine Ext.alloc ?_ _) | (with_reducible assumption) | ((with_reducible refine Ext.setCell ?_ ?_ _); rotate_left; (first | exact Nat.le_refl _ | ((try dsimp only); (try simp only [World.size_alloc, grow_size, World.size_setCell]); omega)))))⟩
            case measure => simp [intOf]; omega
      · obtain rfl : j = n := by omega
        have hj1 : ¬ (j : Int) < (j : Int) := by omega
        have HO9 := hid (HO8.out.ext hxj)
        have HX9 := hid ((HK8.out.ext hxj).base)
        have HRO : Hid (¬ (Value.slice A j c).ownBlock = some rb) := hid (fun e => by have := (HO9.out.lt rb e).1; omega)
        have hrbl := (HR8.out.ext hxj).lt
        go_wp2_with (first | (refine wpList_plain rfl fun K hK => ?_; refine wp_build1 31 35 _ rfl #[.bool true, .int .i64 at_, .int .i64 (at_ + mk), .int .i64 at_, .int .i64 31, .int .i64 0, .int .i64 r, .bool false, .bool false, .bool false] 10 rfl rfl (by omega) (by omega) Tryd.underlying31 (by kernel_rfl) (by kernel_rfl) ?_; refine hK _ _ ?_; clear hK K) | (at_builtin; refine wpList_plain rfl fun K hK => ?_; refine wp_app_row Bk.len (by decide) bk_one Tryd.underlying31 info_bk _ _ rfl (rb + 1) (.slice A j c) j (rowF Bk.cells L) rfl (HO9.out.ext (Ext.alloc (Ext.refl _) _)) (some ⟨wr.heap.size, 0, none⟩) 1 1 [(⟨⟨true, at_, at_ + mk, at_, 31, 0⟩, r, false, false, false⟩ : Bk)] rfl rfl (rdF_row (f := Bk.cells) (z := (⟨⟨true, at_, at_ + mk, at_, 31, 0⟩, r, false, false, false⟩ : Bk)) (Row.new wr #[.bool true, .int .i64 at_, .int .i64 (at_ + mk), .int .i64 at_, .int .i64 31, .int .i64 0, .int .i64 r, .bool false, .bool false, .bool false] _)) (by unfold maxLen; omega) (by omega) (by have := HX9.out.size; simp; omega) ?_; intro v7 W7 hown hgrow hat; refine hK _ _ ?_; clear hK K))
        have hlt7 := hown.lt
        go_meet
        exact ⟨x.al zn, j + 1, L ++ [(⟨⟨true, at_, at_ + mk, at_, 31, 0⟩, r, false, false, false⟩ : Bk)], hid (((HK8.out.ext hxj).mono (T' := fun i => i = rb ∨ (Value.slice A j c).ownBlock = some i) (fun i e => .inl e)).ext (Ext.alloc (Ext.refl _) _) |>.app (T := fun i => i = rb) (fun i e => by have := (HO9.out.lt i e).1; have := HRL.out; omega) hgrow hat (fun i e => (hlt7 i e).2)), hid ⟨HI2.out.1.al zn, HI2.out.2.al zn⟩, hid (by rw [rowF_snoc]; have e := hown; rw [rowF_one] at e; exact e), hid ⟨by rw [List.length_append, HL.out.1]; rfl, HBA.out⟩, Nat.succ_le_succ hn, hid (((HR8.out.ext hxj).ext (Ext.alloc (Ext.refl _) _)).only (S := fun i => (Value.slice A j c).ownBlock = some i) (grownOnly hgrow fun g e => e) (HRO.out))⟩
end heapApart

end Go.Proofs.YtoeiemeffiiidaaDoor
