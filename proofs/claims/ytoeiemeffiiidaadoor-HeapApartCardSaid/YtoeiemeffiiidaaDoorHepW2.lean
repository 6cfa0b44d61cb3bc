/- The walk of HeapApart: piece 2. -/
import Derived.Test.YtoeiemeffiiidaaDoorHepW
namespace Go.Proofs.YtoeiemeffiiidaaDoor
set_option linter.unusedSimpArgs false
set_option linter.unusedVariables false
open Go.RowKit

open Go.Deep Go.RowKit
namespace heapApart
set_option linter.unusedSimpArgs false
set_option linter.unusedVariables false
set_option maxRecDepth 100000 in
set_option maxHeartbeats 80000000 in
theorem part2 : parts.2.1 := by
  intro a0 cap1 zs1 w wl1 a0l a0h HT HWZ tu HTU HTB HTA HRI HGG hlen i1 W0 hli HWW w1 p pq HPQ i2 w2 V1 rb HRL w3 h ck q fq g bq bf i3 i4 wr u4 u11 u12 u13 u14 u15 u16 u17 u18 u19 u20 u21 u22 u23 u24 i5 i6 i7 i8 i9 i10 i11 i12 i13 i14 i15 u58 i16 i17 i18 i19 i20 i21 i22 i23 i24 i25 i26 i27 i28 i29 i30 i31 i32 i33 i34 i35 i36 i37 i38 i39 i40 i41 i42 i43 i44 i45 i46 i47 i48 i49 i50 i51 i52 i53 i54 i55 i56 i57 i58 i59 i60 i61 i62 i63 i64 i65 i66 i67 i68 i69 i70 i71 i72 i73 i74 i75 i76 i77 i78 i79 i80 i81 i82 i83 i84 i85 i86 i87 i88 i89 i90 i91 i92 i93 i94 i95 i96 i97 i98 i99 i100 i101 i102 i103 i104 i105 i106 i107 i108 i109 i110 i111 i112 i113 i114 i115 i116 i117 i118 i119 i120 i121 i122 i123 i124 u168 i125 i126 i127 i128 i129 i130 i131 i132 i133 i134 i135 i136 i137 i138 i139 i140 i141 i142 i143 i144 i145 i146 i147 i148 i149 i150 i151 i152 i153 i154 i155 i156 i157 i158 i159 i160 i161 i162 u207 i163 i164 i165 i166 i167 i168 i169 i170 i171 i172 i173 i174 i175 i176 i177 i178 i179 i180 i181 i182 i183 i184 i185 i186 i187 i188 i189 i190 i191 i192 i193 i194 i195 i196 i197 i198 i199 i200 i201 i202 i203 i204 i205 i206 k x n L hk HL hn A c i207 i208 hk3 hlt b0 o HSL hb0 zn ct cb cp ca cm cy hk1 hk2 hk4 i209 i210 i211 i212 i213 i214 i215 HI2 W2 HO2 HR0 ob HK2 d1 d2 d3 d4 d5 d6 d7 dl i216 i217 u47 u48 u49 u50 u51 u52 u53 u54 u55 u56 u57 u59 u60 u61 u62 u63 u64 u65 u66 u67 u68 u69 u70 u71 u72 u73 u74 u75 u76 u77 u78 u79 u80 u81 u82 u83 u84 u85 u86 u87 u88 u89 u90 u91 u92 u93 u94 u95 u96 u97 u98 u99 u100 u101 u102 u103 u104 u105 u106 u107 u108 u109 u110 u111 u112 u113 u114 u115 u116 u117 u118 u119 u120 u121 u122 u123 u124 u125 u126 u127 u128 u129 u130 u131 u132 u133 u134 u135 u136 u137 u138 u139 u140 u141 u142 u143 u144 u145 u146 u147 u148 u149 u150 u151 u152 u153 u154 u155 u156 u157 u158 u159 u160 u161 u162 u163 u164 u165 u166 u167 u169 u170 u171 u172 u173 u174 u175 u176 u177 u178 u179 u180 u181 u182 u183 u184 u185 u186 u187 u188 u189 u190 u191 u192 u193 u194 u195 u196 u197 u198 u199 u200 u201 u202 u203 u204 u205 u206 u208 u209 u210 u211 u212 u213 u214 u215 u216 u217 u218 u219 u220 u221 u222 u223 u224 u225 u226 u227 u228 u229 u230 u231 u232 u233 u234 u235 u236 u237 u238 u239 u240 u241 u242 u243 u244 u245 u246 u247 u248 u249 u250 u251 HZN HR2 d0
  obtain ⟨bg, hbg⟩ : ∃ b, (!oddB x.t) = b := ⟨_, rfl⟩
  have HBG := hid hbg
  clear hbg
  have HBU : Hid (BA (x.beg 400) (L.map (updB bg false))) := hid (by have := HL.out.2.beg 400; rw [HBG.out] at this; exact this)
  go_upto_region 45 with (go_at_call 13; refine (hBegin W0 _ h ck q fq p pq g bq bf 400 512 tu 512 31 64 (fun i => (fun i => i = rb ∨ (Value.slice A n c).ownBlock = some i) i ∨ i = ob) x (HK2.out.ext (by repeat (first | (with_reducible exact Ext.refl _) | (with_reducible refine Ext.undrew ?_) | (with_reducible refine Ext.grow ?_ _) | (with_reducible refine Ext.drew ?_) | (with_reducible refine Ext.drewN ?_ _) | (with_reducible refine Ext.alloc ?_ _) | (with_reducible assumption) | ((with_reducible refine Ext.setCell ?_ ?_ _); rotate_left; (first | exact Nat.le_refl _ | ((try dsimp only); (try simp only [World.size_alloc, grow_size, World.size_setCell]); omega)))))) (by have := HI2.out.2.2.1; omega) (by have := HI2.out.2.2.2.2; omega)).mono ?_; rw [HBG.out]; rintro e W4 ⟨rfl, HK4, HO4⟩)
  have HO4' := hid ((HO2.out.ext (by repeat (first | (with_reducible exact Ext.refl _) | (with_reducible refine Ext.undrew ?_) | (with_reducible refine Ext.grow ?_ _) | (with_reducible refine Ext.drew ?_) | (with_reducible refine Ext.drewN ?_ _) | (with_reducible refine Ext.alloc ?_ _) | (with_reducible assumption) | ((with_reducible refine Ext.setCell ?_ ?_ _); rotate_left; (first | exact Nat.le_refl _ | ((try dsimp only); (try simp only [World.size_alloc, grow_size, World.size_setCell]); omega)))))).only HO4.out (fun g e hs => hs (.inl (.inr e))))
  have HR4 := hid ((HR0.out.ext (by repeat (first | (with_reducible exact Ext.refl _) | (with_reducible refine Ext.undrew ?_) | (with_reducible refine Ext.grow ?_ _) | (with_reducible refine Ext.drew ?_) | (with_reducible refine Ext.drewN ?_ _) | (with_reducible refine Ext.alloc ?_ _) | (with_reducible assumption) | ((with_reducible refine Ext.setCell ?_ ?_ _); rotate_left; (first | exact Nat.le_refl _ | ((try dsimp only); (try simp only [World.size_alloc, grow_size, World.size_setCell]); omega)))))).only HO4.out (fun e => e (.inl (.inl rfl))))
  clear HK2 HR2 HO2 HR0 HO4 d0 d1 d2 d3 d4 d5 d6 d7 dl
  have HW4 : Hid (rb + 1 ≤ W4.heap.size) := hid HR4.out.lt
  go_wp2
  go_loopw [17, 18] (fun vn i wr => ∃ j : Nat, j ≤ n ∧ i = .int .i64 j ∧ Hid (ownsAt wr W4.heap.size 35 10 vn j (rowF Bk.cells ((L.take j).map (updB bg false)))) ∧ Hid (Ext W4 wr)) (fun _ i _ => n - (intOf i).toNat)
  case atStart => exact ⟨0, Nat.zero_le _, rfl, hid (ownsAt_nil _ _ _ _), hid (Ext.refl _)⟩
  case round =>
    obtain ⟨j, hj, rfl, HOr, HXr⟩ := hrel
    have hj3 : (0 : Int) ≤ (j : Int) := by omega
    by_cases hjl : j < n
    · have hj1 : (j : Int) < (n : Int) := by omega
      have hjL : j < L.length := by rw [HL.out.1]; exact hjl
      obtain ⟨zz, hzz⟩ : ∃ z, L[j] = z := ⟨_, rfl⟩
      have HZZ := hid hzz
      obtain ⟨⟨zt, zb, zp, za, zm, zy⟩, zs, zf, zg, zo⟩ := zz
      obtain ⟨g9, o9, rfl, hg9, hop9⟩ := (HO4'.out.rdF HL.out.1).elem Bk.len hjL _ hzz
      have HOZ := hid (rg_extP hop9 hg9 HXr.out)
      have hg8 : g9 < wr.heap.size := Nat.lt_of_lt_of_le hg9 HXr.out.size
      clear hzz hop9
      have e0 : World.cell? wr ⟨g9, o9 + j * 10, none⟩ = some (.bool zt) := HOZ.out 0 _ rfl
      have e1 : World.cell? wr ⟨g9, o9 + j * 10 + 1, none⟩ = some (.int .i64 zb) := HOZ.out 1 _ rfl
      have e2 : World.cell? wr ⟨g9, o9 + j * 10 + 2, none⟩ = some (.int .i64 zp) := HOZ.out 2 _ rfl
      have e3 : World.cell? wr ⟨g9, o9 + j * 10 + 3, none⟩ = some (.int .i64 za) := HOZ.out 3 _ rfl
      have e4 : World.cell? wr ⟨g9, o9 + j * 10 + 4, none⟩ = some (.int .i64 zm) := HOZ.out 4 _ rfl
      have e5 : World.cell? wr ⟨g9, o9 + j * 10 + 5, none⟩ = some (.int .i64 zy) := HOZ.out 5 _ rfl
      have e6 : World.cell? wr ⟨g9, o9 + j * 10 + 6, none⟩ = some (.int .i64 zs) := HOZ.out 6 _ rfl
      have e7 : World.cell? wr ⟨g9, o9 + j * 10 + 7, none⟩ = some (.bool zf) := HOZ.out 7 _ rfl
      have e8 : World.cell? wr ⟨g9, o9 + j * 10 + 8, none⟩ = some (.bool zg) := HOZ.out 8 _ rfl
      have e9 : World.cell? wr ⟨g9, o9 + j * 10 + 9, none⟩ = some (.bool zo) := HOZ.out 9 _ rfl
      go_upto_region 50 with (fail)
      have hxr := HXr.out
      refine wp_gen (fun V => Hid (Ext W4 V) ∧ Hid (ownsAt V W4.heap.size 35 10 u17 j (rowF Bk.cells ((L.take j).map (updB bg false)))) ∧ Hid (Row V wr.heap.size 0 [.bool zt, .int .i64 zb, .int .i64 zp, .int .i64 za, .int .i64 zm, .int .i64 zy, .int .i64 zs, .bool zf, .bool zg, .bool zo])) ⟨hid (by repeat (first | (with_reducible exact Ext.refl _) | (with_reducible refine Ext.undrew ?_) | (with_reducible refine Ext.grow ?_ _) | (with_reducible refine Ext.drew ?_) | (with_reducible refine Ext.drewN ?_ _) | (with_reducible refine Ext.alloc ?_ _) | (with_reducible assumption) | ((with_reducible refine Ext.setCell ?_ ?_ _); rotate_left; (first | exact Nat.le_refl _ | ((try dsimp only); (try simp only [World.size_alloc, grow_size, World.size_setCell]); omega))))), hid (HOr.out.ext (by repeat (first | (with_reducible exact Ext.refl _) | (with_reducible refine Ext.undrew ?_) | (with_reducible refine Ext.grow ?_ _) | (with_reducible refine Ext.drew ?_) | (with_reducible refine Ext.drewN ?_ _) | (with_reducible refine Ext.alloc ?_ _) | (with_reducible assumption) | ((with_reducible refine Ext.setCell ?_ ?_ _); rotate_left; (first | exact Nat.le_refl _ | ((try dsimp only); (try simp only [World.size_alloc, grow_size, World.size_setCell]); omega)))))), hid (Row.new wr _ _)⟩ ?_
      have HYN : Hid (W4.heap.size ≤ wr.heap.size ∧ ∀ g, u17.ownBlock = some g → ¬ g = wr.heap.size) := hid ⟨hxr.size, fun g e => by have := (HOr.out.lt g e).2; omega⟩
      clear HOZ hg8 hxr HXr HOr e0 e1 e2 e3 e4 e5 e6 e7 e8 e9
      rintro W5 ⟨HX5, HO5, HY5⟩
      generalize wr.heap.size = yb at HY5 HYN ⊢
      have hyb : W4.heap.size ≤ yb := HYN.out.1
      have y0 : World.cell? W5 ⟨yb, 0, none⟩ = some (.bool zt) := by have := HY5.out.at_ 0 _ rfl; simpa using this
      have yf0 : World.frozen? W5 ⟨yb, 0, none⟩ = false := by have := HY5.out.free 0 (by simp); simpa using this
      have y1 : World.cell? W5 ⟨yb, 1, none⟩ = some (.int .i64 zb) := by have := HY5.out.at_ 1 _ rfl; simpa using this
      have yf1 : World.frozen? W5 ⟨yb, 1, none⟩ = false := by have := HY5.out.free 1 (by simp); simpa using this
      have y2 : World.cell? W5 ⟨yb, 2, none⟩ = some (.int .i64 zp) := by have := HY5.out.at_ 2 _ rfl; simpa using this
      have yf2 : World.frozen? W5 ⟨yb, 2, none⟩ = false := by have := HY5.out.free 2 (by simp); simpa using this
      have y3 : World.cell? W5 ⟨yb, 3, none⟩ = some (.int .i64 za) := by have := HY5.out.at_ 3 _ rfl; simpa using this
      have yf3 : World.frozen? W5 ⟨yb, 3, none⟩ = false := by have := HY5.out.free 3 (by simp); simpa using this
      have y4 : World.cell? W5 ⟨yb, 4, none⟩ = some (.int .i64 zm) := by have := HY5.out.at_ 4 _ rfl; simpa using this
      have yf4 : World.frozen? W5 ⟨yb, 4, none⟩ = false := by have := HY5.out.free 4 (by simp); simpa using this
      have y5 : World.cell? W5 ⟨yb, 5, none⟩ = some (.int .i64 zy) := by have := HY5.out.at_ 5 _ rfl; simpa using this
      have yf5 : World.frozen? W5 ⟨yb, 5, none⟩ = false := by have := HY5.out.free 5 (by simp); simpa using this
      have y6 : World.cell? W5 ⟨yb, 6, none⟩ = some (.int .i64 zs) := by have := HY5.out.at_ 6 _ rfl; simpa using this
      have yf6 : World.frozen? W5 ⟨yb, 6, none⟩ = false := by have := HY5.out.free 6 (by simp); simpa using this
      have y7 : World.cell? W5 ⟨yb, 7, none⟩ = some (.bool zf) := by have := HY5.out.at_ 7 _ rfl; simpa using this
      have yf7 : World.frozen? W5 ⟨yb, 7, none⟩ = false := by have := HY5.out.free 7 (by simp); simpa using this
      have y8 : World.cell? W5 ⟨yb, 8, none⟩ = some (.bool zg) := by have := HY5.out.at_ 8 _ rfl; simpa using this
      have yf8 : World.frozen? W5 ⟨yb, 8, none⟩ = false := by have := HY5.out.free 8 (by simp); simpa using this
      have y9 : World.cell? W5 ⟨yb, 9, none⟩ = some (.bool zo) := by have := HY5.out.at_ 9 _ rfl; simpa using this
      have yf9 : World.frozen? W5 ⟨yb, 9, none⟩ = false := by have := HY5.out.free 9 (by simp); simpa using this
      have yl := HY5.out.lt
      as_aux_lemma =>
        obtain ⟨g2, hg2⟩ : ∃ b, (zg || (bg && zf)) = b := ⟨_, rfl⟩
        have HG2 := hid hg2
        clear hg2
        have hx5 := HX5.out
        go_cut [] (fun wx => Hid (Ext W4 wx) ∧ Hid (ownsAt wx W4.heap.size 35 10 u17 j (rowF Bk.cells ((L.take j).map (updB bg false)))) ∧ Hid (Row wx yb 0 [.bool zt, .int .i64 zb, .int .i64 zp, .int .i64 za, .int .i64 zm, .int .i64 zy, .int .i64 zs, .bool zf, .bool zg, .bool zo]))
        case first =>
          as_aux_lemma =>
            cases zo with
            | true =>
              refine wp_region_cut (l' := [_, _, _, _, _, _, _, _, _, _, _]) (l1 := [_, _, _, _, _, _, _, _, _, _]) (r1 := [_]) 10 (by rfl) (by rfl) (by rfl) ?_
              (repeat (go_big_quiet_step (fail)))
              refine wpQuiet_nil ?_
              rintro _ rfl
              go_wp2
              go_meet
              exact ⟨hid (by repeat (first | (with_reducible exact Ext.refl _) | (with_reducible refine Ext.undrew ?_) | (with_reducible refine Ext.grow ?_ _) | (with_reducible refine Ext.drew ?_) | (with_reducible refine Ext.drewN ?_ _) | (with_reducible refine Ext.alloc ?_ _) | (with_reducible assumption) | ((with_reducible refine Ext.setCell ?_ ?_ _); rotate_left; (first | exact Nat.le_refl _ | ((try dsimp only); (try simp only [World.size_alloc, grow_size, World.size_setCell]); omega))))), hid (HO5.out.only (S := (· = yb)) (by repeat (first | (with_reducible exact Only.refl _ _) | (with_reducible refine Only.setCell (S := (· = yb)) ?_ (.inl rfl) _))) (fun g e => HYN.out.2 g e)), hid (row_atc HY5.out 9 (by simp) _)⟩
            | false =>
              refine wp_region_cut (l' := [_, _, _, _, _, _, _, _, _, _, _]) (l1 := [_, _, _, _, _, _, _, _, _, _]) (r1 := [_]) 10 (by rfl) (by rfl) (by rfl) ?_
              (repeat (go_big_quiet_step (fail)))
              refine wpQuiet_nil ?_
              rintro _ rfl
              go_wp2
              go_meet
              exact ⟨hid (by repeat (first | (with_reducible exact Ext.refl _) | (with_reducible refine Ext.undrew ?_) | (with_reducible refine Ext.grow ?_ _) | (with_reducible refine Ext.drew ?_) | (with_reducible refine Ext.drewN ?_ _) | (with_reducible refine Ext.alloc ?_ _) | (with_reducible assumption) | ((with_reducible refine Ext.setCell ?_ ?_ _); rotate_left; (first | exact Nat.le_refl _ | ((try dsimp only); (try simp only [World.size_alloc, grow_size, World.size_setCell]); omega))))), hid (HO5.out.only (S := (· = yb)) (by repeat (first | (with_reducible exact Only.refl _ _) | (with_reducible refine Only.setCell (S := (· = yb)) ?_ (.inl rfl) _))) (fun g e => HYN.out.2 g e)), hid (row_atc HY5.out 9 (by simp) _)⟩
        case rest =>
          clear hx5 HX5 HO5 HY5 y0 yf0 y1 yf1 y2 yf2 y3 yf3 y4 yf4 y5 yf5 y6 yf6 y7 yf7 y8 yf8 y9 yf9 yl
          obtain ⟨HX6, HO6, HY6⟩ := hcut
          have y0 : World.cell? wc ⟨yb, 0, none⟩ = some (.bool zt) := by have := HY6.out.at_ 0 _ rfl; simpa using this
          have yf0 : World.frozen? wc ⟨yb, 0, none⟩ = false := by have := HY6.out.free 0 (by simp); simpa using this
          have y1 : World.cell? wc ⟨yb, 1, none⟩ = some (.int .i64 zb) := by have := HY6.out.at_ 1 _ rfl; simpa using this
          have yf1 : World.frozen? wc ⟨yb, 1, none⟩ = false := by have := HY6.out.free 1 (by simp); simpa using this
          have y2 : World.cell? wc ⟨yb, 2, none⟩ = some (.int .i64 zp) := by have := HY6.out.at_ 2 _ rfl; simpa using this
          have yf2 : World.frozen? wc ⟨yb, 2, none⟩ = false := by have := HY6.out.free 2 (by simp); simpa using this
          have y3 : World.cell? wc ⟨yb, 3, none⟩ = some (.int .i64 za) := by have := HY6.out.at_ 3 _ rfl; simpa using this
          have yf3 : World.frozen? wc ⟨yb, 3, none⟩ = false := by have := HY6.out.free 3 (by simp); simpa using this
          have y4 : World.cell? wc ⟨yb, 4, none⟩ = some (.int .i64 zm) := by have := HY6.out.at_ 4 _ rfl; simpa using this
          have yf4 : World.frozen? wc ⟨yb, 4, none⟩ = false := by have := HY6.out.free 4 (by simp); simpa using this
          have y5 : World.cell? wc ⟨yb, 5, none⟩ = some (.int .i64 zy) := by have := HY6.out.at_ 5 _ rfl; simpa using this
          have yf5 : World.frozen? wc ⟨yb, 5, none⟩ = false := by have := HY6.out.free 5 (by simp); simpa using this
          have y6 : World.cell? wc ⟨yb, 6, none⟩ = some (.int .i64 zs) := by have := HY6.out.at_ 6 _ rfl; simpa using this
          have yf6 : World.frozen? wc ⟨yb, 6, none⟩ = false := by have := HY6.out.free 6 (by simp); simpa using this
          have y7 : World.cell? wc ⟨yb, 7, none⟩ = some (.bool zf) := by have := HY6.out.at_ 7 _ rfl; simpa using this
          have yf7 : World.frozen? wc ⟨yb, 7, none⟩ = false := by have := HY6.out.free 7 (by simp); simpa using this
          have y8 : World.cell? wc ⟨yb, 8, none⟩ = some (.bool zg) := by have := HY6.out.at_ 8 _ rfl; simpa using this
          have yf8 : World.frozen? wc ⟨yb, 8, none⟩ = false := by have := HY6.out.free 8 (by simp); simpa using this
          have y9 : World.cell? wc ⟨yb, 9, none⟩ = some (.bool zo) := by have := HY6.out.at_ 9 _ rfl; simpa using this
          have yf9 : World.frozen? wc ⟨yb, 9, none⟩ = false := by have := HY6.out.free 9 (by simp); simpa using this
          have yl := HY6.out.lt
          have hx6 := HX6.out
          go_upto_region 51 with (fail)
          go_cut [] (fun wx => Hid (Ext W4 wx) ∧ Hid (ownsAt wx W4.heap.size 35 10 u17 j (rowF Bk.cells ((L.take j).map (updB bg false)))) ∧ Hid (Row wx yb 0 [.bool zt, .int .i64 zb, .int .i64 zp, .int .i64 za, .int .i64 zm, .int .i64 zy, .int .i64 zs, .bool zf, .bool g2, .bool zo]))
          case first =>
            as_aux_lemma =>
              cases zg with
              | true =>
                obtain rfl : g2 = true := HG2.out.symm
                refine wp_region_cut (l' := [_, _, _, _, _, _, _, _, _, _, _]) (l1 := [_, _, _, _, _, _, _, _, _, _]) (r1 := [_]) 10 (by rfl) (by rfl) (by rfl) ?_
                (repeat (go_big_quiet_step (fail)))
                refine wpQuiet_nil ?_
                rintro _ rfl
                go_wp2
                go_meet
                exact ⟨hid (by repeat (first | (with_reducible exact Ext.refl _) | (with_reducible refine Ext.undrew ?_) | (with_reducible refine Ext.grow ?_ _) | (with_reducible refine Ext.drew ?_) | (with_reducible refine Ext.drewN ?_ _) | (with_reducible refine Ext.alloc ?_ _) | (with_reducible assumption) | ((with_reducible refine Ext.setCell ?_ ?_ _); rotate_left; (first | exact Nat.le_refl _ | ((try dsimp only); (try simp only [World.size_alloc, grow_size, World.size_setCell]); omega))))), hid (HO6.out.only (S := (· = yb)) (by repeat (first | (with_reducible exact Only.refl _ _) | (with_reducible refine Only.setCell (S := (· = yb)) ?_ (.inl rfl) _))) (fun g e => HYN.out.2 g e)), hid (row_atc HY6.out 8 (by simp) _)⟩
              | false =>
                cases bg with
                | true =>
                  obtain rfl : g2 = zf := HG2.out.symm
                  refine wp_region_cut (l' := [_, _, _, _, _, _, _, _, _, _, _]) (l1 := [_, _, _, _, _, _, _, _, _, _]) (r1 := [_]) 10 (by rfl) (by rfl) (by rfl) ?_
                  (repeat (go_big_quiet_step (fail)))
                  refine wpQuiet_nil ?_
                  rintro _ rfl
                  go_wp2
                  go_meet
                  exact ⟨hid (by repeat (first | (with_reducible exact Ext.refl _) | (with_reducible refine Ext.undrew ?_) | (with_reducible refine Ext.grow ?_ _) | (with_reducible refine Ext.drew ?_) | (with_reducible refine Ext.drewN ?_ _) | (with_reducible refine Ext.alloc ?_ _) | (with_reducible assumption) | ((with_reducible refine Ext.setCell ?_ ?_ _); rotate_left; (first | exact Nat.le_refl _ | ((try dsimp only); (try simp only [World.size_alloc, grow_size, World.size_setCell]); omega))))), hid (HO6.out.only (S := (· = yb)) (by repeat (first | (with_reducible exact Only.refl _ _) | (with_reducible refine Only.setCell (S := (· = yb)) ?_ (.inl rfl) _))) (fun g e => HYN.out.2 g e)), hid (row_atc HY6.out 8 (by simp) _)⟩
                | false =>
                  obtain rfl : g2 = false := HG2.out.symm
                  refine wp_region_cut (l' := [_, _, _, _, _, _, _, _, _, _, _]) (l1 := [_, _, _, _, _, _, _, _, _, _]) (r1 := [_]) 10 (by rfl) (by rfl) (by rfl) ?_
                  (repeat (go_big_quiet_step (fail)))
                  refine wpQuiet_nil ?_
                  rintro _ rfl
                  go_wp2
                  go_meet
                  exact ⟨hid (by repeat (first | (with_reducible exact Ext.refl _) | (with_reducible refine Ext.undrew ?_) | (with_reducible refine Ext.grow ?_ _) | (with_reducible refine Ext.drew ?_) | (with_reducible refine Ext.drewN ?_ _) | (with_reducible refine Ext.alloc ?_ _) | (with_reducible assumption) | ((with_reducible refine Ext.setCell ?_ ?_ _); rotate_left; (first | exact Nat.le_refl _ | ((try dsimp only); (try simp only [World.size_alloc, grow_size, World.size_setCell]); omega))))), hid (HO6.out.only (S := (· = yb)) (by repeat (first | (with_reducible exact Only.refl _ _) | (with_reducible refine Only.setCell (S := (· = yb)) ?_ (.inl rfl) _))) (fun g e => HYN.out.2 g e)), hid (row_atc HY6.out 8 (by simp) _)⟩
          case rest =>
            clear hx6 HX6 HO6 HY6 y0 yf0 y1 yf1 y2 yf2 y3 yf3 y4 yf4 y5 yf5 y6 yf6 y7 yf7 y8 yf8 y9 yf9 yl
            obtain ⟨HX7, HO7, HY7⟩ := hcut
            have y0 : World.cell? wc ⟨yb, 0, none⟩ = some (.bool zt) := by have := HY7.out.at_ 0 _ rfl; simpa using this
            have y1 : World.cell? wc ⟨yb, 1, none⟩ = some (.int .i64 zb) := by have := HY7.out.at_ 1 _ rfl; simpa using this
            have y2 : World.cell? wc ⟨yb, 2, none⟩ = some (.int .i64 zp) := by have := HY7.out.at_ 2 _ rfl; simpa using this
            have y3 : World.cell? wc ⟨yb, 3, none⟩ = some (.int .i64 za) := by have := HY7.out.at_ 3 _ rfl; simpa using this
            have y4 : World.cell? wc ⟨yb, 4, none⟩ = some (.int .i64 zm) := by have := HY7.out.at_ 4 _ rfl; simpa using this
            have y5 : World.cell? wc ⟨yb, 5, none⟩ = some (.int .i64 zy) := by have := HY7.out.at_ 5 _ rfl; simpa using this
            have y6 : World.cell? wc ⟨yb, 6, none⟩ = some (.int .i64 zs) := by have := HY7.out.at_ 6 _ rfl; simpa using this
            have y7 : World.cell? wc ⟨yb, 7, none⟩ = some (.bool zf) := by have := HY7.out.at_ 7 _ rfl; simpa using this
            have y8 : World.cell? wc ⟨yb, 8, none⟩ = some (.bool g2) := by have := HY7.out.at_ 8 _ rfl; simpa using this
            have y9 : World.cell? wc ⟨yb, 9, none⟩ = some (.bool zo) := by have := HY7.out.at_ 9 _ rfl; simpa using this
            have yl := HY7.out.lt
            have hzu : updB bg false ⟨⟨zt, zb, zp, za, zm, zy⟩, zs, zf, zg, zo⟩ = (⟨⟨zt, zb, zp, za, zm, zy⟩, zs, zf, g2, zo⟩ : Bk) := by unfold updB; simp [← HG2.out]
            have HTK : Hid ((L.take (j + 1)).map (updB bg false) = (L.take j).map (updB bg false) ++ [(⟨⟨zt, zb, zp, za, zm, zy⟩, zs, zf, g2, zo⟩ : Bk)]) := hid (by rw [List.take_succ_eq_append_getElem hjL, HZZ.out, List.map_append, ← hzu]; rfl)
            clear hzu HZZ
            go_wp2_with (first | (refine wpList_plain rfl fun K hK => ?_; refine wp_build1 31 35 _ rfl #[.bool zt, .int .i64 zb, .int .i64 zp, .int .i64 za, .int .i64 zm, .int .i64 zy, .int .i64 zs, .bool zf, .bool g2, .bool zo] 10 rfl rfl (by omega) (by omega) Tryd.underlying31 (by kernel_rfl) (by kernel_rfl) ?_; refine hK _ _ ?_; clear hK K) | (at_builtin; refine wpList_plain rfl fun K hK => ?_; refine wp_app_row Bk.len (by decide) bk_one Tryd.underlying31 info_bk _ _ rfl W4.heap.size u17 j (rowF Bk.cells ((L.take j).map (updB bg false))) rfl (HO7.out.ext (Ext.alloc (Ext.refl _) _)) (some ⟨wc.heap.size, 0, none⟩) 1 1 [(⟨⟨zt, zb, zp, za, zm, zy⟩, zs, zf, g2, zo⟩ : Bk)] rfl rfl (rdF_row (f := Bk.cells) (z := (⟨⟨zt, zb, zp, za, zm, zy⟩, zs, zf, g2, zo⟩ : Bk)) (Row.new wc #[.bool zt, .int .i64 zb, .int .i64 zp, .int .i64 za, .int .i64 zm, .int .i64 zy, .int .i64 zs, .bool zf, .bool g2, .bool zo] _)) (by unfold maxLen; omega) (by omega) (by have := HX7.out.size; simp; omega) ?_; intro v7 W7 hown hgrow hat; refine hK _ _ ?_; clear hK K))
            have HE7 : Hid (Ext W4 W7) := hid (Ext.only (HX7.out.trans (Ext.alloc (Ext.refl _) _)) (grownOnly (S := fun i => W4.heap.size ≤ i) hgrow (fun g e => (HO7.out.lt g e).1)) (fun i hi => hi))
            go_roundw
            case rel => exact ⟨j + 1, by omega, by go_num, hid (by rw [HTK.out, rowF_snoc]; have e := hown; rw [rowF_one] at e; exact e), HE7⟩
            case measure => simp [intOf]; omega
    · obtain rfl : j = n := by omega
      have hj1 : ¬ (j : Int) < (j : Int) := by omega
      rw [List.take_of_length_le (by rw [HL.out.1]; exact Nat.le_refl _)] at HOr
      have hltr := HOr.out.lt
      as_aux_lemma =>
        go_wp2
        go_meet
        exact ⟨x.beg 400, j, L.map (updB bg false), hid ((HK4.out.mono (T' := fun i => i = rb) (fun i e => .inl (.inl e))).row HXr.out hltr), hid ⟨HI2.out.1.beg _, HI2.out.2.beg _⟩, hid (HOr.out.mono HW4.out), hid ⟨by rw [List.length_map, HL.out.1], HBU.out⟩, Nat.le_succ_of_le hn, hid (HR4.out.ext HXr.out)⟩
end heapApart

end Go.Proofs.YtoeiemeffiiidaaDoor
