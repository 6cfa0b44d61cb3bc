/- The walk of HeapApart: piece 1. -/
import Derived.Test.YtoeiemeffiiidaaDoorHepW
namespace Go.Proofs.YtoeiemeffiiidaaDoor
set_option linter.unusedSimpArgs false
set_option linter.unusedVariables false
open Go.RowKit

open Go.Deep Go.RowKit
namespace heapApart
set_option linter.unusedSimpArgs false
set_option linter.unusedVariables false
set_option maxRecDepth 100000 in
set_option maxHeartbeats 80000000 in
theorem part1 : parts.1 := by
  intro a0 cap1 zs1 w wl1 a0l a0h HT HWZ tu HTU HTB HTA HRI HGG hlen i1 W0 hli HWW w1 p pq HPQ i2 w2 V1 rb HRL w3 h ck q fq g bq bf i3 i4 wr u4 u11 u12 u13 u14 u15 u16 u17 u18 u19 u20 u21 u22 u23 u24 i5 i6 i7 i8 i9 i10 i11 i12 i13 i14 i15 u58 i16 i17 i18 i19 i20 i21 i22 i23 i24 i25 i26 i27 i28 i29 i30 i31 i32 i33 i34 i35 i36 i37 i38 i39 i40 i41 i42 i43 i44 i45 i46 i47 i48 i49 i50 i51 i52 i53 i54 i55 i56 i57 i58 i59 i60 i61 i62 i63 i64 i65 i66 i67 i68 i69 i70 i71 i72 i73 i74 i75 i76 i77 i78 i79 i80 i81 i82 i83 i84 i85 i86 i87 i88 i89 i90 i91 i92 i93 i94 i95 i96 i97 i98 i99 i100 i101 i102 i103 i104 i105 i106 i107 i108 i109 i110 i111 i112 i113 i114 i115 i116 i117 i118 i119 i120 i121 i122 i123 i124 u168 i125 i126 i127 i128 i129 i130 i131 i132 i133 i134 i135 i136 i137 i138 i139 i140 i141 i142 i143 i144 i145 i146 i147 i148 i149 i150 i151 i152 i153 i154 i155 i156 i157 i158 i159 i160 i161 i162 u207 i163 i164 i165 i166 i167 i168 i169 i170 i171 i172 i173 i174 i175 i176 i177 i178 i179 i180 i181 i182 i183 i184 i185 i186 i187 i188 i189 i190 i191 i192 i193 i194 i195 i196 i197 i198 i199 i200 i201 i202 i203 i204 i205 i206 k x n L hk HL hn A c i207 i208 hk3 hlt b0 o HSL hb0 wh zn ct cb cp ca cm cy HZN hk1 hk2 hk4 i209 i210 i211 i212 i213 i214 i215 HI2 W2 HO2 HR0 ob HK2 HR2 d0 d1 d2 d3 d4 d5 d6 d7 dl i216 i217 u47 u48 u49 u50 u51 u52 u53 u54 u55 u56 u57 u59 u60 u61 u62 u63 u64 u65 u66 u67 u68 u69 u70 u71 u72 u73 u74 u75 u76 u77 u78 u79 u80 u81 u82 u83 u84 u85 u86 u87 u88 u89 u90 u91 u92 u93 u94 u95 u96 u97 u98 u99 u100 u101 u102 u103 u104 u105 u106 u107 u108 u109 u110 u111 u112 u113 u114 u115 u116 u117 u118 u119 u120 u121 u122 u123 u124 u125 u126 u127 u128 u129 u130 u131 u132 u133 u134 u135 u136 u137 u138 u139 u140 u141 u142 u143 u144 u145 u146 u147 u148 u149 u150 u151 u152 u153 u154 u155 u156 u157 u158 u159 u160 u161 u162 u163 u164 u165 u166 u167 u169 u170 u171 u172 u173 u174 u175 u176 u177 u178 u179 u180 u181 u182 u183 u184 u185 u186 u187 u188 u189 u190 u191 u192 u193 u194 u195 u196 u197 u198 u199 u200 u201 u202 u203 u204 u205 u206 u208 u209 u210 u211 u212 u213 u214 u215 u216 u217 u218 u219 u220 u221 u222 u223 u224 u225 u226 u227 u228 u229 u230 u231 u232 u233 u234 u235 u236 u237 u238 u239 u240 u241 u242 u243 u244 u245 u246 u247 u248 u249 u250 u251
  by_cases hn0 : n = 0
  · subst hn0
    have hn1 : ((0 : Int) == 0) = true := rfl
    go_wp2
    go_meet
    exact ⟨x, 0, L, hid ((HK2.out.ext (by repeat (first | (with_reducible exact Ext.refl _) | (with_reducible refine Ext.undrew ?_) | (with_reducible refine Ext.grow ?_ _) | (with_reducible refine Ext.drew ?_) | (with_reducible refine Ext.drewN ?_ _) | (with_reducible refine Ext.alloc ?_ _) | (with_reducible assumption) | ((with_reducible refine Ext.setCell ?_ ?_ _); rotate_left; (first | exact Nat.le_refl _ | ((try dsimp only); (try simp only [World.size_alloc, grow_size, World.size_setCell]); omega)))))).mono (fun i e => .inl e)), hid ⟨HI2.out.1, HI2.out.2.up⟩, hid (HO2.out.ext (by repeat (first | (with_reducible exact Ext.refl _) | (with_reducible refine Ext.undrew ?_) | (with_reducible refine Ext.grow ?_ _) | (with_reducible refine Ext.drew ?_) | (with_reducible refine Ext.drewN ?_ _) | (with_reducible refine Ext.alloc ?_ _) | (with_reducible assumption) | ((with_reducible refine Ext.setCell ?_ ?_ _); rotate_left; (first | exact Nat.le_refl _ | ((try dsimp only); (try simp only [World.size_alloc, grow_size, World.size_setCell]); omega)))))), HL, Nat.zero_le _, hid (HR0.out.ext (by repeat (first | (with_reducible exact Ext.refl _) | (with_reducible refine Ext.undrew ?_) | (with_reducible refine Ext.grow ?_ _) | (with_reducible refine Ext.drew ?_) | (with_reducible refine Ext.drewN ?_ _) | (with_reducible refine Ext.alloc ?_ _) | (with_reducible assumption) | ((with_reducible refine Ext.setCell ?_ ?_ _); rotate_left; (first | exact Nat.le_refl _ | ((try dsimp only); (try simp only [World.size_alloc, grow_size, World.size_setCell]); omega))))))⟩
  · obtain ⟨a40, a41⟩ := and4095 zn
    obtain ⟨y, hy⟩ : ∃ y, bits .and .i64 zn 4095 = y := ⟨_, rfl⟩
    rw [hy] at a40 a41
    obtain ⟨i, hi⟩ : ∃ i : Nat, y % (n : Int) = (i : Int) := ⟨(y % (n : Int)).toNat, by have := Int.emod_nonneg y (show (n : Int) ≠ 0 by omega); omega⟩
    have hil : i < n := by have := Int.emod_lt_of_pos y (show (0 : Int) < (n : Int) by omega); omega
    have hti : y.tmod (n : Int) = (i : Int) := by rw [Int.tmod_eq_emod_of_nonneg a40]; exact hi
    have hm0 : ¬ (n : Int) = 0 := by omega
    have hm1 : ((n : Int) == 0) = false := by simpa using hm0
    have hi0 : (0 : Int) ≤ (i : Int) := by omega
    have hi1 : (i : Int) < (n : Int) := by omega
    have hiL : i < L.length := by rw [HL.out.1]; exact hil
    obtain ⟨bz, hbz⟩ : ∃ z, L[i] = z := ⟨_, rfl⟩
    obtain ⟨⟨jt, jb, jp, ja, jm, jy⟩, jn, jf, jg, jo⟩ := bz
    have hbd := HL.out.2.bd L[i] (List.getElem_mem hiL)
    rw [hbz] at hbd
    simp only at hbd
    have HBB : Hid (-9223372036854775808 ≤ jb ∧ jb ≤ 9223372036854775807) := hid (by omega)
    obtain ⟨g9, o9, rfl, hg9, hop9⟩ := (HO2.out.rdF HL.out.1).elem Bk.len hiL _ hbz
    have e0 : World.cell? W2 ⟨g9, o9 + i * 10, none⟩ = some (.bool jt) := hop9 0 _ rfl
    have e1 : World.cell? W2 ⟨g9, o9 + i * 10 + 1, none⟩ = some (.int .i64 jb) := hop9 1 _ rfl
    have e2 : World.cell? W2 ⟨g9, o9 + i * 10 + 2, none⟩ = some (.int .i64 jp) := hop9 2 _ rfl
    have e3 : World.cell? W2 ⟨g9, o9 + i * 10 + 3, none⟩ = some (.int .i64 ja) := hop9 3 _ rfl
    have e4 : World.cell? W2 ⟨g9, o9 + i * 10 + 4, none⟩ = some (.int .i64 jm) := hop9 4 _ rfl
    have e5 : World.cell? W2 ⟨g9, o9 + i * 10 + 5, none⟩ = some (.int .i64 jy) := hop9 5 _ rfl
    have e6 : World.cell? W2 ⟨g9, o9 + i * 10 + 6, none⟩ = some (.int .i64 jn) := hop9 6 _ rfl
    have e7 : World.cell? W2 ⟨g9, o9 + i * 10 + 7, none⟩ = some (.bool jf) := hop9 7 _ rfl
    have e8 : World.cell? W2 ⟨g9, o9 + i * 10 + 8, none⟩ = some (.bool jg) := hop9 8 _ rfl
    have e9 : World.cell? W2 ⟨g9, o9 + i * 10 + 9, none⟩ = some (.bool jo) := hop9 9 _ rfl
    clear hop9 hbd
    go_upto_region 32 with (fail)
    refine wp_gen (fun V => Hid (Hp W0 V h ck q fq p pq g bq bf 400 512 tu 512 31 64 (fun i => (fun i => (fun i => i = rb ∨ (Value.slice (some ⟨g9, o9, none⟩) n c).ownBlock = some i) i ∨ i = ob) i ∨ i = W2.heap.size) x) ∧ Hid (Row V W2.heap.size 0 [.bool jt, .int .i64 jb, .int .i64 jp, .int .i64 ja, .int .i64 jm, .int .i64 jy, .int .i64 jn, .bool jf, .bool jg, .bool jo]) ∧ Hid (ownsAt V (rb + 1) 35 10 (.slice (some ⟨g9, o9, none⟩) n c) n (rowF Bk.cells L)) ∧ Hid (Row V rb 0 [.bool true, .int .i64 512, .int .i64 tu, .int .i64 512, .int .i64 31, .int .i64 0])) ⟨hid ((HK2.out.ext (Ext.refl _)).box _), hid (Row.new W2 _ _), hid (HO2.out.ext (by repeat (first | (with_reducible exact Ext.refl _) | (with_reducible refine Ext.undrew ?_) | (with_reducible refine Ext.grow ?_ _) | (with_reducible refine Ext.drew ?_) | (with_reducible refine Ext.drewN ?_ _) | (with_reducible refine Ext.alloc ?_ _) | (with_reducible assumption) | ((with_reducible refine Ext.setCell ?_ ?_ _); rotate_left; (first | exact Nat.le_refl _ | ((try dsimp only); (try simp only [World.size_alloc, grow_size, World.size_setCell]); omega)))))), hid (HR0.out.ext (by repeat (first | (with_reducible exact Ext.refl _) | (with_reducible refine Ext.undrew ?_) | (with_reducible refine Ext.grow ?_ _) | (with_reducible refine Ext.drew ?_) | (with_reducible refine Ext.drewN ?_ _) | (with_reducible refine Ext.alloc ?_ _) | (with_reducible assumption) | ((with_reducible refine Ext.setCell ?_ ?_ _); rotate_left; (first | exact Nat.le_refl _ | ((try dsimp only); (try simp only [World.size_alloc, grow_size, World.size_setCell]); omega))))))⟩ ?_
    have HXN : Hid (W0.heap.size ≤ W2.heap.size ∧ ¬ g9 = W2.heap.size ∧ ¬ rb = W2.heap.size) := hid (by have h1 := HK2.out.base.size; have h2 := HR0.out.lt; omega)
    clear HK2 HO2 HR0 HR2 e0 e1 e2 e3 e4 e5 e6 e7 e8 e9 d0 d1 d2 d3 d4 d5 d6 d7 dl hg9
    rintro W5 ⟨HK5, HB5, HO5, HR5⟩
    generalize W2.heap.size = xb at HK5 HB5 HXN ⊢
    have e0 : World.cell? W5 ⟨xb, 0, none⟩ = some (.bool jt) := by have := HB5.out.at_ 0 _ rfl; simpa using this
    have e1 : World.cell? W5 ⟨xb, 1, none⟩ = some (.int .i64 jb) := by have := HB5.out.at_ 1 _ rfl; simpa using this
    have e2 : World.cell? W5 ⟨xb, 2, none⟩ = some (.int .i64 jp) := by have := HB5.out.at_ 2 _ rfl; simpa using this
    have e3 : World.cell? W5 ⟨xb, 3, none⟩ = some (.int .i64 ja) := by have := HB5.out.at_ 3 _ rfl; simpa using this
    have e4 : World.cell? W5 ⟨xb, 4, none⟩ = some (.int .i64 jm) := by have := HB5.out.at_ 4 _ rfl; simpa using this
    have e5 : World.cell? W5 ⟨xb, 5, none⟩ = some (.int .i64 jy) := by have := HB5.out.at_ 5 _ rfl; simpa using this
    have e6 : World.cell? W5 ⟨xb, 6, none⟩ = some (.int .i64 jn) := by have := HB5.out.at_ 6 _ rfl; simpa using this
    have e7 : World.cell? W5 ⟨xb, 7, none⟩ = some (.bool jf) := by have := HB5.out.at_ 7 _ rfl; simpa using this
    have e8 : World.cell? W5 ⟨xb, 8, none⟩ = some (.bool jg) := by have := HB5.out.at_ 8 _ rfl; simpa using this
    have e9 : World.cell? W5 ⟨xb, 9, none⟩ = some (.bool jo) := by have := HB5.out.at_ 9 _ rfl; simpa using this
    have el := HB5.out.lt
    cases jf with
    | true =>
      as_aux_lemma =>
        go_wp2
        go_meet
        exact ⟨x, n, L, hid ((HK5.out.ext (by repeat (first | (with_reducible exact Ext.refl _) | (with_reducible refine Ext.undrew ?_) | (with_reducible refine Ext.grow ?_ _) | (with_reducible refine Ext.drew ?_) | (with_reducible refine Ext.drewN ?_ _) | (with_reducible refine Ext.alloc ?_ _) | (with_reducible assumption) | ((with_reducible refine Ext.setCell ?_ ?_ _); rotate_left; (first | exact Nat.le_refl _ | ((try dsimp only); (try simp only [World.size_alloc, grow_size, World.size_setCell]); omega)))))).mono (fun i e => .inl (.inl e))), hid ⟨HI2.out.1, HI2.out.2.up⟩, hid (HO5.out.ext (by repeat (first | (with_reducible exact Ext.refl _) | (with_reducible refine Ext.undrew ?_) | (with_reducible refine Ext.grow ?_ _) | (with_reducible refine Ext.drew ?_) | (with_reducible refine Ext.drewN ?_ _) | (with_reducible refine Ext.alloc ?_ _) | (with_reducible assumption) | ((with_reducible refine Ext.setCell ?_ ?_ _); rotate_left; (first | exact Nat.le_refl _ | ((try dsimp only); (try simp only [World.size_alloc, grow_size, World.size_setCell]); omega)))))), HL, Nat.le_succ_of_le hn, hid (HR5.out.ext (by repeat (first | (with_reducible exact Ext.refl _) | (with_reducible refine Ext.undrew ?_) | (with_reducible refine Ext.grow ?_ _) | (with_reducible refine Ext.drew ?_) | (with_reducible refine Ext.drewN ?_ _) | (with_reducible refine Ext.alloc ?_ _) | (with_reducible assumption) | ((with_reducible refine Ext.setCell ?_ ?_ _); rotate_left; (first | exact Nat.le_refl _ | ((try dsimp only); (try simp only [World.size_alloc, grow_size, World.size_setCell]); omega))))))⟩
    | false =>
      as_aux_lemma =>
        have hmem : (⟨⟨jt, jb, jp, ja, jm, jy⟩, jn, false, jg, jo⟩ : Bk) ∈ L := by rw [← hbz]; exact List.getElem_mem hiL
        have HOF : Hid (ofE x.lv ⟨jt, jb, jp, ja, jm, jy⟩ = 0) := hid (HL.out.2.ofE HI2.out.1 hmem rfl)
        have HBF : Hid (BA (x.free ⟨jt, jb, jp, ja, jm, jy⟩) (L.take i ++ (⟨⟨jt, jb, jp, ja, jm, jy⟩, jn, true, jg, jo⟩ :: L.drop (i + 1)))) := hid (by
          have := HL.out.2.free HI2.out.1 hiL (by rw [hbz])
          rw [hbz] at this
          exact this)
        clear hmem hbz
        go_upto_region 34 with (go_at_call 12; refine (hFree W0 _ h ck q fq p pq g bq bf 400 512 tu 512 31 64 (fun i => (fun i => (fun i => i = rb ∨ (Value.slice (some ⟨g9, o9, none⟩) n c).ownBlock = some i) i ∨ i = ob) i ∨ i = xb) x (HK5.out.ext (by repeat (first | (with_reducible exact Ext.refl _) | (with_reducible refine Ext.undrew ?_) | (with_reducible refine Ext.grow ?_ _) | (with_reducible refine Ext.drew ?_) | (with_reducible refine Ext.drewN ?_ _) | (with_reducible refine Ext.alloc ?_ _) | (with_reducible assumption) | ((with_reducible refine Ext.setCell ?_ ?_ _); rotate_left; (first | exact Nat.le_refl _ | ((try dsimp only); (try simp only [World.size_alloc, grow_size, World.size_setCell]); omega)))))) jt jb jp ja jm jy HBB.out (by have := HI2.out.2.2.1; omega)).mono ?_; rw [HOF.out]; rintro e W6 ⟨rfl, HK6, HO6⟩)
        have HB6 := hid ((HB5.out.ext (by repeat (first | (with_reducible exact Ext.refl _) | (with_reducible refine Ext.undrew ?_) | (with_reducible refine Ext.grow ?_ _) | (with_reducible refine Ext.drew ?_) | (with_reducible refine Ext.drewN ?_ _) | (with_reducible refine Ext.alloc ?_ _) | (with_reducible assumption) | ((with_reducible refine Ext.setCell ?_ ?_ _); rotate_left; (first | exact Nat.le_refl _ | ((try dsimp only); (try simp only [World.size_alloc, grow_size, World.size_setCell]); omega)))))).only HO6.out (fun e => e (.inr rfl)))
        have HO6' := hid ((HO5.out.ext (by repeat (first | (with_reducible exact Ext.refl _) | (with_reducible refine Ext.undrew ?_) | (with_reducible refine Ext.grow ?_ _) | (with_reducible refine Ext.drew ?_) | (with_reducible refine Ext.drewN ?_ _) | (with_reducible refine Ext.alloc ?_ _) | (with_reducible assumption) | ((with_reducible refine Ext.setCell ?_ ?_ _); rotate_left; (first | exact Nat.le_refl _ | ((try dsimp only); (try simp only [World.size_alloc, grow_size, World.size_setCell]); omega)))))).only HO6.out (fun g e hs => hs (.inl (.inl (.inr e)))))
        have HR6 := hid ((HR5.out.ext (by repeat (first | (with_reducible exact Ext.refl _) | (with_reducible refine Ext.undrew ?_) | (with_reducible refine Ext.grow ?_ _) | (with_reducible refine Ext.drew ?_) | (with_reducible refine Ext.drewN ?_ _) | (with_reducible refine Ext.alloc ?_ _) | (with_reducible assumption) | ((with_reducible refine Ext.setCell ?_ ?_ _); rotate_left; (first | exact Nat.le_refl _ | ((try dsimp only); (try simp only [World.size_alloc, grow_size, World.size_setCell]); omega)))))).only HO6.out (fun e => e (.inl (.inl (.inl rfl)))))
        clear HK5 HB5 HO5 HR5 HO6 HOF e0 e1 e2 e3 e4 e5 e6 e7 e8 e9 el
        have e0 : World.cell? W6 ⟨xb, 0, none⟩ = some (.bool jt) := by have := HB6.out.at_ 0 _ rfl; simpa using this
        have ef0 : World.frozen? W6 ⟨xb, 0, none⟩ = false := by have := HB6.out.free 0 (by simp); simpa using this
        have e1 : World.cell? W6 ⟨xb, 1, none⟩ = some (.int .i64 jb) := by have := HB6.out.at_ 1 _ rfl; simpa using this
        have ef1 : World.frozen? W6 ⟨xb, 1, none⟩ = false := by have := HB6.out.free 1 (by simp); simpa using this
        have e2 : World.cell? W6 ⟨xb, 2, none⟩ = some (.int .i64 jp) := by have := HB6.out.at_ 2 _ rfl; simpa using this
        have ef2 : World.frozen? W6 ⟨xb, 2, none⟩ = false := by have := HB6.out.free 2 (by simp); simpa using this
        have e3 : World.cell? W6 ⟨xb, 3, none⟩ = some (.int .i64 ja) := by have := HB6.out.at_ 3 _ rfl; simpa using this
        have ef3 : World.frozen? W6 ⟨xb, 3, none⟩ = false := by have := HB6.out.free 3 (by simp); simpa using this
        have e4 : World.cell? W6 ⟨xb, 4, none⟩ = some (.int .i64 jm) := by have := HB6.out.at_ 4 _ rfl; simpa using this
        have ef4 : World.frozen? W6 ⟨xb, 4, none⟩ = false := by have := HB6.out.free 4 (by simp); simpa using this
        have e5 : World.cell? W6 ⟨xb, 5, none⟩ = some (.int .i64 jy) := by have := HB6.out.at_ 5 _ rfl; simpa using this
        have ef5 : World.frozen? W6 ⟨xb, 5, none⟩ = false := by have := HB6.out.free 5 (by simp); simpa using this
        have e6 : World.cell? W6 ⟨xb, 6, none⟩ = some (.int .i64 jn) := by have := HB6.out.at_ 6 _ rfl; simpa using this
        have ef6 : World.frozen? W6 ⟨xb, 6, none⟩ = false := by have := HB6.out.free 6 (by simp); simpa using this
        have e7 : World.cell? W6 ⟨xb, 7, none⟩ = some (.bool false) := by have := HB6.out.at_ 7 _ rfl; simpa using this
        have ef7 : World.frozen? W6 ⟨xb, 7, none⟩ = false := by have := HB6.out.free 7 (by simp); simpa using this
        have e8 : World.cell? W6 ⟨xb, 8, none⟩ = some (.bool jg) := by have := HB6.out.at_ 8 _ rfl; simpa using this
        have ef8 : World.frozen? W6 ⟨xb, 8, none⟩ = false := by have := HB6.out.free 8 (by simp); simpa using this
        have e9 : World.cell? W6 ⟨xb, 9, none⟩ = some (.bool jo) := by have := HB6.out.at_ 9 _ rfl; simpa using this
        have ef9 : World.frozen? W6 ⟨xb, 9, none⟩ = false := by have := HB6.out.free 9 (by simp); simpa using this
        have el := HB6.out.lt
        go_upto_region 37 with (fail)
        refine wp_gen (fun V => Hid (Hp W0 V h ck q fq p pq g bq bf 400 512 tu 512 31 64 (fun i => (fun i => (fun i => i = rb ∨ (Value.slice (some ⟨g9, o9, none⟩) n c).ownBlock = some i) i ∨ i = ob) i ∨ i = xb) (x.free ⟨jt, jb, jp, ja, jm, jy⟩)) ∧ Hid (Row V xb 0 [.bool jt, .int .i64 jb, .int .i64 jp, .int .i64 ja, .int .i64 jm, .int .i64 jy, .int .i64 jn, .bool true, .bool jg, .bool jo]) ∧ Hid (ownsAt V (rb + 1) 35 10 (.slice (some ⟨g9, o9, none⟩) n c) n (rowF Bk.cells L)) ∧ Hid (Row V rb 0 [.bool true, .int .i64 512, .int .i64 tu, .int .i64 512, .int .i64 31, .int .i64 0])) ⟨hid (hp_foreign HK6.out xb (.inr rfl) HXN.out.1 (by repeat (first | (with_reducible exact Only.refl _ _) | (with_reducible refine Only.setCell (S := (· = xb)) ?_ (.inl rfl) _)))), hid (row_atc HB6.out 7 (by simp) _), hid (HO6'.out.only (S := (· = xb)) (by repeat (first | (with_reducible exact Only.refl _ _) | (with_reducible refine Only.setCell (S := (· = xb)) ?_ (.inl rfl) _))) (fun g e e2 => HXN.out.2.1 ((Option.some.inj e).trans e2))), hid (HR6.out.only (S := (· = xb)) (by repeat (first | (with_reducible exact Only.refl _ _) | (with_reducible refine Only.setCell (S := (· = xb)) ?_ (.inl rfl) _))) HXN.out.2.2)⟩ ?_
        clear HK6 HB6 HO6' HR6 e0 ef0 e1 ef1 e2 ef2 e3 ef3 e4 ef4 e5 ef5 e6 ef6 e7 ef7 e8 ef8 e9 ef9 el
        rintro W7 ⟨HK7, HB7, HO7, HR7⟩
        refine wp_region_step (.rd 1 (.rd 2 (.rd 3 (.rd 5 (.rd 8 (.rd 9 (.rd 10 (.rd 11 (.br 0 (.br 4 (.ac 6 (.ac 7 (.ac 12 (.rd 13 .done)))) 6 (.ac 4 (.ac 7 (.ac 12 (.rd 13 .done))))) 6 (.ac 0 (.ac 4 (.ac 7 (.ac 12 (.rd 13 .done)))))))))))))) (by kernel_rfl) (by kernel_rfl) (fun _ _ d _ _ h => by cases d <;> exact h) (by simp only [Ord.map, nthOp, List.append]; rfl) ?_
        intro d0'
        have hx0 : Ext W7 (Go.Proofs.YtoeiemeffiiidaaDoor.grow W7 d0') := Ext.grow (Ext.refl _) d0'
        have HK8 := hid (HK7.out.ext hx0)
        have HB8 := hid (HB7.out.ext hx0)
        have HO8 := hid (HO7.out.ext hx0)
        have HR8 := hid (HR7.out.ext hx0)
        generalize Go.Proofs.YtoeiemeffiiidaaDoor.grow W7 d0' = W8 at HK8 HB8 HO8 HR8 ⊢
        clear HK7 HB7 HO7 HR7 hx0
        have HW8 : Hid (rb + 1 ≤ W8.heap.size) := hid HR8.out.lt
        obtain ⟨s8, hs8⟩ : ∃ z, z = W8.heap.size := ⟨_, rfl⟩
        have HS8 := hid hs8
        clear hs8
        have HRA : Hid (RdF Bk.cells W8 (some ⟨g9, o9, none⟩) L) := hid (HO8.out.rdF HL.out.1)
        have hncN : n ≤ c := by obtain ⟨_, c', e, hh, _⟩ := HO8.out.shape; cases e; exact hh
        have hnc : (n : Int) ≤ (c : Int) := by omega
        have hic : (i : Int) ≤ (c : Int) := by omega
        have hic1 : (i : Int) + 1 ≤ (c : Int) := by omega
        have hin1 : (i : Int) + 1 ≤ (n : Int) := by omega
        have e0 : World.cell? W8 ⟨xb, 0, none⟩ = some (.bool jt) := by have := HB8.out.at_ 0 _ rfl; simpa using this
        have e1 : World.cell? W8 ⟨xb, 1, none⟩ = some (.int .i64 jb) := by have := HB8.out.at_ 1 _ rfl; simpa using this
        have e2 : World.cell? W8 ⟨xb, 2, none⟩ = some (.int .i64 jp) := by have := HB8.out.at_ 2 _ rfl; simpa using this
        have e3 : World.cell? W8 ⟨xb, 3, none⟩ = some (.int .i64 ja) := by have := HB8.out.at_ 3 _ rfl; simpa using this
        have e4 : World.cell? W8 ⟨xb, 4, none⟩ = some (.int .i64 jm) := by have := HB8.out.at_ 4 _ rfl; simpa using this
        have e5 : World.cell? W8 ⟨xb, 5, none⟩ = some (.int .i64 jy) := by have := HB8.out.at_ 5 _ rfl; simpa using this
        have e6 : World.cell? W8 ⟨xb, 6, none⟩ = some (.int .i64 jn) := by have := HB8.out.at_ 6 _ rfl; simpa using this
        have e7 : World.cell? W8 ⟨xb, 7, none⟩ = some (.bool true) := by have := HB8.out.at_ 7 _ rfl; simpa using this
        have e8 : World.cell? W8 ⟨xb, 8, none⟩ = some (.bool jg) := by have := HB8.out.at_ 8 _ rfl; simpa using this
        have e9 : World.cell? W8 ⟨xb, 9, none⟩ = some (.bool jo) := by have := HB8.out.at_ 9 _ rfl; simpa using this
        have el := HB8.out.lt
        by_cases hcx : c = i + 1
        · have hcx1 : (c : Int) = (i : Int) + 1 := by omega
          have hni : n = i + 1 := by omega
          subst hcx
          clear hcx1
          have HRD : Hid (RdF Bk.cells W8 (some ⟨g9, o9, none⟩) (L.drop (i + 1))) := hid (by rw [List.drop_of_length_le (by rw [HL.out.1]; omega)]; exact RdF.nil _ _)
          repeat' (first | (refine step_read (by rfl) (fun K hK => ?_); go_big_quiet_op; refine hK _ ?_; clear hK K))
          refine step_br ?_ ?_
          · refine step_act (by rfl) (fun K hK => ?_)
            go_wp2_with fail
            refine ⟨_, Ext.refl _, (Ext.refl W8).trans (Ext.alloc (Ext.refl _) _), ?_⟩
            have hE : Hid (ownsAt (W8.alloc (.cells #[] 35)) s8 35 10 (.slice (some ⟨W8.heap.size, 0, none⟩) 0 0) 0 []) := hid ((ownsAt_of (owns_empty W8 35 10)).mono (by rw [HS8.out]; exact (Ext.refl W8).size))
            refine wpStep_gen (fun V => Hid (Ext W8 V) ∧ Hid (ownsAt V s8 35 10 (.slice (some ⟨W8.heap.size, 0, none⟩) 0 0) 0 [])) ⟨hid ((Ext.refl W8).trans (Ext.alloc (Ext.refl _) _)), hE⟩ ?_
            clear hE
            rintro u1 ⟨HX1, HE⟩
            obtain ⟨eb, heb⟩ : ∃ z, W8.heap.size = z := ⟨_, rfl⟩
            rw [heb] at HE ⊢
            clear heb
            refine step_br ?_ ?_
            · as_aux_lemma =>
                refine step_act (by rfl) (fun K hK => ?_)
                refine wp_app_row Bk.len (by decide) bk_one Tryd.underlying31 info_bk _ _ rfl s8 (.slice (some ⟨eb, 0, none⟩) 0 0) 0 [] rfl HE.out (some ⟨g9, o9, none⟩) i (i + 1) (L.take i) rfl (by rw [List.length_take, HL.out.1]; omega) ((HRA.out.take Bk.len i).ext HX1.out) (by unfold maxLen; omega) (by omega) (by rw [HS8.out]; exact HX1.out.size) ?_
                intro v7 u2 hown hgrow hat
                have hx : Ext W8 u2 := Ext.only HX1.out (grownOnly (S := fun i => Value.ownBlock (.slice (some ⟨eb, 0, none⟩) 0 0) = some i) hgrow fun g e => e) (fun i hi => by have := (HE.out.lt i hi).1; rw [HS8.out] at this; exact this)
                refine hK _ _ ⟨_, Ext.refl _, hx, ?_⟩
                clear hK K
                simp only [Act.put, List.setIfInBounds_toArray, List.set_cons_zero, List.set_cons_succ]
                clear HE
                have HX2 := hid hx
                have HE := hid hown
                clear hx hown hgrow hat
                refine step_act (by rfl) (fun K hK => ?_)
                refine wp_build1 31 35 _ rfl #[.bool jt, .int .i64 jb, .int .i64 jp, .int .i64 ja, .int .i64 jm, .int .i64 jy, .int .i64 jn, .bool true, .bool jg, .bool jo] 10 rfl rfl (by omega) (by omega) Tryd.underlying31 (by kernel_rfl) (by kernel_rfl) ?_
                refine hK _ _ ⟨_, Ext.refl _, HX2.out.trans (Ext.alloc (Ext.refl _) _), ?_⟩
                clear hK K
                simp only [Act.put, List.setIfInBounds_toArray, List.set_cons_zero, List.set_cons_succ]
                refine wpStep_gen (fun V => Hid (Ext W8 V) ∧ Hid (Row V u2.heap.size 0 [.bool jt, .int .i64 jb, .int .i64 jp, .int .i64 ja, .int .i64 jm, .int .i64 jy, .int .i64 jn, .bool true, .bool jg, .bool jo]) ∧ Hid (ownsAt V s8 35 10 v7 (0 + i) ([] ++ rowF Bk.cells (L.take i)))) ⟨hid (HX2.out.trans (Ext.alloc (Ext.refl _) _)), hid (Row.new u2 _ _), hid (HE.out.ext (Ext.alloc (Ext.refl _) _))⟩ ?_
                clear HE
                rintro u3 ⟨HX3, HN, HE⟩
                obtain ⟨nb, hnb⟩ : ∃ z, u2.heap.size = z := ⟨_, rfl⟩
                rw [hnb] at HN ⊢
                clear hnb
                refine step_act (by rfl) (fun K hK => ?_)
                refine wp_app_row Bk.len (by decide) bk_one Tryd.underlying31 info_bk _ _ rfl s8 v7 (0 + i) ([] ++ rowF Bk.cells (L.take i)) rfl HE.out (some ⟨nb, 0, none⟩) 1 1 [⟨⟨jt, jb, jp, ja, jm, jy⟩, jn, true, jg, jo⟩] rfl rfl (rdF_row (f := Bk.cells) (z := ⟨⟨jt, jb, jp, ja, jm, jy⟩, jn, true, jg, jo⟩) HN.out) (by unfold maxLen; omega) (by omega) (by rw [HS8.out]; exact HX3.out.size) ?_
                intro v8 u4 hown hgrow hat
                have hx : Ext W8 u4 := Ext.only HX3.out (grownOnly (S := fun i => Value.ownBlock v7 = some i) hgrow fun g e => e) (fun i hi => by have := (HE.out.lt i hi).1; rw [HS8.out] at this; exact this)
                refine hK _ _ ⟨_, Ext.refl _, hx, ?_⟩
                clear hK K
                simp only [Act.put, List.setIfInBounds_toArray, List.set_cons_zero, List.set_cons_succ]
                clear HE HN
                have HX4 := hid hx
                have HE := hid hown
                clear hx hown hgrow hat
                refine step_act (by rfl) (fun K hK => ?_)
                refine wp_app_row Bk.len (by decide) bk_one Tryd.underlying31 info_bk _ _ rfl s8 v8 (0 + i + 1) ([] ++ rowF Bk.cells (L.take i) ++ rowF Bk.cells [⟨⟨jt, jb, jp, ja, jm, jy⟩, jn, true, jg, jo⟩]) rfl HE.out (some ⟨g9, o9, none⟩) 0 0 (L.drop (i + 1)) rfl (by rw [List.length_drop, HL.out.1]; try omega) (HRD.out.ext HX4.out) (by unfold maxLen; omega) (by omega) (by rw [HS8.out]; exact HX4.out.size) ?_
                intro v9 u5 hown hgrow hat
                have hx : Ext W8 u5 := Ext.only HX4.out (grownOnly (S := fun i => Value.ownBlock v8 = some i) hgrow fun g e => e) (fun i hi => by have := (HE.out.lt i hi).1; rw [HS8.out] at this; exact this)
                refine hK _ _ ⟨_, Ext.refl _, hx, ?_⟩
                clear hK K
                simp only [Act.put, List.setIfInBounds_toArray, List.set_cons_zero, List.set_cons_succ]
                clear HE
                have HX5 := hid hx
                have HE := hid hown
                clear hx hown hgrow hat
                repeat' (first | (refine step_read (by rfl) (fun K hK => ?_); go_big_quiet_op; refine hK _ ?_; clear hK K))
                refine step_nil ?_
                have hlt9 := HE.out.lt
                rw [HS8.out] at hlt9
                go_wp2
                go_meet
                exact ⟨x.free ⟨jt, jb, jp, ja, jm, jy⟩, n, L.take i ++ (⟨⟨jt, jb, jp, ja, jm, jy⟩, jn, true, jg, jo⟩ :: L.drop (i + 1)), hid ((HK8.out.mono (T' := fun i => i = rb) (fun i e => .inl (.inl (.inl e)))).row HX5.out hlt9), hid ⟨HI2.out.1.free _, HI2.out.2.free _⟩, hid (by
                  have e := HE.out
                  have e1 : 0 + i + 1 + 0 = n := by omega
                  rw [e1] at e
                  rw [rowF_three] at e
                  exact e.mono (by rw [HS8.out]; exact HW8.out)), hid ⟨by rw [List.length_append, List.length_cons, List.length_take, List.length_drop, HL.out.1]; omega, HBF.out⟩, Nat.le_succ_of_le hn, hid (HR8.out.ext HX5.out)⟩
            · as_aux_lemma =>
                refine step_act (by rfl) (fun K hK => ?_)
                refine wp_build1 31 35 _ rfl #[.bool jt, .int .i64 jb, .int .i64 jp, .int .i64 ja, .int .i64 jm, .int .i64 jy, .int .i64 jn, .bool true, .bool jg, .bool jo] 10 rfl rfl (by omega) (by omega) Tryd.underlying31 (by kernel_rfl) (by kernel_rfl) ?_
                refine hK _ _ ⟨_, Ext.refl _, HX1.out.trans (Ext.alloc (Ext.refl _) _), ?_⟩
                clear hK K
                simp only [Act.put, List.setIfInBounds_toArray, List.set_cons_zero, List.set_cons_succ]
                have HNE : Hid (¬ u1.heap.size = eb) := hid (by have := (HE.out.lt eb rfl).2; omega)
                refine wpStep_gen (fun V => Hid (Ext W8 V) ∧ Hid (Row V u1.heap.size 0 [.bool jt, .int .i64 jb, .int .i64 jp, .int .i64 ja, .int .i64 jm, .int .i64 jy, .int .i64 jn, .bool true, .bool jg, .bool jo]) ∧ Hid (ownsAt V s8 35 10 (.slice (some ⟨eb, 0, none⟩) 0 0) 0 [])) ⟨hid (HX1.out.trans (Ext.alloc (Ext.refl _) _)), hid (Row.new u1 _ _), hid (HE.out.ext (Ext.alloc (Ext.refl _) _))⟩ ?_
                clear HE
                rintro u2 ⟨HX2, HN, HE⟩
                obtain ⟨nb, hnb⟩ : ∃ z, u1.heap.size = z := ⟨_, rfl⟩
                rw [hnb] at HN HNE ⊢
                clear hnb
                refine step_act (by rfl) (fun K hK => ?_)
                refine wp_app_row Bk.len (by decide) bk_one Tryd.underlying31 info_bk _ _ rfl s8 (.slice (some ⟨eb, 0, none⟩) 0 0) 0 [] rfl HE.out (some ⟨g9, o9, none⟩) i (i + 1) (L.take i) rfl (by rw [List.length_take, HL.out.1]; omega) ((HRA.out.take Bk.len i).ext HX2.out) (by unfold maxLen; omega) (by omega) (by rw [HS8.out]; exact HX2.out.size) ?_
                intro v7 u3 hown hgrow hat
                have hx : Ext W8 u3 := Ext.only HX2.out (grownOnly (S := fun i => Value.ownBlock (.slice (some ⟨eb, 0, none⟩) 0 0) = some i) hgrow fun g e => e) (fun i hi => by have := (HE.out.lt i hi).1; rw [HS8.out] at this; exact this)
                have HN2 := hid (HN.out.only (grownOnly (S := fun i => Value.ownBlock (.slice (some ⟨eb, 0, none⟩) 0 0) = some i) hgrow fun g e => e) (fun e => HNE.out (Option.some.inj e).symm))
                refine hK _ _ ⟨_, Ext.refl _, hx, ?_⟩
                clear hK K
                simp only [Act.put, List.setIfInBounds_toArray, List.set_cons_zero, List.set_cons_succ]
                clear HE HN
                have HX3 := hid hx
                have HE := hid hown
                have HN := HN2
                clear HN2
                clear hx hown hgrow hat
                refine step_act (by rfl) (fun K hK => ?_)
                refine wp_app_row Bk.len (by decide) bk_one Tryd.underlying31 info_bk _ _ rfl s8 v7 (0 + i) ([] ++ rowF Bk.cells (L.take i)) rfl HE.out (some ⟨nb, 0, none⟩) 1 1 [⟨⟨jt, jb, jp, ja, jm, jy⟩, jn, true, jg, jo⟩] rfl rfl (rdF_row (f := Bk.cells) (z := ⟨⟨jt, jb, jp, ja, jm, jy⟩, jn, true, jg, jo⟩) HN.out) (by unfold maxLen; omega) (by omega) (by rw [HS8.out]; exact HX3.out.size) ?_
                intro v8 u4 hown hgrow hat
                have hx : Ext W8 u4 := Ext.only HX3.out (grownOnly (S := fun i => Value.ownBlock v7 = some i) hgrow fun g e => e) (fun i hi => by have := (HE.out.lt i hi).1; rw [HS8.out] at this; exact this)
                refine hK _ _ ⟨_, Ext.refl _, hx, ?_⟩
                clear hK K
                simp only [Act.put, List.setIfInBounds_toArray, List.set_cons_zero, List.set_cons_succ]
                clear HE HN
                have HX4 := hid hx
                have HE := hid hown
                clear hx hown hgrow hat
                refine step_act (by rfl) (fun K hK => ?_)
                refine wp_app_row Bk.len (by decide) bk_one Tryd.underlying31 info_bk _ _ rfl s8 v8 (0 + i + 1) ([] ++ rowF Bk.cells (L.take i) ++ rowF Bk.cells [⟨⟨jt, jb, jp, ja, jm, jy⟩, jn, true, jg, jo⟩]) rfl HE.out (some ⟨g9, o9, none⟩) 0 0 (L.drop (i + 1)) rfl (by rw [List.length_drop, HL.out.1]; try omega) (HRD.out.ext HX4.out) (by unfold maxLen; omega) (by omega) (by rw [HS8.out]; exact HX4.out.size) ?_
                intro v9 u5 hown hgrow hat
                have hx : Ext W8 u5 := Ext.only HX4.out (grownOnly (S := fun i => Value.ownBlock v8 = some i) hgrow fun g e => e) (fun i hi => by have := (HE.out.lt i hi).1; rw [HS8.out] at this; exact this)
                refine hK _ _ ⟨_, Ext.refl _, hx, ?_⟩
                clear hK K
                simp only [Act.put, List.setIfInBounds_toArray, List.set_cons_zero, List.set_cons_succ]
                clear HE
                have HX5 := hid hx
                have HE := hid hown
                clear hx hown hgrow hat
                repeat' (first | (refine step_read (by rfl) (fun K hK => ?_); go_big_quiet_op; refine hK _ ?_; clear hK K))
                refine step_nil ?_
                have hlt9 := HE.out.lt
                rw [HS8.out] at hlt9
                go_wp2
                go_meet
                exact ⟨x.free ⟨jt, jb, jp, ja, jm, jy⟩, n, L.take i ++ (⟨⟨jt, jb, jp, ja, jm, jy⟩, jn, true, jg, jo⟩ :: L.drop (i + 1)), hid ((HK8.out.mono (T' := fun i => i = rb) (fun i e => .inl (.inl (.inl e)))).row HX5.out hlt9), hid ⟨HI2.out.1.free _, HI2.out.2.free _⟩, hid (by
                  have e := HE.out
                  have e1 : 0 + i + 1 + 0 = n := by omega
                  rw [e1] at e
                  rw [rowF_three] at e
                  exact e.mono (by rw [HS8.out]; exact HW8.out)), hid ⟨by rw [List.length_append, List.length_cons, List.length_take, List.length_drop, HL.out.1]; omega, HBF.out⟩, Nat.le_succ_of_le hn, hid (HR8.out.ext HX5.out)⟩
          · as_aux_lemma =>
              refine step_act (by rfl) (fun K hK => ?_)
              refine wp_build1 31 35 _ rfl #[.bool jt, .int .i64 jb, .int .i64 jp, .int .i64 ja, .int .i64 jm, .int .i64 jy, .int .i64 jn, .bool true, .bool jg, .bool jo] 10 rfl rfl (by omega) (by omega) Tryd.underlying31 (by kernel_rfl) (by kernel_rfl) ?_
              refine hK _ _ ⟨_, Ext.refl _, (Ext.refl W8).trans (Ext.alloc (Ext.refl _) _), ?_⟩
              clear hK K
              simp only [Act.put, List.setIfInBounds_toArray, List.set_cons_zero, List.set_cons_succ]
              refine wpStep_gen (fun V => Hid (Ext W8 V) ∧ Hid (Row V W8.heap.size 0 [.bool jt, .int .i64 jb, .int .i64 jp, .int .i64 ja, .int .i64 jm, .int .i64 jy, .int .i64 jn, .bool true, .bool jg, .bool jo])) ⟨hid ((Ext.refl W8).trans (Ext.alloc (Ext.refl _) _)), hid (Row.new W8 _ _)⟩ ?_
              skip
              rintro u1 ⟨HX1, HN⟩
              obtain ⟨nb, hnb⟩ : ∃ z, W8.heap.size = z := ⟨_, rfl⟩
              rw [hnb] at HN ⊢
              clear hnb
              refine step_act (by rfl) (fun K hK => ?_)
              go_wp2_with fail
              refine ⟨_, Ext.refl _, HX1.out.trans (Ext.alloc (Ext.refl _) _), ?_⟩
              have hE : Hid (ownsAt (u1.alloc (.cells #[] 35)) s8 35 10 (.slice (some ⟨u1.heap.size, 0, none⟩) 0 0) 0 []) := hid ((ownsAt_of (owns_empty u1 35 10)).mono (by rw [HS8.out]; exact HX1.out.size))
              have HNE : Hid (¬ nb = u1.heap.size) := hid (by have := HN.out.lt; omega)
              refine wpStep_gen (fun V => Hid (Ext W8 V) ∧ Hid (ownsAt V s8 35 10 (.slice (some ⟨u1.heap.size, 0, none⟩) 0 0) 0 []) ∧ Hid (Row V nb 0 [.bool jt, .int .i64 jb, .int .i64 jp, .int .i64 ja, .int .i64 jm, .int .i64 jy, .int .i64 jn, .bool true, .bool jg, .bool jo])) ⟨hid (HX1.out.trans (Ext.alloc (Ext.refl _) _)), hE, hid (HN.out.ext (Ext.alloc (Ext.refl _) _))⟩ ?_
              clear hE HN
              rintro u2 ⟨HX2, HE, HN⟩
              obtain ⟨eb, heb⟩ : ∃ z, u1.heap.size = z := ⟨_, rfl⟩
              rw [heb] at HE HNE ⊢
              clear heb
              refine step_act (by rfl) (fun K hK => ?_)
              refine wp_app_row Bk.len (by decide) bk_one Tryd.underlying31 info_bk _ _ rfl s8 (.slice (some ⟨eb, 0, none⟩) 0 0) 0 [] rfl HE.out (some ⟨g9, o9, none⟩) i (i + 1) (L.take i) rfl (by rw [List.length_take, HL.out.1]; omega) ((HRA.out.take Bk.len i).ext HX2.out) (by unfold maxLen; omega) (by omega) (by rw [HS8.out]; exact HX2.out.size) ?_
              intro v7 u3 hown hgrow hat
              have hx : Ext W8 u3 := Ext.only HX2.out (grownOnly (S := fun i => Value.ownBlock (.slice (some ⟨eb, 0, none⟩) 0 0) = some i) hgrow fun g e => e) (fun i hi => by have := (HE.out.lt i hi).1; rw [HS8.out] at this; exact this)
              have HN2 := hid (HN.out.only (grownOnly (S := fun i => Value.ownBlock (.slice (some ⟨eb, 0, none⟩) 0 0) = some i) hgrow fun g e => e) (fun e => HNE.out (Option.some.inj e).symm))
              refine hK _ _ ⟨_, Ext.refl _, hx, ?_⟩
              clear hK K
              simp only [Act.put, List.setIfInBounds_toArray, List.set_cons_zero, List.set_cons_succ]
              clear HE HN
              have HX3 := hid hx
              have HE := hid hown
              have HN := HN2
              clear HN2
              clear hx hown hgrow hat
              refine step_act (by rfl) (fun K hK => ?_)
              refine wp_app_row Bk.len (by decide) bk_one Tryd.underlying31 info_bk _ _ rfl s8 v7 (0 + i) ([] ++ rowF Bk.cells (L.take i)) rfl HE.out (some ⟨nb, 0, none⟩) 1 1 [⟨⟨jt, jb, jp, ja, jm, jy⟩, jn, true, jg, jo⟩] rfl rfl (rdF_row (f := Bk.cells) (z := ⟨⟨jt, jb, jp, ja, jm, jy⟩, jn, true, jg, jo⟩) HN.out) (by unfold maxLen; omega) (by omega) (by rw [HS8.out]; exact HX3.out.size) ?_
              intro v8 u4 hown hgrow hat
              have hx : Ext W8 u4 := Ext.only HX3.out (grownOnly (S := fun i => Value.ownBlock v7 = some i) hgrow fun g e => e) (fun i hi => by have := (HE.out.lt i hi).1; rw [HS8.out] at this; exact this)
              refine hK _ _ ⟨_, Ext.refl _, hx, ?_⟩
              clear hK K
              simp only [Act.put, List.setIfInBounds_toArray, List.set_cons_zero, List.set_cons_succ]
              clear HE HN
              have HX4 := hid hx
              have HE := hid hown
              clear hx hown hgrow hat
              refine step_act (by rfl) (fun K hK => ?_)
              refine wp_app_row Bk.len (by decide) bk_one Tryd.underlying31 info_bk _ _ rfl s8 v8 (0 + i + 1) ([] ++ rowF Bk.cells (L.take i) ++ rowF Bk.cells [⟨⟨jt, jb, jp, ja, jm, jy⟩, jn, true, jg, jo⟩]) rfl HE.out (some ⟨g9, o9, none⟩) 0 0 (L.drop (i + 1)) rfl (by rw [List.length_drop, HL.out.1]; try omega) (HRD.out.ext HX4.out) (by unfold maxLen; omega) (by omega) (by rw [HS8.out]; exact HX4.out.size) ?_
              intro v9 u5 hown hgrow hat
              have hx : Ext W8 u5 := Ext.only HX4.out (grownOnly (S := fun i => Value.ownBlock v8 = some i) hgrow fun g e => e) (fun i hi => by have := (HE.out.lt i hi).1; rw [HS8.out] at this; exact this)
              refine hK _ _ ⟨_, Ext.refl _, hx, ?_⟩
              clear hK K
              simp only [Act.put, List.setIfInBounds_toArray, List.set_cons_zero, List.set_cons_succ]
              clear HE
              have HX5 := hid hx
              have HE := hid hown
              clear hx hown hgrow hat
              repeat' (first | (refine step_read (by rfl) (fun K hK => ?_); go_big_quiet_op; refine hK _ ?_; clear hK K))
              refine step_nil ?_
              have hlt9 := HE.out.lt
              rw [HS8.out] at hlt9
              go_wp2
              go_meet
              exact ⟨x.free ⟨jt, jb, jp, ja, jm, jy⟩, n, L.take i ++ (⟨⟨jt, jb, jp, ja, jm, jy⟩, jn, true, jg, jo⟩ :: L.drop (i + 1)), hid ((HK8.out.mono (T' := fun i => i = rb) (fun i e => .inl (.inl (.inl e)))).row HX5.out hlt9), hid ⟨HI2.out.1.free _, HI2.out.2.free _⟩, hid (by
                have e := HE.out
                have e1 : 0 + i + 1 + 0 = n := by omega
                rw [e1] at e
                rw [rowF_three] at e
                exact e.mono (by rw [HS8.out]; exact HW8.out)), hid ⟨by rw [List.length_append, List.length_cons, List.length_take, List.length_drop, HL.out.1]; omega, HBF.out⟩, Nat.le_succ_of_le hn, hid (HR8.out.ext HX5.out)⟩
        · have hcx1 : ¬ (c : Int) = (i : Int) + 1 := by omega
          have HRD : Hid (RdF Bk.cells W8 (some ⟨g9, o9 + (i + 1) * 10, none⟩) (L.drop (i + 1))) := hid (HRA.out.drop Bk.len (i + 1))
          repeat' (first | (refine step_read (by rfl) (fun K hK => ?_); go_big_quiet_op; refine hK _ ?_; clear hK K))
          refine step_br ?_ ?_
          · refine step_act (by rfl) (fun K hK => ?_)
            go_wp2_with fail
            refine ⟨_, Ext.refl _, (Ext.refl W8).trans (Ext.alloc (Ext.refl _) _), ?_⟩
            have hE : Hid (ownsAt (W8.alloc (.cells #[] 35)) s8 35 10 (.slice (some ⟨W8.heap.size, 0, none⟩) 0 0) 0 []) := hid ((ownsAt_of (owns_empty W8 35 10)).mono (by rw [HS8.out]; exact (Ext.refl W8).size))
            refine wpStep_gen (fun V => Hid (Ext W8 V) ∧ Hid (ownsAt V s8 35 10 (.slice (some ⟨W8.heap.size, 0, none⟩) 0 0) 0 [])) ⟨hid ((Ext.refl W8).trans (Ext.alloc (Ext.refl _) _)), hE⟩ ?_
            clear hE
            rintro u1 ⟨HX1, HE⟩
            obtain ⟨eb, heb⟩ : ∃ z, W8.heap.size = z := ⟨_, rfl⟩
            rw [heb] at HE ⊢
            clear heb
            refine step_br ?_ ?_
            · as_aux_lemma =>
                refine step_act (by rfl) (fun K hK => ?_)
                refine wp_app_row Bk.len (by decide) bk_one Tryd.underlying31 info_bk _ _ rfl s8 (.slice (some ⟨eb, 0, none⟩) 0 0) 0 [] rfl HE.out (some ⟨g9, o9, none⟩) i c (L.take i) rfl (by rw [List.length_take, HL.out.1]; omega) ((HRA.out.take Bk.len i).ext HX1.out) (by unfold maxLen; omega) (by omega) (by rw [HS8.out]; exact HX1.out.size) ?_
                intro v7 u2 hown hgrow hat
                have hx : Ext W8 u2 := Ext.only HX1.out (grownOnly (S := fun i => Value.ownBlock (.slice (some ⟨eb, 0, none⟩) 0 0) = some i) hgrow fun g e => e) (fun i hi => by have := (HE.out.lt i hi).1; rw [HS8.out] at this; exact this)
                refine hK _ _ ⟨_, Ext.refl _, hx, ?_⟩
                clear hK K
                simp only [Act.put, List.setIfInBounds_toArray, List.set_cons_zero, List.set_cons_succ]
                clear HE
                have HX2 := hid hx
                have HE := hid hown
                clear hx hown hgrow hat
                refine step_act (by rfl) (fun K hK => ?_)
                refine wp_build1 31 35 _ rfl #[.bool jt, .int .i64 jb, .int .i64 jp, .int .i64 ja, .int .i64 jm, .int .i64 jy, .int .i64 jn, .bool true, .bool jg, .bool jo] 10 rfl rfl (by omega) (by omega) Tryd.underlying31 (by kernel_rfl) (by kernel_rfl) ?_
                refine hK _ _ ⟨_, Ext.refl _, HX2.out.trans (Ext.alloc (Ext.refl _) _), ?_⟩
                clear hK K
                simp only [Act.put, List.setIfInBounds_toArray, List.set_cons_zero, List.set_cons_succ]
                refine wpStep_gen (fun V => Hid (Ext W8 V) ∧ Hid (Row V u2.heap.size 0 [.bool jt, .int .i64 jb, .int .i64 jp, .int .i64 ja, .int .i64 jm, .int .i64 jy, .int .i64 jn, .bool true, .bool jg, .bool jo]) ∧ Hid (ownsAt V s8 35 10 v7 (0 + i) ([] ++ rowF Bk.cells (L.take i)))) ⟨hid (HX2.out.trans (Ext.alloc (Ext.refl _) _)), hid (Row.new u2 _ _), hid (HE.out.ext (Ext.alloc (Ext.refl _) _))⟩ ?_
                clear HE
                rintro u3 ⟨HX3, HN, HE⟩
                obtain ⟨nb, hnb⟩ : ∃ z, u2.heap.size = z := ⟨_, rfl⟩
                rw [hnb] at HN ⊢
                clear hnb
                refine step_act (by rfl) (fun K hK => ?_)
                refine wp_app_row Bk.len (by decide) bk_one Tryd.underlying31 info_bk _ _ rfl s8 v7 (0 + i) ([] ++ rowF Bk.cells (L.take i)) rfl HE.out (some ⟨nb, 0, none⟩) 1 1 [⟨⟨jt, jb, jp, ja, jm, jy⟩, jn, true, jg, jo⟩] rfl rfl (rdF_row (f := Bk.cells) (z := ⟨⟨jt, jb, jp, ja, jm, jy⟩, jn, true, jg, jo⟩) HN.out) (by unfold maxLen; omega) (by omega) (by rw [HS8.out]; exact HX3.out.size) ?_
                intro v8 u4 hown hgrow hat
                have hx : Ext W8 u4 := Ext.only HX3.out (grownOnly (S := fun i => Value.ownBlock v7 = some i) hgrow fun g e => e) (fun i hi => by have := (HE.out.lt i hi).1; rw [HS8.out] at this; exact this)
                refine hK _ _ ⟨_, Ext.refl _, hx, ?_⟩
                clear hK K
                simp only [Act.put, List.setIfInBounds_toArray, List.set_cons_zero, List.set_cons_succ]
                clear HE HN
                have HX4 := hid hx
                have HE := hid hown
                clear hx hown hgrow hat
                refine step_act (by rfl) (fun K hK => ?_)
                refine wp_app_row Bk.len (by decide) bk_one Tryd.underlying31 info_bk _ _ rfl s8 v8 (0 + i + 1) ([] ++ rowF Bk.cells (L.take i) ++ rowF Bk.cells [⟨⟨jt, jb, jp, ja, jm, jy⟩, jn, true, jg, jo⟩]) rfl HE.out (some ⟨g9, o9 + (i + 1) * 10, none⟩) (n - (i + 1)) (c - (i + 1)) (L.drop (i + 1)) rfl (by rw [List.length_drop, HL.out.1]; try omega) (HRD.out.ext HX4.out) (by unfold maxLen; omega) (by omega) (by rw [HS8.out]; exact HX4.out.size) ?_
                intro v9 u5 hown hgrow hat
                have hx : Ext W8 u5 := Ext.only HX4.out (grownOnly (S := fun i => Value.ownBlock v8 = some i) hgrow fun g e => e) (fun i hi => by have := (HE.out.lt i hi).1; rw [HS8.out] at this; exact this)
                refine hK _ _ ⟨_, Ext.refl _, hx, ?_⟩
                clear hK K
                simp only [Act.put, List.setIfInBounds_toArray, List.set_cons_zero, List.set_cons_succ]
                clear HE
                have HX5 := hid hx
                have HE := hid hown
                clear hx hown hgrow hat
                repeat' (first | (refine step_read (by rfl) (fun K hK => ?_); go_big_quiet_op; refine hK _ ?_; clear hK K))
                refine step_nil ?_
                have hlt9 := HE.out.lt
                rw [HS8.out] at hlt9
                go_wp2
                go_meet
                exact ⟨x.free ⟨jt, jb, jp, ja, jm, jy⟩, n, L.take i ++ (⟨⟨jt, jb, jp, ja, jm, jy⟩, jn, true, jg, jo⟩ :: L.drop (i + 1)), hid ((HK8.out.mono (T' := fun i => i = rb) (fun i e => .inl (.inl (.inl e)))).row HX5.out hlt9), hid ⟨HI2.out.1.free _, HI2.out.2.free _⟩, hid (by
                  have e := HE.out
                  have e1 : 0 + i + 1 + (n - (i + 1)) = n := by omega
                  rw [e1] at e
                  rw [rowF_three] at e
                  exact e.mono (by rw [HS8.out]; exact HW8.out)), hid ⟨by rw [List.length_append, List.length_cons, List.length_take, List.length_drop, HL.out.1]; omega, HBF.out⟩, Nat.le_succ_of_le hn, hid (HR8.out.ext HX5.out)⟩
            · as_aux_lemma =>
                refine step_act (by rfl) (fun K hK => ?_)
                refine wp_build1 31 35 _ rfl #[.bool jt, .int .i64 jb, .int .i64 jp, .int .i64 ja, .int .i64 jm, .int .i64 jy, .int .i64 jn, .bool true, .bool jg, .bool jo] 10 rfl rfl (by omega) (by omega) Tryd.underlying31 (by kernel_rfl) (by kernel_rfl) ?_
                refine hK _ _ ⟨_, Ext.refl _, HX1.out.trans (Ext.alloc (Ext.refl _) _), ?_⟩
                clear hK K
                simp only [Act.put, List.setIfInBounds_toArray, List.set_cons_zero, List.set_cons_succ]
                have HNE : Hid (¬ u1.heap.size = eb) := hid (by have := (HE.out.lt eb rfl).2; omega)
                refine wpStep_gen (fun V => Hid (Ext W8 V) ∧ Hid (Row V u1.heap.size 0 [.bool jt, .int .i64 jb, .int .i64 jp, .int .i64 ja, .int .i64 jm, .int .i64 jy, .int .i64 jn, .bool true, .bool jg, .bool jo]) ∧ Hid (ownsAt V s8 35 10 (.slice (some ⟨eb, 0, none⟩) 0 0) 0 [])) ⟨hid (HX1.out.trans (Ext.alloc (Ext.refl _) _)), hid (Row.new u1 _ _), hid (HE.out.ext (Ext.alloc (Ext.refl _) _))⟩ ?_
                clear HE
                rintro u2 ⟨HX2, HN, HE⟩
                obtain ⟨nb, hnb⟩ : ∃ z, u1.heap.size = z := ⟨_, rfl⟩
                rw [hnb] at HN HNE ⊢
                clear hnb
                refine step_act (by rfl) (fun K hK => ?_)
                refine wp_app_row Bk.len (by decide) bk_one Tryd.underlying31 info_bk _ _ rfl s8 (.slice (some ⟨eb, 0, none⟩) 0 0) 0 [] rfl HE.out (some ⟨g9, o9, none⟩) i c (L.take i) rfl (by rw [List.length_take, HL.out.1]; omega) ((HRA.out.take Bk.len i).ext HX2.out) (by unfold maxLen; omega) (by omega) (by rw [HS8.out]; exact HX2.out.size) ?_
                intro v7 u3 hown hgrow hat
                have hx : Ext W8 u3 := Ext.only HX2.out (grownOnly (S := fun i => Value.ownBlock (.slice (some ⟨eb, 0, none⟩) 0 0) = some i) hgrow fun g e => e) (fun i hi => by have := (HE.out.lt i hi).1; rw [HS8.out] at this; exact this)
                have HN2 := hid (HN.out.only (grownOnly (S := fun i => Value.ownBlock (.slice (some ⟨eb, 0, none⟩) 0 0) = some i) hgrow fun g e => e) (fun e => HNE.out (Option.some.inj e).symm))
                refine hK _ _ ⟨_, Ext.refl _, hx, ?_⟩
                clear hK K
                simp only [Act.put, List.setIfInBounds_toArray, List.set_cons_zero, List.set_cons_succ]
                clear HE HN
                have HX3 := hid hx
                have HE := hid hown
                have HN := HN2
                clear HN2
                clear hx hown hgrow hat
                refine step_act (by rfl) (fun K hK => ?_)
                refine wp_app_row Bk.len (by decide) bk_one Tryd.underlying31 info_bk _ _ rfl s8 v7 (0 + i) ([] ++ rowF Bk.cells (L.take i)) rfl HE.out (some ⟨nb, 0, none⟩) 1 1 [⟨⟨jt, jb, jp, ja, jm, jy⟩, jn, true, jg, jo⟩] rfl rfl (rdF_row (f := Bk.cells) (z := ⟨⟨jt, jb, jp, ja, jm, jy⟩, jn, true, jg, jo⟩) HN.out) (by unfold maxLen; omega) (by omega) (by rw [HS8.out]; exact HX3.out.size) ?_
                intro v8 u4 hown hgrow hat
                have hx : Ext W8 u4 := Ext.only HX3.out (grownOnly (S := fun i => Value.ownBlock v7 = some i) hgrow fun g e => e) (fun i hi => by have := (HE.out.lt i hi).1; rw [HS8.out] at this; exact this)
                refine hK _ _ ⟨_, Ext.refl _, hx, ?_⟩
                clear hK K
                simp only [Act.put, List.setIfInBounds_toArray, List.set_cons_zero, List.set_cons_succ]
                clear HE HN
                have HX4 := hid hx
                have HE := hid hown
                clear hx hown hgrow hat
                refine step_act (by rfl) (fun K hK => ?_)
                refine wp_app_row Bk.len (by decide) bk_one Tryd.underlying31 info_bk _ _ rfl s8 v8 (0 + i + 1) ([] ++ rowF Bk.cells (L.take i) ++ rowF Bk.cells [⟨⟨jt, jb, jp, ja, jm, jy⟩, jn, true, jg, jo⟩]) rfl HE.out (some ⟨g9, o9 + (i + 1) * 10, none⟩) (n - (i + 1)) (c - (i + 1)) (L.drop (i + 1)) rfl (by rw [List.length_drop, HL.out.1]; try omega) (HRD.out.ext HX4.out) (by unfold maxLen; omega) (by omega) (by rw [HS8.out]; exact HX4.out.size) ?_
                intro v9 u5 hown hgrow hat
                have hx : Ext W8 u5 := Ext.only HX4.out (grownOnly (S := fun i => Value.ownBlock v8 = some i) hgrow fun g e => e) (fun i hi => by have := (HE.out.lt i hi).1; rw [HS8.out] at this; exact this)
                refine hK _ _ ⟨_, Ext.refl _, hx, ?_⟩
                clear hK K
                simp only [Act.put, List.setIfInBounds_toArray, List.set_cons_zero, List.set_cons_succ]
                clear HE
                have HX5 := hid hx
                have HE := hid hown
                clear hx hown hgrow hat
                repeat' (first | (refine step_read (by rfl) (fun K hK => ?_); go_big_quiet_op; refine hK _ ?_; clear hK K))
                refine step_nil ?_
                have hlt9 := HE.out.lt
                rw [HS8.out] at hlt9
                go_wp2
                go_meet
                exact ⟨x.free ⟨jt, jb, jp, ja, jm, jy⟩, n, L.take i ++ (⟨⟨jt, jb, jp, ja, jm, jy⟩, jn, true, jg, jo⟩ :: L.drop (i + 1)), hid ((HK8.out.mono (T' := fun i => i = rb) (fun i e => .inl (.inl (.inl e)))).row HX5.out hlt9), hid ⟨HI2.out.1.free _, HI2.out.2.free _⟩, hid (by
                  have e := HE.out
                  have e1 : 0 + i + 1 + (n - (i + 1)) = n := by omega
                  rw [e1] at e
                  rw [rowF_three] at e
                  exact e.mono (by rw [HS8.out]; exact HW8.out)), hid ⟨by rw [List.length_append, List.length_cons, List.length_take, List.length_drop, HL.out.1]; omega, HBF.out⟩, Nat.le_succ_of_le hn, hid (HR8.out.ext HX5.out)⟩
          · as_aux_lemma =>
              refine step_act (by rfl) (fun K hK => ?_)
              refine wp_build1 31 35 _ rfl #[.bool jt, .int .i64 jb, .int .i64 jp, .int .i64 ja, .int .i64 jm, .int .i64 jy, .int .i64 jn, .bool true, .bool jg, .bool jo] 10 rfl rfl (by omega) (by omega) Tryd.underlying31 (by kernel_rfl) (by kernel_rfl) ?_
              refine hK _ _ ⟨_, Ext.refl _, (Ext.refl W8).trans (Ext.alloc (Ext.refl _) _), ?_⟩
              clear hK K
              simp only [Act.put, List.setIfInBounds_toArray, List.set_cons_zero, List.set_cons_succ]
              refine wpStep_gen (fun V => Hid (Ext W8 V) ∧ Hid (Row V W8.heap.size 0 [.bool jt, .int .i64 jb, .int .i64 jp, .int .i64 ja, .int .i64 jm, .int .i64 jy, .int .i64 jn, .bool true, .bool jg, .bool jo])) ⟨hid ((Ext.refl W8).trans (Ext.alloc (Ext.refl _) _)), hid (Row.new W8 _ _)⟩ ?_
              skip
              rintro u1 ⟨HX1, HN⟩
              obtain ⟨nb, hnb⟩ : ∃ z, W8.heap.size = z := ⟨_, rfl⟩
              rw [hnb] at HN ⊢
              clear hnb
              refine step_act (by rfl) (fun K hK => ?_)
              go_wp2_with fail
              refine ⟨_, Ext.refl _, HX1.out.trans (Ext.alloc (Ext.refl _) _), ?_⟩
              have hE : Hid (ownsAt (u1.alloc (.cells #[] 35)) s8 35 10 (.slice (some ⟨u1.heap.size, 0, none⟩) 0 0) 0 []) := hid ((ownsAt_of (owns_empty u1 35 10)).mono (by rw [HS8.out]; exact HX1.out.size))
              have HNE : Hid (¬ nb = u1.heap.size) := hid (by have := HN.out.lt; omega)
              refine wpStep_gen (fun V => Hid (Ext W8 V) ∧ Hid (ownsAt V s8 35 10 (.slice (some ⟨u1.heap.size, 0, none⟩) 0 0) 0 []) ∧ Hid (Row V nb 0 [.bool jt, .int .i64 jb, .int .i64 jp, .int .i64 ja, .int .i64 jm, .int .i64 jy, .int .i64 jn, .bool true, .bool jg, .bool jo])) ⟨hid (HX1.out.trans (Ext.alloc (Ext.refl _) _)), hE, hid (HN.out.ext (Ext.alloc (Ext.refl _) _))⟩ ?_
              clear hE HN
              rintro u2 ⟨HX2, HE, HN⟩
              obtain ⟨eb, heb⟩ : ∃ z, u1.heap.size = z := ⟨_, rfl⟩
              rw [heb] at HE HNE ⊢
              clear heb
              refine step_act (by rfl) (fun K hK => ?_)
              refine wp_app_row Bk.len (by decide) bk_one Tryd.underlying31 info_bk _ _ rfl s8 (.slice (some ⟨eb, 0, none⟩) 0 0) 0 [] rfl HE.out (some ⟨g9, o9, none⟩) i c (L.take i) rfl (by rw [List.length_take, HL.out.1]; omega) ((HRA.out.take Bk.len i).ext HX2.out) (by unfold maxLen; omega) (by omega) (by rw [HS8.out]; exact HX2.out.size) ?_
              intro v7 u3 hown hgrow hat
              have hx : Ext W8 u3 := Ext.only HX2.out (grownOnly (S := fun i => Value.ownBlock (.slice (some ⟨eb, 0, none⟩) 0 0) = some i) hgrow fun g e => e) (fun i hi => by have := (HE.out.lt i hi).1; rw [HS8.out] at this; exact this)
              have HN2 := hid (HN.out.only (grownOnly (S := fun i => Value.ownBlock (.slice (some ⟨eb, 0, none⟩) 0 0) = some i) hgrow fun g e => e) (fun e => HNE.out (Option.some.inj e).symm))
              refine hK _ _ ⟨_, Ext.refl _, hx, ?_⟩
              clear hK K
              simp only [Act.put, List.setIfInBounds_toArray, List.set_cons_zero, List.set_cons_succ]
              clear HE HN
              have HX3 := hid hx
              have HE := hid hown
              have HN := HN2
              clear HN2
              clear hx hown hgrow hat
              refine step_act (by rfl) (fun K hK => ?_)
              refine wp_app_row Bk.len (by decide) bk_one Tryd.underlying31 info_bk _ _ rfl s8 v7 (0 + i) ([] ++ rowF Bk.cells (L.take i)) rfl HE.out (some ⟨nb, 0, none⟩) 1 1 [⟨⟨jt, jb, jp, ja, jm, jy⟩, jn, true, jg, jo⟩] rfl rfl (rdF_row (f := Bk.cells) (z := ⟨⟨jt, jb, jp, ja, jm, jy⟩, jn, true, jg, jo⟩) HN.out) (by unfold maxLen; omega) (by omega) (by rw [HS8.out]; exact HX3.out.size) ?_
              intro v8 u4 hown hgrow hat
              have hx : Ext W8 u4 := Ext.only HX3.out (grownOnly (S := fun i => Value.ownBlock v7 = some i) hgrow fun g e => e) (fun i hi => by have := (HE.out.lt i hi).1; rw [HS8.out] at this; exact this)
              refine hK _ _ ⟨_, Ext.refl _, hx, ?_⟩
              clear hK K
              simp only [Act.put, List.setIfInBounds_toArray, List.set_cons_zero, List.set_cons_succ]
              clear HE HN
              have HX4 := hid hx
              have HE := hid hown
              clear hx hown hgrow hat
              refine step_act (by rfl) (fun K hK => ?_)
              refine wp_app_row Bk.len (by decide) bk_one Tryd.underlying31 info_bk _ _ rfl s8 v8 (0 + i + 1) ([] ++ rowF Bk.cells (L.take i) ++ rowF Bk.cells [⟨⟨jt, jb, jp, ja, jm, jy⟩, jn, true, jg, jo⟩]) rfl HE.out (some ⟨g9, o9 + (i + 1) * 10, none⟩) (n - (i + 1)) (c - (i + 1)) (L.drop (i + 1)) rfl (by rw [List.length_drop, HL.out.1]; try omega) (HRD.out.ext HX4.out) (by unfold maxLen; omega) (by omega) (by rw [HS8.out]; exact HX4.out.size) ?_
              intro v9 u5 hown hgrow hat
              have hx : Ext W8 u5 := Ext.only HX4.out (grownOnly (S := fun i => Value.ownBlock v8 = some i) hgrow fun g e => e) (fun i hi => by have := (HE.out.lt i hi).1; rw [HS8.out] at this; exact this)
              refine hK _ _ ⟨_, Ext.refl _, hx, ?_⟩
              clear hK K
              simp only [Act.put, List.setIfInBounds_toArray, List.set_cons_zero, List.set_cons_succ]
              clear HE
              have HX5 := hid hx
              have HE := hid hown
              clear hx hown hgrow hat
              repeat' (first | (refine step_read (by rfl) (fun K hK => ?_); go_big_quiet_op; refine hK _ ?_; clear hK K))
              refine step_nil ?_
              have hlt9 := HE.out.lt
              rw [HS8.out] at hlt9
              go_wp2
              go_meet
              exact ⟨x.free ⟨jt, jb, jp, ja, jm, jy⟩, n, L.take i ++ (⟨⟨jt, jb, jp, ja, jm, jy⟩, jn, true, jg, jo⟩ :: L.drop (i + 1)), hid ((HK8.out.mono (T' := fun i => i = rb) (fun i e => .inl (.inl (.inl e)))).row HX5.out hlt9), hid ⟨HI2.out.1.free _, HI2.out.2.free _⟩, hid (by
                have e := HE.out
                have e1 : 0 + i + 1 + (n - (i + 1)) = n := by omega
                rw [e1] at e
                rw [rowF_three] at e
                exact e.mono (by rw [HS8.out]; exact HW8.out)), hid ⟨by rw [List.length_append, List.length_cons, List.length_take, List.length_drop, HL.out.1]; omega, HBF.out⟩, Nat.le_succ_of_le hn, hid (HR8.out.ext HX5.out)⟩
end heapApart

end Go.Proofs.YtoeiemeffiiidaaDoor
