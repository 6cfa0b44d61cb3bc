/- The walk of HeapApart, but for its four great pieces. -/
import Derived.Test.YtoeiemeffiiidaaDoorHepQ
import Derived.Deep.DeepCutAuto
import Derived.Deep.CutBlock
namespace Go.Proofs.YtoeiemeffiiidaaDoor
set_option linter.unusedSimpArgs false
set_option linter.unusedVariables false
open Go.RowKit

open Go.Deep Go.RowKit
namespace heapApart
set_option linter.unusedSimpArgs false
set_option linter.unusedVariables false
/-- A piece of a walk that is proved elsewhere. -/
structure PartP (P : Prop) : Prop where
  out : P
set_option maxRecDepth 100000 in
set_option maxHeartbeats 80000000 in
def parts : (P1 : Prop) ×' (P2 : Prop) ×' (P3 : Prop) ×' (P4 : Prop) ×' (PartP P1 → PartP P2 → PartP P3 → PartP P4 → ∀ (a0 : Int) (A1 : Option Addr) (cap1 : Nat) (zs1 : List POp) (w : World) (w0 : (Lit.int .u8 a0).wf = true) (wl1 : zs1.length ≤ maxLen) (hs1 : SlAtN w A1 8 (zs1.map POp.cells)) (wz1 : ∀ z ∈ zs1, z.good) (hTab : Tab w), Calls Tryd.prog 3 #[.int .u8 a0, .slice A1 zs1.length cap1] w fun e w' => e = .returned (.bool true) ∧ Ext w w') := by
  apply PSigma.mk
  apply PSigma.mk
  apply PSigma.mk
  apply PSigma.mk
  intro zp1 zp2 zp3 zp4 a0 A1 cap1 zs1 w w0 wl1 hs1 wz1 hTab
  obtain ⟨a0l, a0h⟩ := wfu8 w0
  have HT := hid hTab
  unfold maxLen at wl1
  have HSL := hid hs1
  have HWZ := hid wz1
  obtain ⟨tu, htu⟩ : ∃ z : Int, 512 + 16 * a0 = z := ⟨_, rfl⟩
  have HTU := hid htu
  have HTB : Hid (512 ≤ tu ∧ tu ≤ 4592 ∧ tu % 16 = 0) := hid (by omega)
  have HTA : Hid (tu - 512 = 16 * a0) := hid (by omega)
  have HRI : Hid (rightC ⟨true, 512, tu, 512, 31, 0⟩ = true) := hid (by
    have := HTB.out
    simp [rightC, rightB, holdsB]
    omega)
  have HGG : Hid ([(512 : Int), tu].all g16 = true ∧ (0 : Int) ≤ 512 ∧ (512 : Int) ≤ tu ∧ tu ≤ 16777216) := hid (by
    refine ⟨?_, by omega, by omega, by omega⟩
    rw [← htu, List.all_cons, List.all_cons, (g16_512 a0).1, (g16_512 a0).2]
    rfl)
  have HI0 : Hid (HI 512 tu ⟨0, [], frL 512 tu, P0, []⟩) := hid (by rw [← htu]; exact HI.start P0 (g16_512 a0).1 (g16_512 a0).2 (by omega))
  clear w0 hTab hs1 wz1 htu
  by_cases hlen : zs1.length ≤ 200
  case neg =>
    clear zp1 zp2 zp3 zp4
    have hli : (200 : Int) < (zs1.length : Int) := by omega
    go_enter Tryd.func3, Tryd.ntmps3
    go_upto_region 2 with (go_at_call 8; refine (head_ _ HT.out).mono ?_; rintro e W0 ⟨rfl, hxh⟩)
    have HWW : Hid (Ext w W0) := hid hxh
    go_wp2_with (go_at_call 9; refine (new_ 400 _ (by decide) (by decide)).mono ?_; rintro e w1 ⟨p, pq, rfl, hs1, hx1, hp1, hpq1⟩)
    go_ret
    exact ⟨rfl, HWW.out.trans hx1⟩
  case pos =>
    have hli : ¬ (200 : Int) < (zs1.length : Int) := by omega
    go_enter Tryd.func3, Tryd.ntmps3
    go_upto_region 2 with (go_at_call 8; refine (head_ _ HT.out).mono ?_; rintro e W0 ⟨rfl, hxh⟩)
    have HWW : Hid (Ext w W0) := hid hxh
    go_upto_region 3 with (go_at_call 9; refine (new_ 400 _ (by decide) (by decide)).mono ?_; rintro e w1 ⟨p, pq, rfl, hs1, hx1, hp1, hpq1⟩)
    have HS0 := hid hs1
    have HB1 := hid hx1
    have HPQ := hid hpq1
    clear hs1 hx1 hp1 hpq1 hxh
    go_upto_region 6 with (go_at_call 10; refine (root_ 512 a0 _ (by decide) (by omega)).mono ?_; rw [HTU.out]; rintro e w2 ⟨rfl, hx2⟩; have HB := hid (HB1.out.trans hx2); have HS := hid (HS0.out.ext hx2); clear hx2)
    have HRN : Hid (¬ w2.heap.size = p ∧ ¬ w2.heap.size = pq ∧ W0.heap.size ≤ w2.heap.size) := hid (by have h1 := HS.out.ltp; have h2 := HS.out.ltq; have h3 := HB.out.size; omega)
    refine wp_gen (fun V => Hid (Ext W0 V) ∧ Hid (Sh V p pq 400 P0) ∧ Hid (Row V w2.heap.size 0 [.bool true, .int .i64 512, .int .i64 tu, .int .i64 512, .int .i64 31, .int .i64 0])) ⟨hid (HB.out.trans (by repeat (first | (with_reducible exact Ext.refl _) | (with_reducible refine Ext.undrew ?_) | (with_reducible refine Ext.grow ?_ _) | (with_reducible refine Ext.drew ?_) | (with_reducible refine Ext.drewN ?_ _) | (with_reducible refine Ext.alloc ?_ _) | (with_reducible assumption) | ((with_reducible refine Ext.setCell ?_ ?_ _); rotate_left; (first | exact Nat.le_refl _ | ((try dsimp only); (try simp only [World.size_alloc, grow_size, World.size_setCell]); omega)))))), hid (HS.out.ext (by repeat (first | (with_reducible exact Ext.refl _) | (with_reducible refine Ext.undrew ?_) | (with_reducible refine Ext.grow ?_ _) | (with_reducible refine Ext.drew ?_) | (with_reducible refine Ext.drewN ?_ _) | (with_reducible refine Ext.alloc ?_ _) | (with_reducible assumption) | ((with_reducible refine Ext.setCell ?_ ?_ _); rotate_left; (first | exact Nat.le_refl _ | ((try dsimp only); (try simp only [World.size_alloc, grow_size, World.size_setCell]); omega)))))), hid (Row.new w2 _ _)⟩ ?_
    clear HB HS HB1 HS0
    rintro V1 ⟨HB, HS, HR⟩
    generalize w2.heap.size = rb at HR HRN ⊢
    have HRL : Hid (W0.heap.size ≤ rb) := hid HRN.out.2.2
    replace HRN : Hid (¬ rb = p ∧ ¬ rb = pq) := hid ⟨HRN.out.1, HRN.out.2.1⟩
    have r0 : World.cell? V1 ⟨rb, 0, none⟩ = some (.bool true) := by have := HR.out.at_ 0 _ rfl; simpa using this
    have r1 : World.cell? V1 ⟨rb, 1, none⟩ = some (.int .i64 512) := by have := HR.out.at_ 1 _ rfl; simpa using this
    have r2 : World.cell? V1 ⟨rb, 2, none⟩ = some (.int .i64 tu) := by have := HR.out.at_ 2 _ rfl; simpa using this
    have r3 : World.cell? V1 ⟨rb, 3, none⟩ = some (.int .i64 512) := by have := HR.out.at_ 3 _ rfl; simpa using this
    have r4 : World.cell? V1 ⟨rb, 4, none⟩ = some (.int .i64 31) := by have := HR.out.at_ 4 _ rfl; simpa using this
    have r5 : World.cell? V1 ⟨rb, 5, none⟩ = some (.int .i64 0) := by have := HR.out.at_ 5 _ rfl; simpa using this
    have rl := HR.out.lt
    go_upto_region 7 with (go_at_call 11; refine (hNewA W0 _ p pq 400 512 tu 31 64 P0 HB.out HS.out HPQ.out HRI.out HGG.out (by decide) (fun i => i = rb) (by rintro i rfl; exact ⟨HR.out.lt, HRN.out.1, HRN.out.2⟩)).mono ?_; rintro e w3 ⟨h, ck, q, fq, g, bq, bf, rfl, HK3, HX3⟩)
    have HR3 := hid (HR.out.ext HX3.out)
    clear HS HB HR HRN r0 r1 r2 r3 r4 r5 rl
    go_wp2
    go_loopw [9, 10] (fun v i wr => ∃ (k : Nat) (x : HSt) (n : Nat) (L : List Bk), k ≤ zs1.length ∧ i = .int .i64 k ∧ Hid (Hp W0 wr h ck q fq p pq g bq bf 400 512 tu 512 31 64 (fun i => i = rb ∨ v.ownBlock = some i) x) ∧ Hid (HI 512 tu x ∧ HB k x) ∧ Hid (ownsAt wr (rb + 1) 35 10 v n (rowF Bk.cells L)) ∧ Hid (L.length = n ∧ BA x L) ∧ n ≤ k ∧ Hid (Row wr rb 0 [.bool true, .int .i64 512, .int .i64 tu, .int .i64 512, .int .i64 31, .int .i64 0])) (fun _ i _ => zs1.length - (intOf i).toNat)
    case atStart => exact ⟨0, _, 0, [], Nat.zero_le _, rfl, hid ((HK3.out.ext (by repeat (first | (with_reducible exact Ext.refl _) | (with_reducible refine Ext.undrew ?_) | (with_reducible refine Ext.grow ?_ _) | (with_reducible refine Ext.drew ?_) | (with_reducible refine Ext.drewN ?_ _) | (with_reducible refine Ext.alloc ?_ _) | (with_reducible assumption) | ((with_reducible refine Ext.setCell ?_ ?_ _); rotate_left; (first | exact Nat.le_refl _ | ((try dsimp only); (try simp only [World.size_alloc, grow_size, World.size_setCell]); omega)))))).row (va' := .slice none 0 0) (Ext.refl _) (fun i e => by cases e)), hid ⟨HI0.out, Nat.le_refl _, Nat.le_refl _, Int.le_refl _, Int.le_refl _⟩, hid (ownsAt_nil _ _ _ _), hid ⟨rfl, BA.nil _⟩, Nat.le_refl _, HR3⟩
    case round =>
      clear HK3 HI0 HX3 HR3
      obtain ⟨k, x, n, L, hk, rfl, HK, HI1, HO, HL, hn, HR⟩ := hrel
      obtain ⟨A, c, rfl, _, _⟩ := HO.out.shape
      have hk3 : (0 : Int) ≤ (k : Int) := by omega
      by_cases hlt : k < zs1.length
      · obtain ⟨z, hz⟩ : ∃ z, zs1[k] = z := ⟨_, rfl⟩
        have hzg : z.good := by rw [← hz]; exact HWZ.out _ (List.getElem_mem hlt)
        obtain ⟨b0, o, rfl, hb0, hop⟩ := POp.facts HSL.out hlt z hz
        obtain ⟨wh, zn, ⟨ct, cb, cp, ca, cm, cy⟩⟩ := z
        have HZN := hid (wf_i64P hzg.2.1)
        have hxw : Ext w wr := HWW.out.trans HK.out.base
        have HOP := hid (rg_extP hop hb0 hxw)
        have hb1 : b0 < wr.heap.size := Nat.lt_of_lt_of_le hb0 hxw.size
        have hk1 : (k : Int) < (zs1.length : Int) := by omega
        have hk2 : k ≤ 200 := by omega
        have hk4 : k + 1 ≤ zs1.length := by omega
        clear hop hz hzg hxw
        go_upto_block 1 with (fail)
        go_cut [9] (fun v9 wx => ∃ (x : HSt) (n : Nat) (L : List Bk), Hid (Hp W0 wx h ck q fq p pq g bq bf 400 512 tu 512 31 64 (fun i => i = rb ∨ v9.ownBlock = some i) x) ∧ Hid (HI 512 tu x ∧ HB (k + 1) x) ∧ Hid (ownsAt wx (rb + 1) 35 10 v9 n (rowF Bk.cells L)) ∧ Hid (L.length = n ∧ BA x L) ∧ n ≤ (k + 1) ∧ Hid (Row wx rb 0 [.bool true, .int .i64 512, .int .i64 tu, .int .i64 512, .int .i64 31, .int .i64 0]))
        case first =>
          have d0 : World.cell? wr ⟨b0, o + k * 8, none⟩ = some (.int .i64 wh) := HOP.out 0 _ rfl
          have d1 : World.cell? wr ⟨b0, o + k * 8 + 1, none⟩ = some (.int .i64 zn) := HOP.out 1 _ rfl
          have d2 : World.cell? wr ⟨b0, o + k * 8 + 2, none⟩ = some (.bool ct) := HOP.out 2 _ rfl
          have d3 : World.cell? wr ⟨b0, o + k * 8 + 3, none⟩ = some (.int .i64 cb) := HOP.out 3 _ rfl
          have d4 : World.cell? wr ⟨b0, o + k * 8 + 4, none⟩ = some (.int .i64 cp) := HOP.out 4 _ rfl
          have d5 : World.cell? wr ⟨b0, o + k * 8 + 5, none⟩ = some (.int .i64 ca) := HOP.out 5 _ rfl
          have d6 : World.cell? wr ⟨b0, o + k * 8 + 6, none⟩ = some (.int .i64 cm) := HOP.out 6 _ rfl
          have d7 : World.cell? wr ⟨b0, o + k * 8 + 7, none⟩ = some (.int .i64 cy) := HOP.out 7 _ rfl
          go_upto_region 14 with (fail)
          refine wp_gen (fun V => Hid (Hp W0 V h ck q fq p pq g bq bf 400 512 tu 512 31 64 (fun i => (fun i => i = rb ∨ (Value.slice A n c).ownBlock = some i) i ∨ i = wr.heap.size) x) ∧ Hid (Row V wr.heap.size 0 [.int .i64 wh, .int .i64 zn, .bool ct, .int .i64 cb, .int .i64 cp, .int .i64 ca, .int .i64 cm, .int .i64 cy]) ∧ Hid (ownsAt V (rb + 1) 35 10 (.slice A n c) n (rowF Bk.cells L)) ∧ Hid (Row V rb 0 [.bool true, .int .i64 512, .int .i64 tu, .int .i64 512, .int .i64 31, .int .i64 0])) ⟨hid ((HK.out.ext (Ext.refl _)).box _), hid (Row.new wr _ _), hid (HO.out.ext (by repeat (first | (with_reducible exact Ext.refl _) | (with_reducible refine Ext.undrew ?_) | (with_reducible refine Ext.grow ?_ _) | (with_reducible refine Ext.drew ?_) | (with_reducible refine Ext.drewN ?_ _) | (with_reducible refine Ext.alloc ?_ _) | (with_reducible assumption) | ((with_reducible refine Ext.setCell ?_ ?_ _); rotate_left; (first | exact Nat.le_refl _ | ((try dsimp only); (try simp only [World.size_alloc, grow_size, World.size_setCell]); omega)))))), hid (HR.out.ext (by repeat (first | (with_reducible exact Ext.refl _) | (with_reducible refine Ext.undrew ?_) | (with_reducible refine Ext.grow ?_ _) | (with_reducible refine Ext.drew ?_) | (with_reducible refine Ext.drewN ?_ _) | (with_reducible refine Ext.alloc ?_ _) | (with_reducible assumption) | ((with_reducible refine Ext.setCell ?_ ?_ _); rotate_left; (first | exact Nat.le_refl _ | ((try dsimp only); (try simp only [World.size_alloc, grow_size, World.size_setCell]); omega))))))⟩ ?_
          have HI2 := HI1
          clear HK HO HI1 HR HOP hb1 d0 d1 d2 d3 d4 d5 d6 d7
          rintro W2 ⟨HK2, HR2, HO2, HR0⟩
          generalize wr.heap.size = ob at HK2 HR2 ⊢
          have d0 : World.cell? W2 ⟨ob, 0, none⟩ = some (.int .i64 wh) := by have := HR2.out.at_ 0 _ rfl; simpa using this
          have d1 : World.cell? W2 ⟨ob, 1, none⟩ = some (.int .i64 zn) := by have := HR2.out.at_ 1 _ rfl; simpa using this
          have d2 : World.cell? W2 ⟨ob, 2, none⟩ = some (.bool ct) := by have := HR2.out.at_ 2 _ rfl; simpa using this
          have d3 : World.cell? W2 ⟨ob, 3, none⟩ = some (.int .i64 cb) := by have := HR2.out.at_ 3 _ rfl; simpa using this
          have d4 : World.cell? W2 ⟨ob, 4, none⟩ = some (.int .i64 cp) := by have := HR2.out.at_ 4 _ rfl; simpa using this
          have d5 : World.cell? W2 ⟨ob, 5, none⟩ = some (.int .i64 ca) := by have := HR2.out.at_ 5 _ rfl; simpa using this
          have d6 : World.cell? W2 ⟨ob, 6, none⟩ = some (.int .i64 cm) := by have := HR2.out.at_ 6 _ rfl; simpa using this
          have d7 : World.cell? W2 ⟨ob, 7, none⟩ = some (.int .i64 cy) := by have := HR2.out.at_ 7 _ rfl; simpa using this
          have dl := HR2.out.lt
          obtain ⟨FF, hff⟩ : ∃ b : Bool, (b = true ↔ (wh = 3 ∨ wh = 4 ∨ wh = 5)) := ⟨decide (wh = 3 ∨ wh = 4 ∨ wh = 5), by simp⟩
          have HFF := hid hff
          clear hff
          go_upto_if 168 with (fail)
          go_cut [168] (fun s wx => s = .bool FF ∧ wx = W2)
          case first =>
            by_cases h3 : wh = 3
            · obtain rfl : FF = true := HFF.out.2 (.inl h3)
              subst h3
              go_wp2
              go_meet
              exact ⟨rfl, rfl⟩
            · by_cases h4 : wh = 4
              · obtain rfl : FF = true := HFF.out.2 (.inr (.inl h4))
                subst h4
                go_wp2
                go_meet
                exact ⟨rfl, rfl⟩
              · by_cases h5 : wh = 5
                · obtain rfl : FF = true := HFF.out.2 (.inr (.inr h5))
                  subst h5
                  go_wp2
                  go_meet
                  exact ⟨rfl, rfl⟩
                · obtain rfl : FF = false := (by
                    cases FF with
                    | false => rfl
                    | true => rcases HFF.out.1 rfl with c | c | c <;> exact absurd c (by assumption))
                  have h5b : (wh == 5) = false := by simpa using h5
                  go_wp2
                  go_meet
                  exact ⟨rfl, rfl⟩
          case rest =>
            obtain ⟨hs, hw⟩ := hcut
            subst hs
            replace hw := hw.symm
            subst hw
            cases FF with
            | true =>
              clear HFF
              rename_i i1 i2 i3 i4 i5 i6 i7 i8 i9 i10 i11 i12 i13 i14 i15 i16 i17 i18 i19 i20 i21 i22 i23 i24 i25 i26 i27 i28 i29 i30 i31 i32 i33 i34 i35 i36 i37 i38 i39 i40 i41 i42 i43 i44 i45 i46 i47 i48 i49 i50 i51 i52 i53 i54 i55 i56 i57 i58 i59 i60 i61 i62 i63 i64 i65 i66 i67 i68 i69 i70 i71 i72 i73 i74 i75 i76 i77 i78 i79 i80 i81 i82 i83 i84 i85 i86 i87 i88 i89 i90 i91 i92 i93 i94 i95 i96 i97 i98 i99 i100 i101 i102 i103 i104 i105 i106 i107 i108 i109 i110 i111 i112 i113 i114 i115 i116 i117 i118 i119 i120 i121 i122 i123 i124 i125 i126 i127 i128 i129 i130 i131 i132 i133 i134 i135 i136 i137 i138 i139 i140 i141 i142 i143 i144 i145 i146 i147 i148 i149 i150 i151 i152 i153 i154 i155 i156 i157 i158 i159 i160 i161 i162 i163 i164 i165 i166 i167 i168 i169 i170 i171 i172 i173 i174 i175 i176 i177 i178 i179 i180 i181 i182 i183 i184 i185 i186 i187 i188 i189 i190 i191 i192 i193 i194 i195 i196 i197 i198 i199 i200 i201 i202 i203 i204 i205 i206 i207 i208 i209 i210 i211 i212 i213 i214 i215 i216 i217
              revert a0 cap1 zs1 w wl1 a0l a0h HT HWZ tu HTU HTB HTA HRI HGG hlen i1 W0 hli HWW w1 p pq HPQ i2 w2 V1 rb HRL w3 h ck q fq g bq bf i3 i4 wr u4 u11 u12 u13 u14 u15 u16 u17 u18 u19 u20 u21 u22 u23 u24 i5 i6 i7 i8 i9 i10 i11 i12 i13 i14 i15 u58 i16 i17 i18 i19 i20 i21 i22 i23 i24 i25 i26 i27 i28 i29 i30 i31 i32 i33 i34 i35 i36 i37 i38 i39 i40 i41 i42 i43 i44 i45 i46 i47 i48 i49 i50 i51 i52 i53 i54 i55 i56 i57 i58 i59 i60 i61 i62 i63 i64 i65 i66 i67 i68 i69 i70 i71 i72 i73 i74 i75 i76 i77 i78 i79 i80 i81 i82 i83 i84 i85 i86 i87 i88 i89 i90 i91 i92 i93 i94 i95 i96 i97 i98 i99 i100 i101 i102 i103 i104 i105 i106 i107 i108 i109 i110 i111 i112 i113 i114 i115 i116 i117 i118 i119 i120 i121 i122 i123 i124 u168 i125 i126 i127 i128 i129 i130 i131 i132 i133 i134 i135 i136 i137 i138 i139 i140 i141 i142 i143 i144 i145 i146 i147 i148 i149 i150 i151 i152 i153 i154 i155 i156 i157 i158 i159 i160 i161 i162 u207 i163 i164 i165 i166 i167 i168 i169 i170 i171 i172 i173 i174 i175 i176 i177 i178 i179 i180 i181 i182 i183 i184 i185 i186 i187 i188 i189 i190 i191 i192 i193 i194 i195 i196 i197 i198 i199 i200 i201 i202 i203 i204 i205 i206 k x n L hk HL hn A c i207 i208 hk3 hlt b0 o HSL hb0 wh zn ct cb cp ca cm cy HZN hk1 hk2 hk4 i209 i210 i211 i212 i213 i214 i215 HI2 W2 HO2 HR0 ob HK2 HR2 d0 d1 d2 d3 d4 d5 d6 d7 dl i216 i217 u47 u48 u49 u50 u51 u52 u53 u54 u55 u56 u57 u59 u60 u61 u62 u63 u64 u65 u66 u67 u68 u69 u70 u71 u72 u73 u74 u75 u76 u77 u78 u79 u80 u81 u82 u83 u84 u85 u86 u87 u88 u89 u90 u91 u92 u93 u94 u95 u96 u97 u98 u99 u100 u101 u102 u103 u104 u105 u106 u107 u108 u109 u110 u111 u112 u113 u114 u115 u116 u117 u118 u119 u120 u121 u122 u123 u124 u125 u126 u127 u128 u129 u130 u131 u132 u133 u134 u135 u136 u137 u138 u139 u140 u141 u142 u143 u144 u145 u146 u147 u148 u149 u150 u151 u152 u153 u154 u155 u156 u157 u158 u159 u160 u161 u162 u163 u164 u165 u166 u167 u169 u170 u171 u172 u173 u174 u175 u176 u177 u178 u179 u180 u181 u182 u183 u184 u185 u186 u187 u188 u189 u190 u191 u192 u193 u194 u195 u196 u197 u198 u199 u200 u201 u202 u203 u204 u205 u206 u208 u209 u210 u211 u212 u213 u214 u215 u216 u217 u218 u219 u220 u221 u222 u223 u224 u225 u226 u227 u228 u229 u230 u231 u232 u233 u234 u235 u236 u237 u238 u239 u240 u241 u242 u243 u244 u245 u246 u247 u248 u249 u250 u251
              exact zp1.out
            | false =>
              clear HFF
              by_cases h7 : wh = 7
              · subst h7
                rename_i i1 i2 i3 i4 i5 i6 i7 i8 i9 i10 i11 i12 i13 i14 i15 i16 i17 i18 i19 i20 i21 i22 i23 i24 i25 i26 i27 i28 i29 i30 i31 i32 i33 i34 i35 i36 i37 i38 i39 i40 i41 i42 i43 i44 i45 i46 i47 i48 i49 i50 i51 i52 i53 i54 i55 i56 i57 i58 i59 i60 i61 i62 i63 i64 i65 i66 i67 i68 i69 i70 i71 i72 i73 i74 i75 i76 i77 i78 i79 i80 i81 i82 i83 i84 i85 i86 i87 i88 i89 i90 i91 i92 i93 i94 i95 i96 i97 i98 i99 i100 i101 i102 i103 i104 i105 i106 i107 i108 i109 i110 i111 i112 i113 i114 i115 i116 i117 i118 i119 i120 i121 i122 i123 i124 i125 i126 i127 i128 i129 i130 i131 i132 i133 i134 i135 i136 i137 i138 i139 i140 i141 i142 i143 i144 i145 i146 i147 i148 i149 i150 i151 i152 i153 i154 i155 i156 i157 i158 i159 i160 i161 i162 i163 i164 i165 i166 i167 i168 i169 i170 i171 i172 i173 i174 i175 i176 i177 i178 i179 i180 i181 i182 i183 i184 i185 i186 i187 i188 i189 i190 i191 i192 i193 i194 i195 i196 i197 i198 i199 i200 i201 i202 i203 i204 i205 i206 i207 i208 i209 i210 i211 i212 i213 i214 i215 i216 i217
                revert a0 cap1 zs1 w wl1 a0l a0h HT HWZ tu HTU HTB HTA HRI HGG hlen i1 W0 hli HWW w1 p pq HPQ i2 w2 V1 rb HRL w3 h ck q fq g bq bf i3 i4 wr u4 u11 u12 u13 u14 u15 u16 u17 u18 u19 u20 u21 u22 u23 u24 i5 i6 i7 i8 i9 i10 i11 i12 i13 i14 i15 u58 i16 i17 i18 i19 i20 i21 i22 i23 i24 i25 i26 i27 i28 i29 i30 i31 i32 i33 i34 i35 i36 i37 i38 i39 i40 i41 i42 i43 i44 i45 i46 i47 i48 i49 i50 i51 i52 i53 i54 i55 i56 i57 i58 i59 i60 i61 i62 i63 i64 i65 i66 i67 i68 i69 i70 i71 i72 i73 i74 i75 i76 i77 i78 i79 i80 i81 i82 i83 i84 i85 i86 i87 i88 i89 i90 i91 i92 i93 i94 i95 i96 i97 i98 i99 i100 i101 i102 i103 i104 i105 i106 i107 i108 i109 i110 i111 i112 i113 i114 i115 i116 i117 i118 i119 i120 i121 i122 i123 i124 u168 i125 i126 i127 i128 i129 i130 i131 i132 i133 i134 i135 i136 i137 i138 i139 i140 i141 i142 i143 i144 i145 i146 i147 i148 i149 i150 i151 i152 i153 i154 i155 i156 i157 i158 i159 i160 i161 i162 u207 i163 i164 i165 i166 i167 i168 i169 i170 i171 i172 i173 i174 i175 i176 i177 i178 i179 i180 i181 i182 i183 i184 i185 i186 i187 i188 i189 i190 i191 i192 i193 i194 i195 i196 i197 i198 i199 i200 i201 i202 i203 i204 i205 i206 k x n L hk HL hn A c i207 i208 hk3 hlt b0 o HSL hb0 zn ct cb cp ca cm cy hk1 hk2 hk4 i209 i210 i211 i212 i213 i214 i215 HI2 W2 HO2 HR0 ob HK2 d1 d2 d3 d4 d5 d6 d7 dl i216 i217 u47 u48 u49 u50 u51 u52 u53 u54 u55 u56 u57 u59 u60 u61 u62 u63 u64 u65 u66 u67 u68 u69 u70 u71 u72 u73 u74 u75 u76 u77 u78 u79 u80 u81 u82 u83 u84 u85 u86 u87 u88 u89 u90 u91 u92 u93 u94 u95 u96 u97 u98 u99 u100 u101 u102 u103 u104 u105 u106 u107 u108 u109 u110 u111 u112 u113 u114 u115 u116 u117 u118 u119 u120 u121 u122 u123 u124 u125 u126 u127 u128 u129 u130 u131 u132 u133 u134 u135 u136 u137 u138 u139 u140 u141 u142 u143 u144 u145 u146 u147 u148 u149 u150 u151 u152 u153 u154 u155 u156 u157 u158 u159 u160 u161 u162 u163 u164 u165 u166 u167 u169 u170 u171 u172 u173 u174 u175 u176 u177 u178 u179 u180 u181 u182 u183 u184 u185 u186 u187 u188 u189 u190 u191 u192 u193 u194 u195 u196 u197 u198 u199 u200 u201 u202 u203 u204 u205 u206 u208 u209 u210 u211 u212 u213 u214 u215 u216 u217 u218 u219 u220 u221 u222 u223 u224 u225 u226 u227 u228 u229 u230 u231 u232 u233 u234 u235 u236 u237 u238 u239 u240 u241 u242 u243 u244 u245 u246 u247 u248 u249 u250 u251 HZN HR2 d0
                exact zp2.out
              · by_cases h8 : wh = 8
                · subst h8
                  rename_i i1 i2 i3 i4 i5 i6 i7 i8 i9 i10 i11 i12 i13 i14 i15 i16 i17 i18 i19 i20 i21 i22 i23 i24 i25 i26 i27 i28 i29 i30 i31 i32 i33 i34 i35 i36 i37 i38 i39 i40 i41 i42 i43 i44 i45 i46 i47 i48 i49 i50 i51 i52 i53 i54 i55 i56 i57 i58 i59 i60 i61 i62 i63 i64 i65 i66 i67 i68 i69 i70 i71 i72 i73 i74 i75 i76 i77 i78 i79 i80 i81 i82 i83 i84 i85 i86 i87 i88 i89 i90 i91 i92 i93 i94 i95 i96 i97 i98 i99 i100 i101 i102 i103 i104 i105 i106 i107 i108 i109 i110 i111 i112 i113 i114 i115 i116 i117 i118 i119 i120 i121 i122 i123 i124 i125 i126 i127 i128 i129 i130 i131 i132 i133 i134 i135 i136 i137 i138 i139 i140 i141 i142 i143 i144 i145 i146 i147 i148 i149 i150 i151 i152 i153 i154 i155 i156 i157 i158 i159 i160 i161 i162 i163 i164 i165 i166 i167 i168 i169 i170 i171 i172 i173 i174 i175 i176 i177 i178 i179 i180 i181 i182 i183 i184 i185 i186 i187 i188 i189 i190 i191 i192 i193 i194 i195 i196 i197 i198 i199 i200 i201 i202 i203 i204 i205 i206 i207 i208 i209 i210 i211 i212 i213 i214 i215 i216 i217
                  revert a0 cap1 zs1 w wl1 a0l a0h HT HWZ tu HTU HTB HTA HRI HGG hlen i1 W0 hli HWW w1 p pq HPQ i2 w2 V1 rb HRL w3 h ck q fq g bq bf i3 i4 wr u4 u11 u12 u13 u14 u15 u16 u17 u18 u19 u20 u21 u22 u23 u24 i5 i6 i7 i8 i9 i10 i11 i12 i13 i14 i15 u58 i16 i17 i18 i19 i20 i21 i22 i23 i24 i25 i26 i27 i28 i29 i30 i31 i32 i33 i34 i35 i36 i37 i38 i39 i40 i41 i42 i43 i44 i45 i46 i47 i48 i49 i50 i51 i52 i53 i54 i55 i56 i57 i58 i59 i60 i61 i62 i63 i64 i65 i66 i67 i68 i69 i70 i71 i72 i73 i74 i75 i76 i77 i78 i79 i80 i81 i82 i83 i84 i85 i86 i87 i88 i89 i90 i91 i92 i93 i94 i95 i96 i97 i98 i99 i100 i101 i102 i103 i104 i105 i106 i107 i108 i109 i110 i111 i112 i113 i114 i115 i116 i117 i118 i119 i120 i121 i122 i123 i124 u168 i125 i126 i127 i128 i129 i130 i131 i132 i133 i134 i135 i136 i137 i138 i139 i140 i141 i142 i143 i144 i145 i146 i147 i148 i149 i150 i151 i152 i153 i154 i155 i156 i157 i158 i159 i160 i161 i162 u207 i163 i164 i165 i166 i167 i168 i169 i170 i171 i172 i173 i174 i175 i176 i177 i178 i179 i180 i181 i182 i183 i184 i185 i186 i187 i188 i189 i190 i191 i192 i193 i194 i195 i196 i197 i198 i199 i200 i201 i202 i203 i204 i205 i206 k x n L hk HL hn A c i207 i208 hk3 hlt b0 o HSL hb0 zn ct cb cp ca cm cy hk1 hk2 hk4 i209 i210 i211 i212 i213 i214 i215 HI2 W2 HO2 HR0 ob HK2 d1 d2 d3 d4 d5 d6 d7 dl i216 i217 u47 u48 u49 u50 u51 u52 u53 u54 u55 u56 u57 u59 u60 u61 u62 u63 u64 u65 u66 u67 u68 u69 u70 u71 u72 u73 u74 u75 u76 u77 u78 u79 u80 u81 u82 u83 u84 u85 u86 u87 u88 u89 u90 u91 u92 u93 u94 u95 u96 u97 u98 u99 u100 u101 u102 u103 u104 u105 u106 u107 u108 u109 u110 u111 u112 u113 u114 u115 u116 u117 u118 u119 u120 u121 u122 u123 u124 u125 u126 u127 u128 u129 u130 u131 u132 u133 u134 u135 u136 u137 u138 u139 u140 u141 u142 u143 u144 u145 u146 u147 u148 u149 u150 u151 u152 u153 u154 u155 u156 u157 u158 u159 u160 u161 u162 u163 u164 u165 u166 u167 u169 u170 u171 u172 u173 u174 u175 u176 u177 u178 u179 u180 u181 u182 u183 u184 u185 u186 u187 u188 u189 u190 u191 u192 u193 u194 u195 u196 u197 u198 u199 u200 u201 u202 u203 u204 u205 u206 u208 u209 u210 u211 u212 u213 u214 u215 u216 u217 u218 u219 u220 u221 u222 u223 u224 u225 u226 u227 u228 u229 u230 u231 u232 u233 u234 u235 u236 u237 u238 u239 u240 u241 u242 u243 u244 u245 u246 u247 u248 u249 u250 u251 HZN HR2 d0 h7
                  exact zp3.out
                · rename_i i1 i2 i3 i4 i5 i6 i7 i8 i9 i10 i11 i12 i13 i14 i15 i16 i17 i18 i19 i20 i21 i22 i23 i24 i25 i26 i27 i28 i29 i30 i31 i32 i33 i34 i35 i36 i37 i38 i39 i40 i41 i42 i43 i44 i45 i46 i47 i48 i49 i50 i51 i52 i53 i54 i55 i56 i57 i58 i59 i60 i61 i62 i63 i64 i65 i66 i67 i68 i69 i70 i71 i72 i73 i74 i75 i76 i77 i78 i79 i80 i81 i82 i83 i84 i85 i86 i87 i88 i89 i90 i91 i92 i93 i94 i95 i96 i97 i98 i99 i100 i101 i102 i103 i104 i105 i106 i107 i108 i109 i110 i111 i112 i113 i114 i115 i116 i117 i118 i119 i120 i121 i122 i123 i124 i125 i126 i127 i128 i129 i130 i131 i132 i133 i134 i135 i136 i137 i138 i139 i140 i141 i142 i143 i144 i145 i146 i147 i148 i149 i150 i151 i152 i153 i154 i155 i156 i157 i158 i159 i160 i161 i162 i163 i164 i165 i166 i167 i168 i169 i170 i171 i172 i173 i174 i175 i176 i177 i178 i179 i180 i181 i182 i183 i184 i185 i186 i187 i188 i189 i190 i191 i192 i193 i194 i195 i196 i197 i198 i199 i200 i201 i202 i203 i204 i205 i206 i207 i208 i209 i210 i211 i212 i213 i214 i215 i216 i217
                  revert a0 cap1 zs1 w wl1 a0l a0h HT HWZ tu HTU HTB HTA HRI HGG hlen i1 W0 hli HWW w1 p pq HPQ i2 w2 V1 rb HRL w3 h ck q fq g bq bf i3 i4 wr u4 u11 u12 u13 u14 u15 u16 u17 u18 u19 u20 u21 u22 u23 u24 i5 i6 i7 i8 i9 i10 i11 i12 i13 i14 i15 u58 i16 i17 i18 i19 i20 i21 i22 i23 i24 i25 i26 i27 i28 i29 i30 i31 i32 i33 i34 i35 i36 i37 i38 i39 i40 i41 i42 i43 i44 i45 i46 i47 i48 i49 i50 i51 i52 i53 i54 i55 i56 i57 i58 i59 i60 i61 i62 i63 i64 i65 i66 i67 i68 i69 i70 i71 i72 i73 i74 i75 i76 i77 i78 i79 i80 i81 i82 i83 i84 i85 i86 i87 i88 i89 i90 i91 i92 i93 i94 i95 i96 i97 i98 i99 i100 i101 i102 i103 i104 i105 i106 i107 i108 i109 i110 i111 i112 i113 i114 i115 i116 i117 i118 i119 i120 i121 i122 i123 i124 u168 i125 i126 i127 i128 i129 i130 i131 i132 i133 i134 i135 i136 i137 i138 i139 i140 i141 i142 i143 i144 i145 i146 i147 i148 i149 i150 i151 i152 i153 i154 i155 i156 i157 i158 i159 i160 i161 i162 u207 i163 i164 i165 i166 i167 i168 i169 i170 i171 i172 i173 i174 i175 i176 i177 i178 i179 i180 i181 i182 i183 i184 i185 i186 i187 i188 i189 i190 i191 i192 i193 i194 i195 i196 i197 i198 i199 i200 i201 i202 i203 i204 i205 i206 k x n L hk HL hn A c i207 i208 hk3 hlt b0 o HSL hb0 wh zn ct cb cp ca cm cy HZN hk1 hk2 hk4 i209 i210 i211 i212 i213 i214 i215 HI2 W2 HO2 HR0 ob HK2 HR2 d0 d1 d2 d3 d4 d5 d6 d7 dl i216 i217 u47 u48 u49 u50 u51 u52 u53 u54 u55 u56 u57 u59 u60 u61 u62 u63 u64 u65 u66 u67 u68 u69 u70 u71 u72 u73 u74 u75 u76 u77 u78 u79 u80 u81 u82 u83 u84 u85 u86 u87 u88 u89 u90 u91 u92 u93 u94 u95 u96 u97 u98 u99 u100 u101 u102 u103 u104 u105 u106 u107 u108 u109 u110 u111 u112 u113 u114 u115 u116 u117 u118 u119 u120 u121 u122 u123 u124 u125 u126 u127 u128 u129 u130 u131 u132 u133 u134 u135 u136 u137 u138 u139 u140 u141 u142 u143 u144 u145 u146 u147 u148 u149 u150 u151 u152 u153 u154 u155 u156 u157 u158 u159 u160 u161 u162 u163 u164 u165 u166 u167 u169 u170 u171 u172 u173 u174 u175 u176 u177 u178 u179 u180 u181 u182 u183 u184 u185 u186 u187 u188 u189 u190 u191 u192 u193 u194 u195 u196 u197 u198 u199 u200 u201 u202 u203 u204 u205 u206 u208 u209 u210 u211 u212 u213 u214 u215 u216 u217 u218 u219 u220 u221 u222 u223 u224 u225 u226 u227 u228 u229 u230 u231 u232 u233 u234 u235 u236 u237 u238 u239 u240 u241 u242 u243 u244 u245 u246 u247 u248 u249 u250 u251 h7 h8
                  exact zp4.out
        case rest =>
          clear HK HI1 HO HL hn HR
          obtain ⟨y, n', L', HK5, HI5, HO5, HL5, hn5, HR5⟩ := hcut
          go_wp2
          go_roundw
          case rel => exact ⟨k + 1, y, n', L', hk4, by go_num, hid (HK5.out.ext (by repeat (first | (with_reducible exact Ext.refl _) | (with_reducible refine Ext.undrew ?_) | (with_reducible refine Ext.grow ?_ _) | (with_reducible refine Ext.drew ?_) | (with_reducible refine Ext.drewN ?_ _) | (with_reducible refine Ext.alloc ?_ _) | (with_reducible assumption) | ((with_reducible refine Ext.setCell ?_ ?_ _); rotate_left; (first | exact Nat.le_refl _ | ((try dsimp only); (try simp only [World.size_alloc, grow_size, World.size_setCell]); omega)))))), HI5, hid (HO5.out.ext (by repeat (first | (with_reducible exact Ext.refl _) | (with_reducible refine Ext.undrew ?_) | (with_reducible refine Ext.grow ?_ _) | (with_reducible refine Ext.drew ?_) | (with_reducible refine Ext.drewN ?_ _) | (with_reducible refine Ext.alloc ?_ _) | (with_reducible assumption) | ((with_reducible refine Ext.setCell ?_ ?_ _); rotate_left; (first | exact Nat.le_refl _ | ((try dsimp only); (try simp only [World.size_alloc, grow_size, World.size_setCell]); omega)))))), HL5, hn5, hid (HR5.out.ext (by repeat (first | (with_reducible exact Ext.refl _) | (with_reducible refine Ext.undrew ?_) | (with_reducible refine Ext.grow ?_ _) | (with_reducible refine Ext.drew ?_) | (with_reducible refine Ext.drewN ?_ _) | (with_reducible refine Ext.alloc ?_ _) | (with_reducible assumption) | ((with_reducible refine Ext.setCell ?_ ?_ _); rotate_left; (first | exact Nat.le_refl _ | ((try dsimp only); (try simp only [World.size_alloc, grow_size, World.size_setCell]); omega))))))⟩
          case measure => simp [intOf]; omega
      · obtain rfl : k = zs1.length := by omega
        have hk1 : ¬ (zs1.length : Int) < (zs1.length : Int) := by omega
        go_wp2
        go_ret
        exact ⟨rfl, HWW.out.trans HK.out.base⟩
end heapApart

end Go.Proofs.YtoeiemeffiiidaaDoor
