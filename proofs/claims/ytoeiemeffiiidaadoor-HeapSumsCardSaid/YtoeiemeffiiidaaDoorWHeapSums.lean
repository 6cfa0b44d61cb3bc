/- The walk of HeapSums. -/
import Derived.Test.YtoeiemeffiiidaaDoorHepP
import Derived.Deep.DeepCutAuto
import Derived.Deep.CutBlock
namespace Go.Proofs.YtoeiemeffiiidaaDoor
set_option linter.unusedSimpArgs false
set_option linter.unusedVariables false
open Go.RowKit

open Go.Deep Go.RowKit
namespace heapSums
set_option linter.unusedSimpArgs false
set_option linter.unusedVariables false
theorem pickF_bd {zs : List Cap} (h : ∀ c ∈ zs, 0 ≤ c.base ∧ c.base ≤ 16777216) (n : Int) : 0 ≤ (pickF zs n).base ∧ (pickF zs n).base ≤ 16777216 := by
  unfold pickF
  rw [List.getD_eq_getElem?_getD]
  cases e : zs[(bits .and .i64 n 4095).toNat % zs.length]? with
  | none => exact ⟨Int.le_refl _, by decide⟩
  | some c => exact h c (List.mem_of_getElem? e)
theorem alC_bd {x : HSt} {fr tu : Int} (hG : Good fr tu x.lf) (h0 : 0 ≤ fr) (h1 : tu ≤ 16777216) (m rp : Int) : 0 ≤ (alC rp x m).base ∧ (alC rp x m).base ≤ 16777216 := by
  unfold alC
  split
  · rename_i h
    have := al_bd hG h
    have := (roundT_bdA (alOk_take h).1).1
    show 0 ≤ alAt x m ∧ alAt x m ≤ 16777216
    omega
  · exact ⟨Int.le_refl _, by decide⟩
set_option maxRecDepth 100000 in
set_option maxHeartbeats 12000000 in
theorem walk (a0 : Int) (A1 : Option Addr) (cap1 : Nat) (zs1 : List POp) (w : World) (w0 : (Lit.int .u8 a0).wf = true) (wl1 : zs1.length ≤ maxLen) (hs1 : SlAtN w A1 8 (zs1.map POp.cells)) (wz1 : ∀ z ∈ zs1, z.good) (hTab : Tab w) :
    Calls Tryd.prog 4 #[.int .u8 a0, .slice A1 zs1.length cap1] w fun e w' => e = .returned (.bool true) ∧ Ext w w' := by
  obtain ⟨a0l, a0h⟩ := wfu8 w0
  have HT := hid hTab
  unfold maxLen at wl1
  have HSL := hid hs1
  have HWZ := hid wz1
  obtain ⟨tu, htu⟩ : ∃ z : Int, 512 + 16 * a0 = z := ⟨_, rfl⟩
  have HTU := hid htu
  have HTB : Hid (512 ≤ tu ∧ tu ≤ 4592 ∧ tu % 16 = 0) := hid (by omega)
  have HTA : Hid (tu - 512 = 16 * a0) := hid (by omega)
  have HRI : Hid (rightC ⟨true, 512, tu, 512, 31, 0⟩ = true) := hid (by
    have := HTB.out
    simp [rightC, rightB, holdsB]
    omega)
  have HGG : Hid ([(512 : Int), tu].all g16 = true ∧ (0 : Int) ≤ 512 ∧ (512 : Int) ≤ tu ∧ tu ≤ 16777216) := hid (by
    refine ⟨?_, by omega, by omega, by omega⟩
    rw [← htu, List.all_cons, List.all_cons, (g16_512 a0).1, (g16_512 a0).2]
    rfl)
  have HI0 : Hid (HI 512 tu ⟨0, [], frL 512 tu, P0, []⟩) := hid (by rw [← htu]; exact HI.start P0 (g16_512 a0).1 (g16_512 a0).2 (by omega))
  clear w0 hTab hs1 wz1 htu
  by_cases hlen : zs1.length ≤ 200
  · have hli : ¬ (200 : Int) < (zs1.length : Int) := by omega
    go_enter Tryd.func4, Tryd.ntmps4
    go_upto_region 2 with (go_at_call 8; refine (head_ _ HT.out).mono ?_; rintro e W0 ⟨rfl, hxh⟩)
    have HWW : Hid (Ext w W0) := hid hxh
    go_upto_region 3 with (go_at_call 9; refine (new_ 400 _ (by decide) (by decide)).mono ?_; rintro e w1 ⟨p, pq, rfl, hs1, hx1, hp1, hpq1⟩)
    have HS0 := hid hs1
    have HB1 := hid hx1
    have HPQ := hid hpq1
    clear hs1 hx1 hp1 hpq1 hxh
    go_upto_region 6 with (first | (go_at_call 10; refine (root_ 512 a0 _ (by decide) (by omega)).mono ?_; rw [HTU.out]; rintro e w2 ⟨rfl, hx2⟩; have HB := hid (HB1.out.trans hx2); have HS := hid (HS0.out.ext hx2); clear hx2) | (go_at_call 11; refine (hNewA W0 _ p pq 400 512 tu 31 64 P0 HB.out HS.out HPQ.out HRI.out HGG.out (by decide) (fun _ => False) (fun _ h => h.elim)).mono ?_; rintro e w3 ⟨h, ck, q, fq, g, bq, bf, rfl, HK3, HX3⟩))
    clear HS HB HB1 HS0
    go_wp2
    go_loopw [8, 9] (fun v i wr => ∃ (k : Nat) (x : HSt) (n : Nat) (L : List Cap), k ≤ zs1.length ∧ i = .int .i64 k ∧ Hid (Hp W0 wr h ck q fq p pq g bq bf 400 512 tu 512 31 64 (fun i => False ∨ v.ownBlock = some i) x) ∧ Hid (HI 512 tu x ∧ HB k x) ∧ Hid (ownsAt wr W0.heap.size 27 6 v n (capsF L)) ∧ Hid (L.length = n ∧ ∀ c ∈ L, 0 ≤ c.base ∧ c.base ≤ 16777216) ∧ n ≤ k) (fun _ i _ => zs1.length - (intOf i).toNat)
    case atStart => exact ⟨0, _, 0, [], Nat.zero_le _, rfl, hid ((HK3.out.ext (by repeat (first | (with_reducible exact Ext.refl _) | (with_reducible refine Ext.undrew ?_) | (with_reducible refine Ext.grow ?_ _) | (with_reducible refine Ext.drew ?_) | (with_reducible refine Ext.drewN ?_ _) | (with_reducible refine Ext.alloc ?_ _) | (with_reducible assumption) | ((with_reducible refine Ext.setCell ?_ ?_ _); rotate_left; (first | exact Nat.le_refl _ | ((try dsimp only); (try simp only [World.size_alloc, grow_size, World.size_setCell]); omega)))))).row (va' := .slice none 0 0) (Ext.refl _) (fun i e => by cases e)), hid ⟨HI0.out, Nat.le_refl _, Nat.le_refl _, Int.le_refl _, Int.le_refl _⟩, hid (ownsAt_nil _ _ _ _), hid ⟨rfl, fun c hc => nomatch hc⟩, Nat.le_refl _⟩
    case round =>
      clear HK3 HI0 HX3
      obtain ⟨k, x, n, L, hk, rfl, HK, HI1, HO, HL, hn⟩ := hrel
      obtain ⟨A, c, rfl, _, _⟩ := HO.out.shape
      have hk3 : (0 : Int) ≤ (k : Int) := by omega
      by_cases hlt : k < zs1.length
      · obtain ⟨z, hz⟩ : ∃ z, zs1[k] = z := ⟨_, rfl⟩
        have hzg : z.good := by rw [← hz]; exact HWZ.out _ (List.getElem_mem hlt)
        obtain ⟨b0, o, rfl, hb0, hop⟩ := POp.facts HSL.out hlt z hz
        obtain ⟨wh, zn, ⟨ct, cb, cp, ca, cm, cy⟩⟩ := z
        have HZN := hid (wf_i64P hzg.2.1)
        have HCB := hid (wf_i64P hzg.2.2.1)
        have hxw : Ext w wr := HWW.out.trans HK.out.base
        have HOP := hid (rg_extP hop hb0 hxw)
        have hb1 : b0 < wr.heap.size := Nat.lt_of_lt_of_le hb0 hxw.size
        have hk1 : (k : Int) < (zs1.length : Int) := by omega
        have hk2 : k ≤ 200 := by omega
        clear hop hz hzg hxw
        have d0 : World.cell? wr ⟨b0, o + k * 8, none⟩ = some (.int .i64 wh) := HOP.out 0 _ rfl
        have d1 : World.cell? wr ⟨b0, o + k * 8 + 1, none⟩ = some (.int .i64 zn) := HOP.out 1 _ rfl
        have d2 : World.cell? wr ⟨b0, o + k * 8 + 2, none⟩ = some (.bool ct) := HOP.out 2 _ rfl
        have d3 : World.cell? wr ⟨b0, o + k * 8 + 3, none⟩ = some (.int .i64 cb) := HOP.out 3 _ rfl
        have d4 : World.cell? wr ⟨b0, o + k * 8 + 4, none⟩ = some (.int .i64 cp) := HOP.out 4 _ rfl
        have d5 : World.cell? wr ⟨b0, o + k * 8 + 5, none⟩ = some (.int .i64 ca) := HOP.out 5 _ rfl
        have d6 : World.cell? wr ⟨b0, o + k * 8 + 6, none⟩ = some (.int .i64 cm) := HOP.out 6 _ rfl
        have d7 : World.cell? wr ⟨b0, o + k * 8 + 7, none⟩ = some (.int .i64 cy) := HOP.out 7 _ rfl
        go_upto_region 13 with (fail)
        refine wp_gen (fun V => Hid (Hp W0 V h ck q fq p pq g bq bf 400 512 tu 512 31 64 (fun i => False ∨ (Value.slice A n c).ownBlock = some i) x) ∧ Hid (Row V wr.heap.size 0 [.int .i64 wh, .int .i64 zn, .bool ct, .int .i64 cb, .int .i64 cp, .int .i64 ca, .int .i64 cm, .int .i64 cy]) ∧ Hid (ownsAt V W0.heap.size 27 6 (.slice A n c) n (capsF L))) ⟨hid (HK.out.ext (by repeat (first | (with_reducible exact Ext.refl _) | (with_reducible refine Ext.undrew ?_) | (with_reducible refine Ext.grow ?_ _) | (with_reducible refine Ext.drew ?_) | (with_reducible refine Ext.drewN ?_ _) | (with_reducible refine Ext.alloc ?_ _) | (with_reducible assumption) | ((with_reducible refine Ext.setCell ?_ ?_ _); rotate_left; (first | exact Nat.le_refl _ | ((try dsimp only); (try simp only [World.size_alloc, grow_size, World.size_setCell]); omega)))))), hid (Row.new wr _ _), hid (HO.out.ext (by repeat (first | (with_reducible exact Ext.refl _) | (with_reducible refine Ext.undrew ?_) | (with_reducible refine Ext.grow ?_ _) | (with_reducible refine Ext.drew ?_) | (with_reducible refine Ext.drewN ?_ _) | (with_reducible refine Ext.alloc ?_ _) | (with_reducible assumption) | ((with_reducible refine Ext.setCell ?_ ?_ _); rotate_left; (first | exact Nat.le_refl _ | ((try dsimp only); (try simp only [World.size_alloc, grow_size, World.size_setCell]); omega))))))⟩ ?_
        have HI2 := HI1
        clear HK HO HI1 HOP hb1 d0 d1 d2 d3 d4 d5 d6 d7
        rintro W2 ⟨HK2, HR2, HO2⟩
        generalize wr.heap.size = ob at HR2 ⊢
        obtain ⟨i0, hi0, hz0, hz1, hz2⟩ := info_parts info_capA
        have d0 : World.cell? W2 ⟨ob, 0, none⟩ = some (.int .i64 wh) := by have := HR2.out.at_ 0 _ rfl; simpa using this
        have d1 : World.cell? W2 ⟨ob, 1, none⟩ = some (.int .i64 zn) := by have := HR2.out.at_ 1 _ rfl; simpa using this
        have d2 : World.cell? W2 ⟨ob, 2, none⟩ = some (.bool ct) := by have := HR2.out.at_ 2 _ rfl; simpa using this
        have d3 : World.cell? W2 ⟨ob, 3, none⟩ = some (.int .i64 cb) := by have := HR2.out.at_ 3 _ rfl; simpa using this
        have d4 : World.cell? W2 ⟨ob, 4, none⟩ = some (.int .i64 cp) := by have := HR2.out.at_ 4 _ rfl; simpa using this
        have d5 : World.cell? W2 ⟨ob, 5, none⟩ = some (.int .i64 ca) := by have := HR2.out.at_ 5 _ rfl; simpa using this
        have d6 : World.cell? W2 ⟨ob, 6, none⟩ = some (.int .i64 cm) := by have := HR2.out.at_ 6 _ rfl; simpa using this
        have d7 : World.cell? W2 ⟨ob, 7, none⟩ = some (.int .i64 cy) := by have := HR2.out.at_ 7 _ rfl; simpa using this
        have dl := HR2.out.lt
        go_upto_block 2 with (fail)
        go_cut [8] (fun v8 wx => ∃ (x : HSt) (n : Nat) (L : List Cap), Hid (Hp W0 wx h ck q fq p pq g bq bf 400 512 tu 512 31 64 (fun i => False ∨ v8.ownBlock = some i) x) ∧ Hid (HI 512 tu x ∧ HB (k + 1) x) ∧ Hid (ownsAt wx W0.heap.size 27 6 v8 n (capsF L)) ∧ Hid (L.length = n ∧ ∀ c ∈ L, 0 ≤ c.base ∧ c.base ≤ 16777216) ∧ n ≤ (k + 1))
        case first =>
          by_cases h3 : wh = 3
          · subst h3
            obtain ⟨⟨pt, pb, pp, pa, pm, py⟩, hpk⟩ : ∃ c, pickF L zn = c := ⟨_, rfl⟩
            have HPK := hid hpk
            have HPB : Hid (-9223372036854775808 ≤ pb ∧ pb ≤ 9223372036854775807) := hid (by
              have := pickF_bd HL.out.2 zn
              rw [hpk] at this
              simp only at this
              omega)
            clear hpk
            go_wp2_with (first | (go_at_call 18; refine (pick_ _ A n c L HL.out.1 ((HO2.out.ext (by repeat (first | (with_reducible exact Ext.refl _) | (with_reducible refine Ext.undrew ?_) | (with_reducible refine Ext.grow ?_ _) | (with_reducible refine Ext.drew ?_) | (with_reducible refine Ext.drewN ?_ _) | (with_reducible refine Ext.alloc ?_ _) | (with_reducible assumption) | ((with_reducible refine Ext.setCell ?_ ?_ _); rotate_left; (first | exact Nat.le_refl _ | ((try dsimp only); (try simp only [World.size_alloc, grow_size, World.size_setCell]); omega)))))).caps HL.out.1) (by omega) zn).mono ?_; rw [HPK.out]; rintro e Wp ⟨rfl, hxp⟩) | (go_at_call 12; refine (hFree W0 _ h ck q fq p pq g bq bf 400 512 tu 512 31 64 (fun i => False ∨ (Value.slice A n c).ownBlock = some i) x (HK2.out.ext hxp) pt pb pp pa pm py HPB.out (by have := HI2.out.2.2.1; omega)).mono ?_; rintro e W4 ⟨rfl, HK4, HO4⟩))
            go_meet
            exact ⟨x.free ⟨pt, pb, pp, pa, pm, py⟩, n, L, hid (HK4.out.ext (by repeat (first | (with_reducible exact Ext.refl _) | (with_reducible refine Ext.undrew ?_) | (with_reducible refine Ext.grow ?_ _) | (with_reducible refine Ext.drew ?_) | (with_reducible refine Ext.drewN ?_ _) | (with_reducible refine Ext.alloc ?_ _) | (with_reducible assumption) | ((with_reducible refine Ext.setCell ?_ ?_ _); rotate_left; (first | exact Nat.le_refl _ | ((try dsimp only); (try simp only [World.size_alloc, grow_size, World.size_setCell]); omega)))))), hid ⟨HI2.out.1.free _, HI2.out.2.free _⟩, hid ((((HO2.out.ext hxp)).only HO4.out (fun g e hs => hs (.inr e))).ext (by repeat (first | (with_reducible exact Ext.refl _) | (with_reducible refine Ext.undrew ?_) | (with_reducible refine Ext.grow ?_ _) | (with_reducible refine Ext.drew ?_) | (with_reducible refine Ext.drewN ?_ _) | (with_reducible refine Ext.alloc ?_ _) | (with_reducible assumption) | ((with_reducible refine Ext.setCell ?_ ?_ _); rotate_left; (first | exact Nat.le_refl _ | ((try dsimp only); (try simp only [World.size_alloc, grow_size, World.size_setCell]); omega)))))), HL, Nat.le_succ_of_le hn⟩
          · by_cases h4 : wh = 4
            · subst h4
              obtain ⟨⟨pt, pb, pp, pa, pm, py⟩, hpk⟩ : ∃ c, pickF L zn = c := ⟨_, rfl⟩
              have HPK := hid hpk
              have HPB : Hid (-9223372036854775808 ≤ pb ∧ pb ≤ 9223372036854775807) := hid (by
                have := pickF_bd HL.out.2 zn
                rw [hpk] at this
                simp only at this
                omega)
              clear hpk
              go_wp2_with (first | (go_at_call 18; refine (pick_ _ A n c L HL.out.1 ((HO2.out.ext (by repeat (first | (with_reducible exact Ext.refl _) | (with_reducible refine Ext.undrew ?_) | (with_reducible refine Ext.grow ?_ _) | (with_reducible refine Ext.drew ?_) | (with_reducible refine Ext.drewN ?_ _) | (with_reducible refine Ext.alloc ?_ _) | (with_reducible assumption) | ((with_reducible refine Ext.setCell ?_ ?_ _); rotate_left; (first | exact Nat.le_refl _ | ((try dsimp only); (try simp only [World.size_alloc, grow_size, World.size_setCell]); omega)))))).caps HL.out.1) (by omega) zn).mono ?_; rw [HPK.out]; rintro e Wp ⟨rfl, hxp⟩) | (go_at_call 12; refine (hFree W0 _ h ck q fq p pq g bq bf 400 512 tu 512 31 64 (fun i => False ∨ (Value.slice A n c).ownBlock = some i) x (HK2.out.ext hxp) pt pb pp pa pm py HPB.out (by have := HI2.out.2.2.1; omega)).mono ?_; rintro e W4 ⟨rfl, HK4, HO4⟩))
              go_meet
              exact ⟨x.free ⟨pt, pb, pp, pa, pm, py⟩, n, L, hid (HK4.out.ext (by repeat (first | (with_reducible exact Ext.refl _) | (with_reducible refine Ext.undrew ?_) | (with_reducible refine Ext.grow ?_ _) | (with_reducible refine Ext.drew ?_) | (with_reducible refine Ext.drewN ?_ _) | (with_reducible refine Ext.alloc ?_ _) | (with_reducible assumption) | ((with_reducible refine Ext.setCell ?_ ?_ _); rotate_left; (first | exact Nat.le_refl _ | ((try dsimp only); (try simp only [World.size_alloc, grow_size, World.size_setCell]); omega)))))), hid ⟨HI2.out.1.free _, HI2.out.2.free _⟩, hid ((((HO2.out.ext hxp)).only HO4.out (fun g e hs => hs (.inr e))).ext (by repeat (first | (with_reducible exact Ext.refl _) | (with_reducible refine Ext.undrew ?_) | (with_reducible refine Ext.grow ?_ _) | (with_reducible refine Ext.drew ?_) | (with_reducible refine Ext.drewN ?_ _) | (with_reducible refine Ext.alloc ?_ _) | (with_reducible assumption) | ((with_reducible refine Ext.setCell ?_ ?_ _); rotate_left; (first | exact Nat.le_refl _ | ((try dsimp only); (try simp only [World.size_alloc, grow_size, World.size_setCell]); omega)))))), HL, Nat.le_succ_of_le hn⟩
            · by_cases h5 : wh = 5
              · subst h5
                go_wp2_with (go_at_call 12; refine (hFree W0 _ h ck q fq p pq g bq bf 400 512 tu 512 31 64 (fun i => False ∨ (Value.slice A n c).ownBlock = some i) x (HK2.out.ext (by repeat (first | (with_reducible exact Ext.refl _) | (with_reducible refine Ext.undrew ?_) | (with_reducible refine Ext.grow ?_ _) | (with_reducible refine Ext.drew ?_) | (with_reducible refine Ext.drewN ?_ _) | (with_reducible refine Ext.alloc ?_ _) | (with_reducible assumption) | ((with_reducible refine Ext.setCell ?_ ?_ _); rotate_left; (first | exact Nat.le_refl _ | ((try dsimp only); (try simp only [World.size_alloc, grow_size, World.size_setCell]); omega)))))) ct cb cp ca cm cy HCB.out (by have := HI2.out.2.2.1; omega)).mono ?_; rintro e W4 ⟨rfl, HK4, HO4⟩)
                go_meet
                exact ⟨x.free ⟨ct, cb, cp, ca, cm, cy⟩, n, L, hid (HK4.out.ext (by repeat (first | (with_reducible exact Ext.refl _) | (with_reducible refine Ext.undrew ?_) | (with_reducible refine Ext.grow ?_ _) | (with_reducible refine Ext.drew ?_) | (with_reducible refine Ext.drewN ?_ _) | (with_reducible refine Ext.alloc ?_ _) | (with_reducible assumption) | ((with_reducible refine Ext.setCell ?_ ?_ _); rotate_left; (first | exact Nat.le_refl _ | ((try dsimp only); (try simp only [World.size_alloc, grow_size, World.size_setCell]); omega)))))), hid ⟨HI2.out.1.free _, HI2.out.2.free _⟩, hid (((HO2.out.ext (by repeat (first | (with_reducible exact Ext.refl _) | (with_reducible refine Ext.undrew ?_) | (with_reducible refine Ext.grow ?_ _) | (with_reducible refine Ext.drew ?_) | (with_reducible refine Ext.drewN ?_ _) | (with_reducible refine Ext.alloc ?_ _) | (with_reducible assumption) | ((with_reducible refine Ext.setCell ?_ ?_ _); rotate_left; (first | exact Nat.le_refl _ | ((try dsimp only); (try simp only [World.size_alloc, grow_size, World.size_setCell]); omega)))))).only HO4.out (fun g e hs => hs (.inr e))).ext (by repeat (first | (with_reducible exact Ext.refl _) | (with_reducible refine Ext.undrew ?_) | (with_reducible refine Ext.grow ?_ _) | (with_reducible refine Ext.drew ?_) | (with_reducible refine Ext.drewN ?_ _) | (with_reducible refine Ext.alloc ?_ _) | (with_reducible assumption) | ((with_reducible refine Ext.setCell ?_ ?_ _); rotate_left; (first | exact Nat.le_refl _ | ((try dsimp only); (try simp only [World.size_alloc, grow_size, World.size_setCell]); omega)))))), HL, Nat.le_succ_of_le hn⟩
              · by_cases h7 : wh = 7
                · subst h7
                  go_wp2_with (go_at_call 13; refine (hBegin W0 _ h ck q fq p pq g bq bf 400 512 tu 512 31 64 (fun i => False ∨ (Value.slice A n c).ownBlock = some i) x (HK2.out.ext (by repeat (first | (with_reducible exact Ext.refl _) | (with_reducible refine Ext.undrew ?_) | (with_reducible refine Ext.grow ?_ _) | (with_reducible refine Ext.drew ?_) | (with_reducible refine Ext.drewN ?_ _) | (with_reducible refine Ext.alloc ?_ _) | (with_reducible assumption) | ((with_reducible refine Ext.setCell ?_ ?_ _); rotate_left; (first | exact Nat.le_refl _ | ((try dsimp only); (try simp only [World.size_alloc, grow_size, World.size_setCell]); omega)))))) (by have := HI2.out.2.2.1; omega) (by have := HI2.out.2.2.2.2; omega)).mono ?_; rintro e W4 ⟨rfl, HK4, HO4⟩)
                  go_meet
                  exact ⟨x.beg 400, n, L, hid (HK4.out.ext (by repeat (first | (with_reducible exact Ext.refl _) | (with_reducible refine Ext.undrew ?_) | (with_reducible refine Ext.grow ?_ _) | (with_reducible refine Ext.drew ?_) | (with_reducible refine Ext.drewN ?_ _) | (with_reducible refine Ext.alloc ?_ _) | (with_reducible assumption) | ((with_reducible refine Ext.setCell ?_ ?_ _); rotate_left; (first | exact Nat.le_refl _ | ((try dsimp only); (try simp only [World.size_alloc, grow_size, World.size_setCell]); omega)))))), hid ⟨HI2.out.1.beg _, HI2.out.2.beg _⟩, hid (((HO2.out.ext (by repeat (first | (with_reducible exact Ext.refl _) | (with_reducible refine Ext.undrew ?_) | (with_reducible refine Ext.grow ?_ _) | (with_reducible refine Ext.drew ?_) | (with_reducible refine Ext.drewN ?_ _) | (with_reducible refine Ext.alloc ?_ _) | (with_reducible assumption) | ((with_reducible refine Ext.setCell ?_ ?_ _); rotate_left; (first | exact Nat.le_refl _ | ((try dsimp only); (try simp only [World.size_alloc, grow_size, World.size_setCell]); omega)))))).only HO4.out (fun g e hs => hs (.inr e))).ext (by repeat (first | (with_reducible exact Ext.refl _) | (with_reducible refine Ext.undrew ?_) | (with_reducible refine Ext.grow ?_ _) | (with_reducible refine Ext.drew ?_) | (with_reducible refine Ext.drewN ?_ _) | (with_reducible refine Ext.alloc ?_ _) | (with_reducible assumption) | ((with_reducible refine Ext.setCell ?_ ?_ _); rotate_left; (first | exact Nat.le_refl _ | ((try dsimp only); (try simp only [World.size_alloc, grow_size, World.size_setCell]); omega)))))), HL, Nat.le_succ_of_le hn⟩
                · by_cases h8 : wh = 8
                  · subst h8
                    go_wp2_with (go_at_call 14; refine (hEnd W0 _ h ck q fq p pq g bq bf 400 512 tu 512 31 64 (fun i => False ∨ (Value.slice A n c).ownBlock = some i) x (HK2.out.ext (by repeat (first | (with_reducible exact Ext.refl _) | (with_reducible refine Ext.undrew ?_) | (with_reducible refine Ext.grow ?_ _) | (with_reducible refine Ext.drew ?_) | (with_reducible refine Ext.drewN ?_ _) | (with_reducible refine Ext.alloc ?_ _) | (with_reducible assumption) | ((with_reducible refine Ext.setCell ?_ ?_ _); rotate_left; (first | exact Nat.le_refl _ | ((try dsimp only); (try simp only [World.size_alloc, grow_size, World.size_setCell]); omega)))))) (by have := HI2.out.2.2.1; omega) (by have := HI2.out.2.2.2.2; omega)).mono ?_; rintro e W4 ⟨rfl, HK4, HO4⟩)
                    go_meet
                    exact ⟨x.endd 400 512 tu, n, L, hid (HK4.out.ext (by repeat (first | (with_reducible exact Ext.refl _) | (with_reducible refine Ext.undrew ?_) | (with_reducible refine Ext.grow ?_ _) | (with_reducible refine Ext.drew ?_) | (with_reducible refine Ext.drewN ?_ _) | (with_reducible refine Ext.alloc ?_ _) | (with_reducible assumption) | ((with_reducible refine Ext.setCell ?_ ?_ _); rotate_left; (first | exact Nat.le_refl _ | ((try dsimp only); (try simp only [World.size_alloc, grow_size, World.size_setCell]); omega)))))), hid ⟨HI2.out.1.endd _, HI2.out.2.endd _ _ _⟩, hid (((HO2.out.ext (by repeat (first | (with_reducible exact Ext.refl _) | (with_reducible refine Ext.undrew ?_) | (with_reducible refine Ext.grow ?_ _) | (with_reducible refine Ext.drew ?_) | (with_reducible refine Ext.drewN ?_ _) | (with_reducible refine Ext.alloc ?_ _) | (with_reducible assumption) | ((with_reducible refine Ext.setCell ?_ ?_ _); rotate_left; (first | exact Nat.le_refl _ | ((try dsimp only); (try simp only [World.size_alloc, grow_size, World.size_setCell]); omega)))))).only HO4.out (fun g e hs => hs (.inr e))).ext (by repeat (first | (with_reducible exact Ext.refl _) | (with_reducible refine Ext.undrew ?_) | (with_reducible refine Ext.grow ?_ _) | (with_reducible refine Ext.drew ?_) | (with_reducible refine Ext.drewN ?_ _) | (with_reducible refine Ext.alloc ?_ _) | (with_reducible assumption) | ((with_reducible refine Ext.setCell ?_ ?_ _); rotate_left; (first | exact Nat.le_refl _ | ((try dsimp only); (try simp only [World.size_alloc, grow_size, World.size_setCell]); omega)))))), HL, Nat.le_succ_of_le hn⟩
                  · skip
                    obtain ⟨⟨et, eb, ep, ea, em, ey⟩, hc⟩ : ∃ c, alC 31 x zn = c := ⟨_, rfl⟩
                    obtain ⟨y, hy⟩ : ∃ y, x.al zn = y := ⟨_, rfl⟩
                    obtain ⟨er, her⟩ : ∃ e, alE x zn = e := ⟨_, rfl⟩
                    have HC := hid hc
                    have HY := hid hy
                    have HE := hid her
                    have HFR : Hid (alOk x zn = true → idxL x.lv (alAt x zn) = none) := hid (fun e => al_fresh HI2.out.1.ap e)
                    have HIY : Hid (HI 512 tu y ∧ HB (k + 1) y) := hid (by rw [← hy]; exact ⟨HI2.out.1.al zn, HI2.out.2.al zn⟩)
                    have HEB : Hid (0 ≤ eb ∧ eb ≤ 16777216) := hid (by
                      have := alC_bd HI2.out.1.2 (by have := HTB.out; omega) (by have := HTB.out; omega) zn 31
                      rw [hc] at this
                      exact this)
                    clear hc hy her
                    go_upto_region 15 with (go_at_call 15; refine (hAlloc W0 _ h ck q fq p pq g bq bf 400 512 tu 512 31 64 (fun i => False ∨ (Value.slice A n c).ownBlock = some i) x (HK2.out.ext (by repeat (first | (with_reducible exact Ext.refl _) | (with_reducible refine Ext.undrew ?_) | (with_reducible refine Ext.grow ?_ _) | (with_reducible refine Ext.drew ?_) | (with_reducible refine Ext.drewN ?_ _) | (with_reducible refine Ext.alloc ?_ _) | (with_reducible assumption) | ((with_reducible refine Ext.setCell ?_ ?_ _); rotate_left; (first | exact Nat.le_refl _ | ((try dsimp only); (try simp only [World.size_alloc, grow_size, World.size_setCell]); omega)))))) zn HZN.out (HT.out.ext (HWW.out.trans (HK2.out.base.trans (by repeat (first | (with_reducible exact Ext.refl _) | (with_reducible refine Ext.undrew ?_) | (with_reducible refine Ext.grow ?_ _) | (with_reducible refine Ext.drew ?_) | (with_reducible refine Ext.drewN ?_ _) | (with_reducible refine Ext.alloc ?_ _) | (with_reducible assumption) | ((with_reducible refine Ext.setCell ?_ ?_ _); rotate_left; (first | exact Nat.le_refl _ | ((try dsimp only); (try simp only [World.size_alloc, grow_size, World.size_setCell]); omega)))))))) HFR.out).mono ?_; rw [HC.out, HE.out, HY.out]; (try dsimp only); rintro e w7 ⟨rfl, HKz, HOz⟩)
                    refine wp_gen (fun V => Hid (Hp W0 V h ck q fq p pq g bq bf 400 512 tu 512 31 64 (fun i => False ∨ (Value.slice A n c).ownBlock = some i) y) ∧ Hid (Row V w7.heap.size 0 [.bool et, .int .i64 eb, .int .i64 ep, .int .i64 ea, .int .i64 em, .int .i64 ey]) ∧ Hid (ownsAt V W0.heap.size 27 6 (.slice A n c) n (capsF L))) ⟨hid (HKz.out.ext (by repeat (first | (with_reducible exact Ext.refl _) | (with_reducible refine Ext.undrew ?_) | (with_reducible refine Ext.grow ?_ _) | (with_reducible refine Ext.drew ?_) | (with_reducible refine Ext.drewN ?_ _) | (with_reducible refine Ext.alloc ?_ _) | (with_reducible assumption) | ((with_reducible refine Ext.setCell ?_ ?_ _); rotate_left; (first | exact Nat.le_refl _ | ((try dsimp only); (try simp only [World.size_alloc, grow_size, World.size_setCell]); omega)))))), hid (Row.new w7 _ _), hid (((HO2.out.ext (by repeat (first | (with_reducible exact Ext.refl _) | (with_reducible refine Ext.undrew ?_) | (with_reducible refine Ext.grow ?_ _) | (with_reducible refine Ext.drew ?_) | (with_reducible refine Ext.drewN ?_ _) | (with_reducible refine Ext.alloc ?_ _) | (with_reducible assumption) | ((with_reducible refine Ext.setCell ?_ ?_ _); rotate_left; (first | exact Nat.le_refl _ | ((try dsimp only); (try simp only [World.size_alloc, grow_size, World.size_setCell]); omega)))))).only HOz.out (fun g e hs => hs (.inr e))).ext (by repeat (first | (with_reducible exact Ext.refl _) | (with_reducible refine Ext.undrew ?_) | (with_reducible refine Ext.grow ?_ _) | (with_reducible refine Ext.drew ?_) | (with_reducible refine Ext.drewN ?_ _) | (with_reducible refine Ext.alloc ?_ _) | (with_reducible assumption) | ((with_reducible refine Ext.setCell ?_ ?_ _); rotate_left; (first | exact Nat.le_refl _ | ((try dsimp only); (try simp only [World.size_alloc, grow_size, World.size_setCell]); omega))))))⟩ ?_
                    clear HKz HOz HK2 HO2 HC HY HE HFR HR2
                    rintro W7 ⟨HK7, HX7, HO7⟩
                    generalize w7.heap.size = xb at HX7 ⊢
                    have e0 : World.cell? W7 ⟨xb, 0, none⟩ = some (.bool et) := by have := HX7.out.at_ 0 _ rfl; simpa using this
                    have e1 : World.cell? W7 ⟨xb, 1, none⟩ = some (.int .i64 eb) := by have := HX7.out.at_ 1 _ rfl; simpa using this
                    have e2 : World.cell? W7 ⟨xb, 2, none⟩ = some (.int .i64 ep) := by have := HX7.out.at_ 2 _ rfl; simpa using this
                    have e3 : World.cell? W7 ⟨xb, 3, none⟩ = some (.int .i64 ea) := by have := HX7.out.at_ 3 _ rfl; simpa using this
                    have e4 : World.cell? W7 ⟨xb, 4, none⟩ = some (.int .i64 em) := by have := HX7.out.at_ 4 _ rfl; simpa using this
                    have e5 : World.cell? W7 ⟨xb, 5, none⟩ = some (.int .i64 ey) := by have := HX7.out.at_ 5 _ rfl; simpa using this
                    have el := HX7.out.lt
                    by_cases he0 : er = 0
                    · subst he0
                      go_wp2_with (at_builtin; refine wpList_plain rfl fun K hK => ?_; go_loud (refine wp_append_at _ _ _ 44 rfl W0.heap.size 27 i0 _ 6 48 Tryd.underlying44 hi0 hz0 hz1 hz2 rfl (by decide) _ _ _ rfl (HO7.out.ext (Ext.alloc (Ext.refl _) _)) ⟨W7.heap.size, 0, none⟩ 1 1 [.bool et, .int .i64 eb, .int .i64 ep, .int .i64 ea, .int .i64 em, .int .i64 ey] rfl rfl (fun j u hj => by rw [Addr.add_lit]; exact (Row.new W7 #[.bool et, .int .i64 eb, .int .i64 ep, .int .i64 ea, .int .i64 em, .int .i64 ey] _).range j u hj) (capL_one ⟨et, eb, ep, ea, em, ey⟩) (by unfold maxLen; omega) (by omega) (by have := HK7.out.base.size; simp; omega) (by decide) ?_); intro v5 w5 hown5 hgrow5 hat5; refine hK _ _ ?_)
                      have hlt5 := hown5.lt
                      go_meet
                      exact ⟨y, n + 1, L ++ [⟨et, eb, ep, ea, em, ey⟩], hid ((HK7.out.ext (Ext.alloc (Ext.refl _) _)).app (fun i e => (HO7.out.lt i e).1) hgrow5 hat5 (fun i e => (hlt5 i e).2)), HIY, hid (by rw [capsF_snoc]; exact hown5), hid ⟨by rw [List.length_append, HL.out.1]; rfl, fun z hz => by
                        rcases List.mem_append.1 hz with hz | hz
                        · exact HL.out.2 z hz
                        · obtain rfl : z = ⟨et, eb, ep, ea, em, ey⟩ := (by simpa using hz)
                          exact HEB.out⟩, Nat.succ_le_succ hn⟩
                    · have he1 : (er == 0) = false := by simpa using he0
                      go_wp2
                      go_meet
                      exact ⟨y, n, L, hid (HK7.out.ext (by repeat (first | (with_reducible exact Ext.refl _) | (with_reducible refine Ext.undrew ?_) | (with_reducible refine Ext.grow ?_ _) | (with_reducible refine Ext.drew ?_) | (with_reducible refine Ext.drewN ?_ _) | (with_reducible refine Ext.alloc ?_ _) | (with_reducible assumption) | ((with_reducible refine Ext.setCell ?_ ?_ _); rotate_left; (first | exact Nat.le_refl _ | ((try dsimp only); (try simp only [World.size_alloc, grow_size, World.size_setCell]); omega)))))), HIY, hid (HO7.out.ext (by repeat (first | (with_reducible exact Ext.refl _) | (with_reducible refine Ext.undrew ?_) | (with_reducible refine Ext.grow ?_ _) | (with_reducible refine Ext.drew ?_) | (with_reducible refine Ext.drewN ?_ _) | (with_reducible refine Ext.alloc ?_ _) | (with_reducible assumption) | ((with_reducible refine Ext.setCell ?_ ?_ _); rotate_left; (first | exact Nat.le_refl _ | ((try dsimp only); (try simp only [World.size_alloc, grow_size, World.size_setCell]); omega)))))), HL, Nat.le_succ_of_le hn⟩
        case rest =>
          clear HK2 HR2 HO2 HI2 HL hn d0 d1 d2 d3 d4 d5 d6 d7 dl
          obtain ⟨y, n', L', HK5, HI5, HO5, HL5, hn5⟩ := hcut
          obtain ⟨tk, htk⟩ : ∃ z, takesL y.lv = z := ⟨_, rfl⟩
          obtain ⟨ap, hap⟩ : ∃ z, sumL y.lq = z := ⟨_, rfl⟩
          obtain ⟨lt, hlf⟩ : ∃ z, sumP y.lf = z := ⟨_, rfl⟩
          obtain ⟨od, hod⟩ : ∃ z, oddB y.t = z := ⟨_, rfl⟩
          have HTK := hid htk
          have HAP := hid hap
          have HLF := hid hlf
          have HOD := hid hod
          have hsum := HI5.out.1.sum
          have hnn := HI5.out.1.nonneg
          rw [htk, hap, hlf, HTA.out] at hsum
          rw [htk, hap, hlf] at hnn
          obtain ⟨hn1, hn2, hn3⟩ := hnn
          have HSM : Hid (tk + ap + lt = 16 * a0) := hid (by omega)
          have hb1 : tk ≤ 4080 := by omega
          have hb2 : ap ≤ 4080 := by omega
          have hb3 : lt ≤ 4080 := by omega
          have hsq : (tk + ap + lt == 16 * a0) = true := by rw [HSM.out]; exact beq_self_eq_true _
          clear htk hap hlf hod hsum
          go_upto_region 27 with (go_at_call 19; refine (hLive W0 _ h ck q fq p pq g bq bf 400 512 tu 512 31 64 _ y HK5.out (by have := HI5.out.2.1; omega)).mono ?_; rw [HTK.out]; rintro e W6 ⟨rfl, hx6⟩)
          have HK6 := hid (HK5.out.ext hx6)
          have HO6 := hid (HO5.out.ext hx6)
          have HGD := hid (Hp_good HK6.out)
          clear HK5 HO5 hx6
          have HA : Hid (∀ W, Ext W6 W → Calls Tryd.prog 20 #[.pointer (some ⟨h, 0, none⟩)] W fun e W' => e = .returned (.int .i64 ap) ∧ Ext W W') := hid (fun W hx => by have := hApart W0 W h ck q fq p pq g bq bf 400 512 tu 512 31 64 _ y (HK6.out.ext hx); rw [HAP.out] at this; exact this)
          have HLL : Hid (∀ W, Ext W6 W → Calls Tryd.prog 21 #[.pointer (some ⟨h, 0, none⟩)] W fun e W' => e = .returned (.int .i64 lt) ∧ Ext W W') := hid (fun W hx => by have := hLeft W0 W h ck q fq p pq g bq bf 400 512 tu 512 31 64 _ y (HK6.out.ext hx) HGD.out.2.1; rw [HLF.out] at this; exact this)
          have HRU : Hid (∀ W, Ext W6 W → Calls Tryd.prog 23 #[.pointer (some ⟨h, 0, none⟩)] W fun e W' => e = .returned (.bool od) ∧ Ext W W') := hid (fun W hx => by have := hRuns W0 W h ck q fq p pq g bq bf 400 512 tu 512 31 64 _ y (HK6.out.ext hx); rw [HOD.out] at this; exact this)
          have HWA : Hid (∀ W, Ext W6 W → Calls Tryd.prog 22 #[.pointer (some ⟨h, 0, none⟩)] W fun e W' => e = .returned (.bool (!od && decide (64 ≤ ap))) ∧ Ext W W') := hid (fun W hx => by have := hWants W0 W h ck q fq p pq g bq bf 400 512 tu 512 31 64 _ y (HK6.out.ext hx); rw [HOD.out, HAP.out] at this; exact this)
          cases od
          · by_cases hap64 : 64 ≤ ap
            · have t1 : decide ((64 : Int) ≤ ap) = true := decide_eq_true hap64
              go_wp2_with (first | (go_at_call 20; refine (HA.out _ (by repeat (first | (with_reducible exact Ext.refl _) | (with_reducible refine Ext.undrew ?_) | (with_reducible refine Ext.grow ?_ _) | (with_reducible refine Ext.drew ?_) | (with_reducible refine Ext.drewN ?_ _) | (with_reducible refine Ext.alloc ?_ _) | (with_reducible assumption) | ((with_reducible refine Ext.setCell ?_ ?_ _); rotate_left; (first | exact Nat.le_refl _ | ((try dsimp only); (try simp only [World.size_alloc, grow_size, World.size_setCell]); omega)))))).mono ?_; rintro e w8 ⟨rfl, hy⟩; obtain ⟨d, rfl⟩ := hy.grown; clear hy) | (go_at_call 21; refine (HLL.out _ (by repeat (first | (with_reducible exact Ext.refl _) | (with_reducible refine Ext.undrew ?_) | (with_reducible refine Ext.grow ?_ _) | (with_reducible refine Ext.drew ?_) | (with_reducible refine Ext.drewN ?_ _) | (with_reducible refine Ext.alloc ?_ _) | (with_reducible assumption) | ((with_reducible refine Ext.setCell ?_ ?_ _); rotate_left; (first | exact Nat.le_refl _ | ((try dsimp only); (try simp only [World.size_alloc, grow_size, World.size_setCell]); omega)))))).mono ?_; rintro e w8 ⟨rfl, hy⟩; obtain ⟨d, rfl⟩ := hy.grown; clear hy) | (go_at_call 23; refine (HRU.out _ (by repeat (first | (with_reducible exact Ext.refl _) | (with_reducible refine Ext.undrew ?_) | (with_reducible refine Ext.grow ?_ _) | (with_reducible refine Ext.drew ?_) | (with_reducible refine Ext.drewN ?_ _) | (with_reducible refine Ext.alloc ?_ _) | (with_reducible assumption) | ((with_reducible refine Ext.setCell ?_ ?_ _); rotate_left; (first | exact Nat.le_refl _ | ((try dsimp only); (try simp only [World.size_alloc, grow_size, World.size_setCell]); omega)))))).mono ?_; rintro e w8 ⟨rfl, hy⟩; obtain ⟨d, rfl⟩ := hy.grown; clear hy) | (go_at_call 22; refine (HWA.out _ (by repeat (first | (with_reducible exact Ext.refl _) | (with_reducible refine Ext.undrew ?_) | (with_reducible refine Ext.grow ?_ _) | (with_reducible refine Ext.drew ?_) | (with_reducible refine Ext.drewN ?_ _) | (with_reducible refine Ext.alloc ?_ _) | (with_reducible assumption) | ((with_reducible refine Ext.setCell ?_ ?_ _); rotate_left; (first | exact Nat.le_refl _ | ((try dsimp only); (try simp only [World.size_alloc, grow_size, World.size_setCell]); omega)))))).mono ?_; rintro e w8 ⟨rfl, hy⟩; obtain ⟨d, rfl⟩ := hy.grown; clear hy))
              go_roundw
              case rel => exact ⟨k + 1, y, n', L', by omega, by go_num, hid (HK6.out.ext (by repeat (first | (with_reducible exact Ext.refl _) | (with_reducible refine Ext.undrew ?_) | (with_reducible refine Ext.grow ?_ _) | (with_reducible refine Ext.drew ?_) | (with_reducible refine Ext.drewN ?_ _) | (with_reducible refine Ext.alloc ?_ _) | (with_reducible assumption) | ((with_reducible refine Ext.setCell ?_ ?_ _); rotate_left; (first | exact Nat.le_refl _ | ((try dsimp only); (try simp only [World.size_alloc, grow_size, World.size_setCell]); omega)))))), HI5, hid (HO6.out.ext (by repeat (first | (with_reducible exact Ext.refl _) | (with_reducible refine Ext.undrew ?_) | (with_reducible refine Ext.grow ?_ _) | (with_reducible refine Ext.drew ?_) | (with_reducible refine Ext.drewN ?_ _) | (with_reducible refine Ext.alloc ?_ _) | (with_reducible assumption) | ((with_reducible refine Ext.setCell ?_ ?_ _); rotate_left; (first | exact Nat.le_refl _ | ((try dsimp only); (try simp only [World.size_alloc, grow_size, World.size_setCell]); omega)))))), HL5, hn5⟩
              case measure => simp [intOf]; omega
            · have t1 : decide ((64 : Int) ≤ ap) = false := decide_eq_false hap64
              go_wp2_with (first | (go_at_call 20; refine (HA.out _ (by repeat (first | (with_reducible exact Ext.refl _) | (with_reducible refine Ext.undrew ?_) | (with_reducible refine Ext.grow ?_ _) | (with_reducible refine Ext.drew ?_) | (with_reducible refine Ext.drewN ?_ _) | (with_reducible refine Ext.alloc ?_ _) | (with_reducible assumption) | ((with_reducible refine Ext.setCell ?_ ?_ _); rotate_left; (first | exact Nat.le_refl _ | ((try dsimp only); (try simp only [World.size_alloc, grow_size, World.size_setCell]); omega)))))).mono ?_; rintro e w8 ⟨rfl, hy⟩; obtain ⟨d, rfl⟩ := hy.grown; clear hy) | (go_at_call 21; refine (HLL.out _ (by repeat (first | (with_reducible exact Ext.refl _) | (with_reducible refine Ext.undrew ?_) | (with_reducible refine Ext.grow ?_ _) | (with_reducible refine Ext.drew ?_) | (with_reducible refine Ext.drewN ?_ _) | (with_reducible refine Ext.alloc ?_ _) | (with_reducible assumption) | ((with_reducible refine Ext.setCell ?_ ?_ _); rotate_left; (first | exact Nat.le_refl _ | ((try dsimp only); (try simp only [World.size_alloc, grow_size, World.size_setCell]); omega)))))).mono ?_; rintro e w8 ⟨rfl, hy⟩; obtain ⟨d, rfl⟩ := hy.grown; clear hy) | (go_at_call 23; refine (HRU.out _ (by repeat (first | (with_reducible exact Ext.refl _) | (with_reducible refine Ext.undrew ?_) | (with_reducible refine Ext.grow ?_ _) | (with_reducible refine Ext.drew ?_) | (with_reducible refine Ext.drewN ?_ _) | (with_reducible refine Ext.alloc ?_ _) | (with_reducible assumption) | ((with_reducible refine Ext.setCell ?_ ?_ _); rotate_left; (first | exact Nat.le_refl _ | ((try dsimp only); (try simp only [World.size_alloc, grow_size, World.size_setCell]); omega)))))).mono ?_; rintro e w8 ⟨rfl, hy⟩; obtain ⟨d, rfl⟩ := hy.grown; clear hy) | (go_at_call 22; refine (HWA.out _ (by repeat (first | (with_reducible exact Ext.refl _) | (with_reducible refine Ext.undrew ?_) | (with_reducible refine Ext.grow ?_ _) | (with_reducible refine Ext.drew ?_) | (with_reducible refine Ext.drewN ?_ _) | (with_reducible refine Ext.alloc ?_ _) | (with_reducible assumption) | ((with_reducible refine Ext.setCell ?_ ?_ _); rotate_left; (first | exact Nat.le_refl _ | ((try dsimp only); (try simp only [World.size_alloc, grow_size, World.size_setCell]); omega)))))).mono ?_; rintro e w8 ⟨rfl, hy⟩; obtain ⟨d, rfl⟩ := hy.grown; clear hy))
              go_roundw
              case rel => exact ⟨k + 1, y, n', L', by omega, by go_num, hid (HK6.out.ext (by repeat (first | (with_reducible exact Ext.refl _) | (with_reducible refine Ext.undrew ?_) | (with_reducible refine Ext.grow ?_ _) | (with_reducible refine Ext.drew ?_) | (with_reducible refine Ext.drewN ?_ _) | (with_reducible refine Ext.alloc ?_ _) | (with_reducible assumption) | ((with_reducible refine Ext.setCell ?_ ?_ _); rotate_left; (first | exact Nat.le_refl _ | ((try dsimp only); (try simp only [World.size_alloc, grow_size, World.size_setCell]); omega)))))), HI5, hid (HO6.out.ext (by repeat (first | (with_reducible exact Ext.refl _) | (with_reducible refine Ext.undrew ?_) | (with_reducible refine Ext.grow ?_ _) | (with_reducible refine Ext.drew ?_) | (with_reducible refine Ext.drewN ?_ _) | (with_reducible refine Ext.alloc ?_ _) | (with_reducible assumption) | ((with_reducible refine Ext.setCell ?_ ?_ _); rotate_left; (first | exact Nat.le_refl _ | ((try dsimp only); (try simp only [World.size_alloc, grow_size, World.size_setCell]); omega)))))), HL5, hn5⟩
              case measure => simp [intOf]; omega
          · skip
            go_wp2_with (first | (go_at_call 20; refine (HA.out _ (by repeat (first | (with_reducible exact Ext.refl _) | (with_reducible refine Ext.undrew ?_) | (with_reducible refine Ext.grow ?_ _) | (with_reducible refine Ext.drew ?_) | (with_reducible refine Ext.drewN ?_ _) | (with_reducible refine Ext.alloc ?_ _) | (with_reducible assumption) | ((with_reducible refine Ext.setCell ?_ ?_ _); rotate_left; (first | exact Nat.le_refl _ | ((try dsimp only); (try simp only [World.size_alloc, grow_size, World.size_setCell]); omega)))))).mono ?_; rintro e w8 ⟨rfl, hy⟩; obtain ⟨d, rfl⟩ := hy.grown; clear hy) | (go_at_call 21; refine (HLL.out _ (by repeat (first | (with_reducible exact Ext.refl _) | (with_reducible refine Ext.undrew ?_) | (with_reducible refine Ext.grow ?_ _) | (with_reducible refine Ext.drew ?_) | (with_reducible refine Ext.drewN ?_ _) | (with_reducible refine Ext.alloc ?_ _) | (with_reducible assumption) | ((with_reducible refine Ext.setCell ?_ ?_ _); rotate_left; (first | exact Nat.le_refl _ | ((try dsimp only); (try simp only [World.size_alloc, grow_size, World.size_setCell]); omega)))))).mono ?_; rintro e w8 ⟨rfl, hy⟩; obtain ⟨d, rfl⟩ := hy.grown; clear hy) | (go_at_call 23; refine (HRU.out _ (by repeat (first | (with_reducible exact Ext.refl _) | (with_reducible refine Ext.undrew ?_) | (with_reducible refine Ext.grow ?_ _) | (with_reducible refine Ext.drew ?_) | (with_reducible refine Ext.drewN ?_ _) | (with_reducible refine Ext.alloc ?_ _) | (with_reducible assumption) | ((with_reducible refine Ext.setCell ?_ ?_ _); rotate_left; (first | exact Nat.le_refl _ | ((try dsimp only); (try simp only [World.size_alloc, grow_size, World.size_setCell]); omega)))))).mono ?_; rintro e w8 ⟨rfl, hy⟩; obtain ⟨d, rfl⟩ := hy.grown; clear hy) | (go_at_call 22; refine (HWA.out _ (by repeat (first | (with_reducible exact Ext.refl _) | (with_reducible refine Ext.undrew ?_) | (with_reducible refine Ext.grow ?_ _) | (with_reducible refine Ext.drew ?_) | (with_reducible refine Ext.drewN ?_ _) | (with_reducible refine Ext.alloc ?_ _) | (with_reducible assumption) | ((with_reducible refine Ext.setCell ?_ ?_ _); rotate_left; (first | exact Nat.le_refl _ | ((try dsimp only); (try simp only [World.size_alloc, grow_size, World.size_setCell]); omega)))))).mono ?_; rintro e w8 ⟨rfl, hy⟩; obtain ⟨d, rfl⟩ := hy.grown; clear hy))
            go_roundw
            case rel => exact ⟨k + 1, y, n', L', by omega, by go_num, hid (HK6.out.ext (by repeat (first | (with_reducible exact Ext.refl _) | (with_reducible refine Ext.undrew ?_) | (with_reducible refine Ext.grow ?_ _) | (with_reducible refine Ext.drew ?_) | (with_reducible refine Ext.drewN ?_ _) | (with_reducible refine Ext.alloc ?_ _) | (with_reducible assumption) | ((with_reducible refine Ext.setCell ?_ ?_ _); rotate_left; (first | exact Nat.le_refl _ | ((try dsimp only); (try simp only [World.size_alloc, grow_size, World.size_setCell]); omega)))))), HI5, hid (HO6.out.ext (by repeat (first | (with_reducible exact Ext.refl _) | (with_reducible refine Ext.undrew ?_) | (with_reducible refine Ext.grow ?_ _) | (with_reducible refine Ext.drew ?_) | (with_reducible refine Ext.drewN ?_ _) | (with_reducible refine Ext.alloc ?_ _) | (with_reducible assumption) | ((with_reducible refine Ext.setCell ?_ ?_ _); rotate_left; (first | exact Nat.le_refl _ | ((try dsimp only); (try simp only [World.size_alloc, grow_size, World.size_setCell]); omega)))))), HL5, hn5⟩
            case measure => simp [intOf]; omega
      · obtain rfl : k = zs1.length := by omega
        have hk1 : ¬ (zs1.length : Int) < (zs1.length : Int) := by omega
        go_wp2
        go_ret
        exact ⟨rfl, HWW.out.trans HK.out.base⟩
  · have hli : (200 : Int) < (zs1.length : Int) := by omega
    go_enter Tryd.func4, Tryd.ntmps4
    go_upto_region 2 with (go_at_call 8; refine (head_ _ HT.out).mono ?_; rintro e W0 ⟨rfl, hxh⟩)
    have HWW : Hid (Ext w W0) := hid hxh
    go_wp2_with (go_at_call 9; refine (new_ 400 _ (by decide) (by decide)).mono ?_; rintro e w1 ⟨p, pq, rfl, hs1, hx1, hp1, hpq1⟩)
    go_ret
    exact ⟨rfl, HWW.out.trans hx1⟩
end heapSums

end Go.Proofs.YtoeiemeffiiidaaDoor
