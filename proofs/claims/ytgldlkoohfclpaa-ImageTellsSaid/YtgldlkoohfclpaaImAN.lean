/- Layer 17: the document: bytes, Put. -/
import Derived.Test.YtgldlkoohfclpaaImAI
import Derived.Test.YtgldlkoohfclpaaImP
import Derived.Test.YtgldlkoohfclpaaImT
import Derived.Test.YtgldlkoohfclpaaImN
namespace Go.Proofs.Ytgldlkoohfclpaa
set_option linter.unusedSimpArgs false
set_option linter.unusedVariables false
open Go.RowKit

theorem form_ok {x : Img} (h : formV x = true) : (1 ≤ x.heap ∧ x.heap ≤ 64 ∧ 1 ≤ x.full ∧ x.full ≤ 4096 ∧ 1 ≤ x.comps.length ∧ x.comps.length ≤ 4 ∧ x.links.length ≤ 16 ∧ x.shares.length ≤ 4) ∧ (∀ c ∈ x.comps, CmR c) ∧ (∀ l ∈ x.links, 0 ≤ l.fr ∧ l.fr ≤ 3 ∧ 0 ≤ l.to_ ∧ l.to_ ≤ 3 ∧ 0 ≤ l.at_ ∧ l.at_ ≤ 1024) ∧ (∀ s ∈ x.shares, 0 ≤ s.rd ∧ s.rd ≤ 15 ∧ 0 ≤ s.wr_ ∧ s.wr_ ≤ 15 ∧ bits .and .i64 s.wr_ s.rd = s.wr_) := by
  unfold formV at h
  rw [Bool.and_eq_true, Bool.and_eq_true, Bool.and_eq_true] at h
  obtain ⟨h0, h1, h2, h3⟩ := h
  have hn := n5_no (by simpa using h0)
  have hcm : ∀ c ∈ x.comps, CmR c := fun c hc => by
    have h4 := List.all_eq_true.1 h1 c hc
    unfold cF at h4
    simp only [Bool.and_eq_true, Bool.not_eq_true'] at h4
    have a := outB_no h4.1
    have b := outB_no h4.2.2
    exact ⟨by omega, by omega, b.1, b.2⟩
  refine ⟨hn, hcm, fun l hl => ?_, fun s hs => ?_⟩
  · obtain ⟨i, hi, rfl⟩ := List.getElem_of_mem hl
    have h4 := List.all_eq_true.1 h2 (x.links[i], i) (by rw [List.mem_zipIdx_iff_getElem?]; exact List.getElem?_eq_getElem hi)
    unfold lF at h4
    simp only [Bool.and_eq_true, Bool.not_eq_true', decide_eq_false_iff_not] at h4
    obtain ⟨a1, a2, _, a3, a4, _⟩ := h4
    have b1 := outB_no a1
    have b2 := outB_no a2
    have h6 : lenC x.comps x.links[i].to_ ≤ 4096 := by
      unfold lenC
      cases hg : x.comps[x.links[i].to_.toNat]? with
      | none => exact (by decide : (0 : Int) ≤ 4096)
      | some d => have := (hcm d (List.mem_of_getElem? hg)).2.1; show ((d.bl.length : Int)) ≤ 4096; omega
    omega
  · have h4 := List.all_eq_true.1 h3 s hs
    unfold sF at h4
    simp only [Bool.and_eq_true, Bool.not_eq_true', decide_eq_false_iff_not, beq_iff_eq] at h4
    obtain ⟨a1, a2, a3⟩ := h4
    have b1 := outB_no a1
    have h5 : (2 : Int) ^ x.comps.length - 1 ≤ 15 := by
      rcases (show x.comps.length = 1 ∨ x.comps.length = 2 ∨ x.comps.length = 3 ∨ x.comps.length = 4 by omega) with e | e | e | e <;> rw [e] <;> decide
    refine ⟨b1.1, by omega, by omega, ?_, a3⟩
    rw [← a3]
    have h5' : (BitVec.ofInt 64 s.wr_ &&& BitVec.ofInt 64 s.rd).toNat ≤ 15 := by
      rw [BitVec.toNat_and]
      refine Nat.le_trans Nat.and_le_right ?_
      rw [BitVec.toNat_ofInt]
      omega
    have h6 : IntKind.i64.wrap ((BitVec.ofInt 64 s.wr_ &&& BitVec.ofInt 64 s.rd).toNat : Int) = bits .and .i64 s.wr_ s.rd := rfl
    rw [← h6, IntKind.wrap_i64]
    omega
theorem twB_of {n a b : Int} (h0 : 0 ≤ n) (h1 : n < 65536) (ha : n.tdiv 256 = a) (hb : n.tmod 256 = b) : twB n = [a, b] := by
  rw [Int.tdiv_eq_ediv_of_nonneg h0] at ha
  rw [Int.tmod_eq_emod_of_nonneg h0] at hb
  unfold twB
  rw [← ha, ← hb, Int.emod_eq_of_lt (by omega) (by omega)]
theorem u8_id {n : Int} (h0 : 0 ≤ n) (h1 : n < 256) : IntKind.u8.wrap n = n := by
  have h : IntKind.u8.wrap n = n % 256 := by simp [IntKind.wrap, IntKind.signed, IntKind.bits]
  rw [h]; omega
theorem mod256 {n : Int} (h0 : 0 ≤ n) (h1 : n < 256) : n % 256 = n := Int.emod_eq_of_lt h0 h1
theorem HdB.row {w W W' : World} {p : Nat} {v0 v1 v2 v3 v4 v5 v v' : Value} {l l' : List Int} (H : HdB w W p v0 v1 v2 v3 v4 v5 v l) (x : Only (fun i => v.ownBlock = some i) W W') (ho : OwnY W' (p + 1) v' l') : HdB w W' p v0 v1 v2 v3 v4 v5 v' l' :=
  ⟨H.wp, Ext.only H.ew x (fun i hi => by have := (H.ow.lt _ hi).1; have := H.wp; omega), H.bx.only x (fun e => by have := (H.ow.lt _ e).1; omega), Nat.le_trans H.sz x.size, ho⟩
def byV (x : Img) : List Int := hdB x ++ x.comps.flatMap (·.bl)
attribute [local irreducible] wpStep
set_option maxRecDepth 100000 in
set_option maxHeartbeats 4000000 in
theorem rbytes_ (x : Img) (w : World) (h : ImgAt w x) (hf : formV x = true) : Calls Try.prog 34 #[.agg #[.bool x.strict, .int .i64 x.heap, .int .i64 x.full, .slice x.C x.comps.length x.cc, .slice x.L x.links.length x.lc, .slice x.S x.shares.length x.sc]] w fun e w' => ∃ A ca, e = .returned (.slice A (byV x).length ca) ∧ Hid (OwnY w' w.heap.size (.slice A (byV x).length ca) (byV x)) ∧ Hid (Ext w w') := by
  obtain ⟨⟨f1', f2', f3', f4', f5', f6', f7', f8'⟩, hcm, hlk, hsh⟩ := form_ok hf
  have HCM := hid hcm
  have HLK := hid hlk
  have HSH := hid hsh
  have HCB := hid h.cb
  obtain ⟨m, hm⟩ : ∃ y, x.comps.length = y := ⟨_, rfl⟩
  obtain ⟨ml, hml⟩ : ∃ y, x.links.length = y := ⟨_, rfl⟩
  obtain ⟨ms, hms⟩ : ∃ y, x.shares.length = y := ⟨_, rfl⟩
  obtain ⟨Ca, hCa⟩ : ∃ y, x.C = y := ⟨_, rfl⟩
  obtain ⟨La, hLa⟩ : ∃ y, x.L = y := ⟨_, rfl⟩
  obtain ⟨Sa, hSa⟩ : ∃ y, x.S = y := ⟨_, rfl⟩
  obtain ⟨xf, hxf⟩ : ∃ y, x.full = y := ⟨_, rfl⟩
  have HC := hid (show RdF Cmp.cells w Ca x.comps by rw [← hCa]; exact h.c)
  have HL := hid (show RdF Lnk.cells w La x.links by rw [← hLa]; exact h.l)
  have HS := hid (show RdF Shr.cells w Sa x.shares by rw [← hSa]; exact h.s)
  have HM := hid hm
  have HML := hid hml
  have HMS := hid hms
  rw [hm] at f5' f6'
  rw [hml] at f7'
  rw [hms] at f8'
  rw [hxf] at f3' f4'
  obtain ⟨f1, hf1⟩ : ∃ y : Int, (xf).tdiv 256 = y := ⟨_, rfl⟩
  obtain ⟨f2, hf2⟩ : ∃ y : Int, (xf).tmod 256 = y := ⟨_, rfl⟩
  have HTWf1 := hid (twB_of (n := xf) (by omega) (by omega) hf1 hf2)
  have f1b : 0 ≤ f1 ∧ f1 ≤ 16 := by rw [← hf1, Int.tdiv_eq_ediv_of_nonneg (by omega)]; omega
  have f2b : 0 ≤ f2 ∧ f2 ≤ 255 := by rw [← hf2, Int.tmod_eq_emod_of_nonneg (by omega)]; omega
  obtain ⟨f1b0, f1b1⟩ := f1b
  obtain ⟨f2b0, f2b1⟩ := f2b
  have HI0 := hid (show [83, 90, bitV x.strict, x.heap, f1, f2, (m : Int), (ml : Int), (ms : Int)] = hdI x by unfold hdI; rw [hm, hml, hms, hxf, HTWf1.out, mod256 (n := x.heap) (by omega) (by omega), mod256 (n := (m : Int)) (by omega) (by omega), mod256 (n := (ml : Int)) (by omega) (by omega), mod256 (n := (ms : Int)) (by omega) (by omega)]; rfl)
  have HV9 := hid (show hdI x ++ x.comps.flatMap cmB ++ x.links.flatMap lkBy ++ x.shares.flatMap shB = hdB x from rfl)
  rw [hm, hml, hms, hCa, hLa, hSa, hxf]
  clear hm hml hms hCa hLa hSa hxf h hf hcm hlk hsh HTWf1
  go_enter Try.func34, Try.ntmps34
  go_upto_region 1 with (fail)
  refine wp_gen (fun V => Hid (Ext w V) ∧ Row V w.heap.size 0 [.bool x.strict, .int .i64 x.heap, .int .i64 xf, .slice Ca m x.cc, .slice La ml x.lc, .slice Sa ms x.sc]) ⟨hid (by repeat (first | (with_reducible exact Ext.refl _) | (with_reducible refine Ext.undrew ?_) | (with_reducible refine Ext.grow ?_ _) | (with_reducible refine Ext.drew ?_) | (with_reducible refine Ext.drewN ?_ _) | (with_reducible refine Ext.alloc ?_ _) | (with_reducible assumption) | ((with_reducible refine Ext.setCell ?_ ?_ _); rotate_left; (first | exact Nat.le_refl _ | ((try dsimp only); (try simp only [World.size_alloc, grow_size, World.size_setCell]); omega))))), Row.new w _ _⟩ ?_
  rintro V ⟨HV, hrow⟩
  obtain ⟨p, hp⟩ : ∃ y, w.heap.size = y := ⟨_, rfl⟩
  rw [hp] at hrow
  have hpV := hrow.lt
  have q := hrow
  have ql := q.lt
  have qc0 := q.range 0 _ rfl
  have qc1 := q.range 1 _ rfl
  have qc2 := q.range 2 _ rfl
  have qc3 := q.range 3 _ rfl
  have qc4 := q.range 4 _ rfl
  have qc5 := q.range 5 _ rfl
  simp only [Nat.zero_add] at qc1 qc2 qc3 qc4 qc5
  clear q
  have HBX := hid (show BX6 V p (.bool x.strict) (.int .i64 x.heap) (.int .i64 xf) (.slice Ca m x.cc) (.slice La ml x.lc) (.slice Sa ms x.sc) from ⟨ql, qc0, qc1, qc2, qc3, qc4, qc5⟩)
  have HP := hid hp
  rw [hp]
  clear hrow hp
  have hpw : w.heap.size ≤ p := by have := HP.out; omega
  cases hst : x.strict with
  | true =>
    rw [hst] at qc0
    have HI := hid (show [83, 90, 1, x.heap, f1, f2, (m : Int), (ml : Int), (ms : Int)] = hdI x by rw [← HI0.out, hst]; rfl)
    clear HI0
    go_upto_region 4 with (fail)
    refine wp_gen (fun W => Hid (HdB w W p (.bool x.strict) (.int .i64 x.heap) (.int .i64 xf) (.slice Ca m x.cc) (.slice La ml x.lc) (.slice Sa ms x.sc) (.slice (some ⟨V.heap.size, 0, none⟩) 9 9) [83, 90, 1, x.heap, f1, f2, (m : Int), (ml : Int), (ms : Int)])) (hid ?_) ?_
    · have hxx := (Ext.refl V).alloc (.cells #[.int .u8 83, .int .u8 90, .int .u8 1, .int .u8 x.heap, .int .u8 f1, .int .u8 f2, .int .u8 (m : Int), .int .u8 (ml : Int), .int .u8 (ms : Int)] 5)
      exact ⟨by omega, HV.out.trans hxx, HBX.out.ext hxx, by rw [World.size_alloc]; omega, own_new #[.int .u8 83, .int .u8 90, .int .u8 1, .int .u8 x.heap, .int .u8 f1, .int .u8 f2, .int .u8 (m : Int), .int .u8 (ml : Int), .int .u8 (ms : Int)] _ 1 9 (by omega) rfl (by decide)⟩
    rintro W1 HDB
    clear HV HBX ql qc0 qc1 qc2 qc3 qc4 qc5
    rw [HI.out] at HDB
    clear hst
    obtain ⟨PRE1, hPRE⟩ : ∃ y, hdI x = y := ⟨_, rfl⟩
    have HPL1 := hid (show PRE1.length = 9 by rw [← hPRE]; rfl)
    have HNB1 := hid (Nat.le_refl 9)
    rw [hPRE] at HDB HV9
    clear hPRE HI
    have b3 := HDB.out.bx.c3
    have hl0 := HDB.out.bx.lt
    go_wp2
    clear b3 hl0
    go_loopw [3, 4] (fun v i wr => ∃ (k N : Nat) (A : Option Addr) (c : Nat), k ≤ m ∧ i = .int .i64 k ∧ v = .slice A N c ∧ Hid (N = 9 + 3 * k) ∧ Hid (HdB w wr p (.bool x.strict) (.int .i64 x.heap) (.int .i64 xf) (.slice Ca m x.cc) (.slice La ml x.lc) (.slice Sa ms x.sc) (.slice A N c) (PRE1 ++ (x.comps.take k).flatMap cmB))) (fun _ i _ => m - (intOf i).toNat)
    case atStart => exact ⟨0, _, _, _, Nat.zero_le _, rfl, rfl, hid (Nat.add_zero _).symm, hid (by rw [List.take_zero, List.flatMap_nil, List.append_nil]; exact HDB.out)⟩
    case round =>
      clear HDB
      obtain ⟨k, N, A, c, hk, rfl, rfl, HN, HDB⟩ := hrel
      have b3 := HDB.out.bx.c3
      have hl0 := HDB.out.bx.lt
      by_cases hlt : k < m
      · have hk1 : (k : Int) < (m : Int) := by omega
        have hk0 : (0 : Int) ≤ (k : Int) := by omega
        have hkl : k < x.comps.length := by rw [HM.out]; exact hlt
        obtain ⟨d, hd⟩ : ∃ d, x.comps[k] = d := ⟨_, rfl⟩
        have hdm : d ∈ x.comps := hd ▸ List.getElem_mem _
        have HT := hid (show (x.comps.take (k + 1)).flatMap cmB = (x.comps.take k).flatMap cmB ++ cmB d by rw [List.take_succ_eq_append_getElem hkl, hd, flat_snoc])
        have HLN := hid (show (PRE1 ++ (x.comps.take k).flatMap cmB).length = N by rw [List.length_append, flat_len _ 3 (fun _ => rfl), List.length_take, HN.out, HPL1.out]; omega)
        obtain ⟨b', o', eA, hb1, hrg⟩ := (HC.out.ext HDB.out.ew).elem cmp_len hkl d hd
        have e0 := hrg 0 _ rfl
        have e1 := hrg 1 _ rfl
        simp only [Nat.add_zero] at e0
        subst eA
        clear hd
        obtain ⟨L0, hL0⟩ : ∃ y, PRE1 ++ (x.comps.take k).flatMap cmB = y := ⟨_, rfl⟩
        rw [hL0] at HDB HLN
        have HL0 := hid hL0
        clear hL0
        obtain ⟨c1, c2, c3, c4⟩ := HCM.out d hdm
        obtain ⟨dl, hdl⟩ : ∃ y, d.bl.length = y := ⟨_, rfl⟩
        have HDL := hid hdl
        rw [hdl] at e0 c1 c2
        clear hrg hdl hdm
        obtain ⟨q1, hq1⟩ : ∃ y : Int, ((dl : Int)).tdiv 256 = y := ⟨_, rfl⟩
        obtain ⟨q2, hq2⟩ : ∃ y : Int, ((dl : Int)).tmod 256 = y := ⟨_, rfl⟩
        have HTWq1 := hid (twB_of (n := (dl : Int)) (by omega) (by omega) hq1 hq2)
        have q1b : 0 ≤ q1 ∧ q1 ≤ 16 := by rw [← hq1, Int.tdiv_eq_ediv_of_nonneg (by omega)]; omega
        have q2b : 0 ≤ q2 ∧ q2 ≤ 255 := by rw [← hq2, Int.tmod_eq_emod_of_nonneg (by omega)]; omega
        obtain ⟨q1b0, q1b1⟩ := q1b
        obtain ⟨q2b0, q2b1⟩ := q2b
        have HBY := hid (show cmB d = [q1, q2, d.data] by unfold cmB; rw [HDL.out, HTWq1.out, mod256 (by omega) (by omega)]; rfl)
        go_upto_region 6 with (at_builtin; refine wpList_plain rfl fun K hK => ?_; go_loud (refine wp_app_hd (HDB.out.ext ((Ext.refl _).alloc _)) HLN.out (.tmp 52) (.tmp 66) rfl rfl _ 3 _ [q1, q2, d.data] rfl (by rfl) (RdF.row0 (Row.new wr #[.int .u8 (q1), .int .u8 (q2), .int .u8 (d.data)] _)) (by have := HN.out; have := HNB1.out; omega) ?_); intro A6 c6 w6 hd6 hk6; refine hK _ _ ?_; clear hK K)
        replace HDB := hid hd6
        clear hd6 hk6
        go_wp2
        go_roundw
        case rel => exact ⟨k + 1, _, _, _, by omega, by go_num, rfl, hid (by have := HN.out; omega), hid (by rw [HT.out, ← List.append_assoc, HL0.out, HBY.out]; exact HDB.out)⟩
        case measure => simp [intOf]; omega
      · obtain rfl : m = k := by omega
        have hk1 : ¬ (m : Int) < (m : Int) := by omega
        have HLN := hid (show (PRE1 ++ (x.comps.take m).flatMap cmB).length = N by rw [List.length_append, flat_len _ 3 (fun _ => rfl), List.length_take, HN.out, HPL1.out, HM.out]; omega)
        rw [show x.comps.take m = x.comps from List.take_of_length_le (by rw [HM.out]; exact Nat.le_refl _)] at HDB HLN
        have HNN := hid (show N ≤ 4000 by have := HN.out; have := HNB1.out; omega)
        obtain ⟨PRE2, hPRE⟩ : ∃ y, PRE1 ++ x.comps.flatMap cmB = y := ⟨_, rfl⟩
        obtain ⟨NP2, hNP⟩ : ∃ y, N = y := ⟨_, rfl⟩
        rw [hPRE] at HDB HLN
        rw [hNP] at HDB HLN HNN ⊢
        have HPR2 := hid hPRE
        have HPL2 := HLN
        have HNB2 := HNN
        clear hPRE hNP HLN HNN HN
        have b4 := HDB.out.bx.c4
        have hl0 := HDB.out.bx.lt
        go_wp2
        clear b4 hl0 b3 hk1
        go_loopw [3, 6] (fun v i wr => ∃ (k N : Nat) (A : Option Addr) (c : Nat), k ≤ ml ∧ i = .int .i64 k ∧ v = .slice A N c ∧ Hid (N = NP2 + 4 * k) ∧ Hid (HdB w wr p (.bool x.strict) (.int .i64 x.heap) (.int .i64 xf) (.slice Ca m x.cc) (.slice La ml x.lc) (.slice Sa ms x.sc) (.slice A N c) (PRE2 ++ (x.links.take k).flatMap lkBy))) (fun _ i _ => ml - (intOf i).toNat)
        case atStart => exact ⟨0, _, _, _, Nat.zero_le _, rfl, rfl, hid (Nat.add_zero _).symm, hid (by rw [List.take_zero, List.flatMap_nil, List.append_nil]; exact HDB.out)⟩
        case round =>
          clear HDB
          obtain ⟨k, N, A, c, hk, rfl, rfl, HN, HDB⟩ := hrel
          have b4 := HDB.out.bx.c4
          have hl0 := HDB.out.bx.lt
          by_cases hlt : k < ml
          · have hk1 : (k : Int) < (ml : Int) := by omega
            have hk0 : (0 : Int) ≤ (k : Int) := by omega
            have hkl : k < x.links.length := by rw [HML.out]; exact hlt
            obtain ⟨d, hd⟩ : ∃ d, x.links[k] = d := ⟨_, rfl⟩
            have hdm : d ∈ x.links := hd ▸ List.getElem_mem _
            have HT := hid (show (x.links.take (k + 1)).flatMap lkBy = (x.links.take k).flatMap lkBy ++ lkBy d by rw [List.take_succ_eq_append_getElem hkl, hd, flat_snoc])
            have HLN := hid (show (PRE2 ++ (x.links.take k).flatMap lkBy).length = N by rw [List.length_append, flat_len _ 4 (fun _ => rfl), List.length_take, HN.out, HPL2.out]; omega)
            obtain ⟨b', o', eA, hb1, hrg⟩ := (HL.out.ext HDB.out.ew).elem lnk_len hkl d hd
            have e0 := hrg 0 _ rfl
            have e1 := hrg 1 _ rfl
            have e2 := hrg 2 _ rfl
            simp only [Nat.add_zero] at e0
            subst eA
            clear hd
            obtain ⟨L0, hL0⟩ : ∃ y, PRE2 ++ (x.links.take k).flatMap lkBy = y := ⟨_, rfl⟩
            rw [hL0] at HDB HLN
            have HL0 := hid hL0
            clear hL0
            obtain ⟨c1, c2, c3, c4, c5, c6'⟩ := HLK.out d hdm
            clear hrg hdm
            go_upto_region 13 with (fail)
            refine wp_gen (fun W => Hid (HdB w W p (.bool x.strict) (.int .i64 x.heap) (.int .i64 xf) (.slice Ca m x.cc) (.slice (some ⟨b', o', none⟩) ml x.lc) (.slice Sa ms x.sc) (.slice A N c) L0) ∧ Hid (Row W wr.heap.size 0 [.int .i64 d.fr, .int .i64 d.to_, .int .i64 d.at_])) ⟨hid (HDB.out.ext ((Ext.refl _).alloc _)), hid (Row.new wr _ _)⟩ ?_
            clear HDB e0 e1 e2 b4 hl0 hb1
            rintro W1 ⟨HDB, HG⟩
            obtain ⟨g, hg⟩ : ∃ y, wr.heap.size = y := ⟨_, rfl⟩
            rw [hg] at HG ⊢
            clear hg
            have r := HG.out
            have rl := r.lt
            have rc0 := r.range 0 _ rfl
            have rc1 := r.range 1 _ rfl
            have rc2 := r.range 2 _ rfl
            simp only [Nat.zero_add] at rc1 rc2
            clear r
            obtain ⟨q1, hq1⟩ : ∃ y : Int, (d.at_).tdiv 256 = y := ⟨_, rfl⟩
            obtain ⟨q2, hq2⟩ : ∃ y : Int, (d.at_).tmod 256 = y := ⟨_, rfl⟩
            have HTWq1 := hid (twB_of (n := d.at_) (by omega) (by omega) hq1 hq2)
            have q1b : 0 ≤ q1 ∧ q1 ≤ 16 := by rw [← hq1, Int.tdiv_eq_ediv_of_nonneg (by omega)]; omega
            have q2b : 0 ≤ q2 ∧ q2 ≤ 255 := by rw [← hq2, Int.tmod_eq_emod_of_nonneg (by omega)]; omega
            obtain ⟨q1b0, q1b1⟩ := q1b
            obtain ⟨q2b0, q2b1⟩ := q2b
            have HBY := hid (show lkBy d = [d.fr, d.to_, q1, q2] by unfold lkBy; rw [HTWq1.out, mod256 (n := d.fr) (by omega) (by omega), mod256 (n := d.to_) (by omega) (by omega)]; rfl)
            go_upto_region 11 with (at_builtin; refine wpList_plain rfl fun K hK => ?_; go_loud (refine wp_app_hd (HDB.out.ext ((Ext.refl _).alloc _)) HLN.out (.tmp 80) (.tmp 95) rfl rfl _ 4 _ [d.fr, d.to_, q1, q2] rfl (by rfl) (RdF.row0 (Row.new W1 #[.int .u8 (d.fr), .int .u8 (d.to_), .int .u8 (q1), .int .u8 (q2)] _)) (by have := HN.out; have := HNB2.out; omega) ?_); intro A6 c6 w6 hd6 hk6; refine hK _ _ ?_; clear hK K)
            replace HDB := hid hd6
            clear hd6 hk6
            go_wp2
            go_roundw
            case rel => exact ⟨k + 1, _, _, _, by omega, by go_num, rfl, hid (by have := HN.out; omega), hid (by rw [HT.out, ← List.append_assoc, HL0.out, HBY.out]; exact HDB.out)⟩
            case measure => simp [intOf]; omega
          · obtain rfl : ml = k := by omega
            have hk1 : ¬ (ml : Int) < (ml : Int) := by omega
            have HLN := hid (show (PRE2 ++ (x.links.take ml).flatMap lkBy).length = N by rw [List.length_append, flat_len _ 4 (fun _ => rfl), List.length_take, HN.out, HPL2.out, HML.out]; omega)
            rw [show x.links.take ml = x.links from List.take_of_length_le (by rw [HML.out]; exact Nat.le_refl _)] at HDB HLN
            have HNN := hid (show N ≤ 9000 by have := HN.out; have := HNB2.out; omega)
            obtain ⟨PRE3, hPRE⟩ : ∃ y, PRE2 ++ x.links.flatMap lkBy = y := ⟨_, rfl⟩
            obtain ⟨NP3, hNP⟩ : ∃ y, N = y := ⟨_, rfl⟩
            rw [hPRE] at HDB HLN
            rw [hNP] at HDB HLN HNN ⊢
            have HPR3 := hid hPRE
            have HPL3 := HLN
            have HNB3 := HNN
            clear hPRE hNP HLN HNN HN
            have b5 := HDB.out.bx.c5
            have hl0 := HDB.out.bx.lt
            go_wp2
            clear b5 hl0 b4 hk1
            go_loopw [3, 8] (fun v i wr => ∃ (k N : Nat) (A : Option Addr) (c : Nat), k ≤ ms ∧ i = .int .i64 k ∧ v = .slice A N c ∧ Hid (N = NP3 + 2 * k) ∧ Hid (HdB w wr p (.bool x.strict) (.int .i64 x.heap) (.int .i64 xf) (.slice Ca m x.cc) (.slice La ml x.lc) (.slice Sa ms x.sc) (.slice A N c) (PRE3 ++ (x.shares.take k).flatMap shB))) (fun _ i _ => ms - (intOf i).toNat)
            case atStart => exact ⟨0, _, _, _, Nat.zero_le _, rfl, rfl, hid (Nat.add_zero _).symm, hid (by rw [List.take_zero, List.flatMap_nil, List.append_nil]; exact HDB.out)⟩
            case round =>
              clear HDB
              obtain ⟨k, N, A, c, hk, rfl, rfl, HN, HDB⟩ := hrel
              have b5 := HDB.out.bx.c5
              have hl0 := HDB.out.bx.lt
              by_cases hlt : k < ms
              · have hk1 : (k : Int) < (ms : Int) := by omega
                have hk0 : (0 : Int) ≤ (k : Int) := by omega
                have hkl : k < x.shares.length := by rw [HMS.out]; exact hlt
                obtain ⟨d, hd⟩ : ∃ d, x.shares[k] = d := ⟨_, rfl⟩
                have hdm : d ∈ x.shares := hd ▸ List.getElem_mem _
                have HT := hid (show (x.shares.take (k + 1)).flatMap shB = (x.shares.take k).flatMap shB ++ shB d by rw [List.take_succ_eq_append_getElem hkl, hd, flat_snoc])
                have HLN := hid (show (PRE3 ++ (x.shares.take k).flatMap shB).length = N by rw [List.length_append, flat_len _ 2 (fun _ => rfl), List.length_take, HN.out, HPL3.out]; omega)
                obtain ⟨b', o', eA, hb1, hrg⟩ := (HS.out.ext HDB.out.ew).elem shr_len hkl d hd
                have e0 := hrg 0 _ rfl
                have e1 := hrg 1 _ rfl
                simp only [Nat.add_zero] at e0
                subst eA
                clear hd
                obtain ⟨L0, hL0⟩ : ∃ y, PRE3 ++ (x.shares.take k).flatMap shB = y := ⟨_, rfl⟩
                rw [hL0] at HDB HLN
                have HL0 := hid hL0
                clear hL0
                have hv0 := e0
                have hv1 := e1
                obtain ⟨c1, c2, c3, c4, _⟩ := HSH.out d hdm
                have HBY := hid (show shB d = [d.rd, d.wr_] by unfold shB; rw [mod256 (n := d.rd) (by omega) (by omega), mod256 (n := d.wr_) (by omega) (by omega)])
                clear hrg hdm e0 e1
                go_upto_region 17 with (fail)
                refine wp_region_only (S := (fun i => (Value.slice A N c).ownBlock = some i)) (.rd 0 (.rd 1 (.rd 2 (.rd 3 (.rd 4 (.rd 5 (.rd 6 (.rd 7 (.rd 8 (.rd 9 (.rd 10 (.rd 11 (.rd 12 (.rd 13 (.rd 14 (.ac 15 (.ac 16 (.rd 17 .done)))))))))))))))))) (by kernel_rfl) (by kernel_rfl) (fun _ _ d _ _ h => by cases d <;> exact h) (by simp only [Ord.map, nthOp, List.append]; rfl) ?_
                intro d1
                have HDB5 := hid (HDB.out.ext (Ext.grow (Ext.refl wr) d1))
                have hbs5 := Nat.lt_of_lt_of_le hb1 (Ext.grow (Ext.refl wr) d1).size
                replace hv0 := ((Ext.grow (Ext.refl wr) d1).cells _ _ hb1).trans hv0
                replace hv1 := ((Ext.grow (Ext.refl wr) d1).cells _ _ hb1).trans hv1
                have HB1W := hid (show b' < w.heap.size by
                  obtain ⟨b9, o9, e9, hb9, _⟩ := HS.out (show 0 < x.shares.length by omega)
                  cases e9
                  exact hb9)
                generalize Go.Proofs.Ytgldlkoohfclpaa.grow wr d1 = W5 at HDB5 hbs5 hv0 hv1 ⊢
                have hp5 := HDB5.out.bx.c5
                have hpl5 := HDB5.out.bx.lt
                have HNX := hid (show ¬ (Value.slice A N c).ownBlock = some p from fun e => by have := (HDB5.out.ow.lt _ e).1; omega)
                have HNS := hid (show ¬ (Value.slice A N c).ownBlock = some b' from fun e => by have := (HDB5.out.ow.lt _ e).1; have := HB1W.out; have := HDB5.out.wp; omega)
                have HS0 := hid (Only.refl (fun i => (Value.slice A N c).ownBlock = some i) W5)
                have HE0 := hid (Ext.refl W5)
                refine only_read (by rfl) (fun K hK => ?_)
                go_big_quiet_op
                refine hK _ ?_
                clear hK K
                refine only_read (by rfl) (fun K hK => ?_)
                refine quiet_runD 105 rfl (.pointer (some ⟨p, 5, none⟩)) (fun w => by kernel_rfl) ?_
                refine hK _ ?_
                clear hK K
                simp only [Act.put, List.setIfInBounds_toArray, List.set_cons_zero, List.set_cons_succ]
                refine only_read (by rfl) (fun K hK => ?_)
                refine quiet_load1 24 (.tmp 105) rfl (p) (5) rfl (.slice (some ⟨b', o', none⟩) ms x.sc) _ (fun w' hw' => (hw'.cells p 5 hpl5 HNX.out).trans hp5) Try.underlying24 rfl ?_
                refine hK _ ?_
                clear hK K
                simp only [Act.put, List.setIfInBounds_toArray, List.set_cons_zero, List.set_cons_succ]
                refine only_read (by rfl) (fun K hK => ?_)
                go_big_quiet_op
                refine hK _ ?_
                clear hK K
                refine only_read (by rfl) (fun K hK => ?_)
                refine quiet_runD 108 rfl (.pointer (some ⟨b', o' + k * 2, none⟩)) (fun w => by go_simp) ?_
                refine hK _ ?_
                clear hK K
                simp only [Act.put, List.setIfInBounds_toArray, List.set_cons_zero, List.set_cons_succ]
                refine only_read (by rfl) (fun K hK => ?_)
                refine quiet_runD 109 rfl (.pointer (some ⟨b', o' + k * 2, none⟩)) (fun w => by go_simp) ?_
                refine hK _ ?_
                clear hK K
                simp only [Act.put, List.setIfInBounds_toArray, List.set_cons_zero, List.set_cons_succ]
                refine only_read (by rfl) (fun K hK => ?_)
                refine quiet_load1 3 (.tmp 109) rfl (b') (o' + k * 2) rfl (.int .i64 d.rd) _ (fun w' hw' => (hw'.cells b' _ hbs5 HNS.out).trans hv0) Try.underlying3 rfl ?_
                refine hK _ ?_
                clear hK K
                simp only [Act.put, List.setIfInBounds_toArray, List.set_cons_zero, List.set_cons_succ]
                refine only_read (by rfl) (fun K hK => ?_)
                refine quiet_runD 111 rfl (.int .u8 d.rd) (fun w => by go_simp; exact u8_id c1 (by omega)) ?_
                refine hK _ ?_
                clear hK K
                simp only [Act.put, List.setIfInBounds_toArray, List.set_cons_zero, List.set_cons_succ]
                refine only_read (by rfl) (fun K hK => ?_)
                refine quiet_runD 112 rfl (.pointer (some ⟨p, 5, none⟩)) (fun w => by kernel_rfl) ?_
                refine hK _ ?_
                clear hK K
                simp only [Act.put, List.setIfInBounds_toArray, List.set_cons_zero, List.set_cons_succ]
                refine only_read (by rfl) (fun K hK => ?_)
                refine quiet_load1 24 (.tmp 112) rfl (p) (5) rfl (.slice (some ⟨b', o', none⟩) ms x.sc) _ (fun w' hw' => (hw'.cells p 5 hpl5 HNX.out).trans hp5) Try.underlying24 rfl ?_
                refine hK _ ?_
                clear hK K
                simp only [Act.put, List.setIfInBounds_toArray, List.set_cons_zero, List.set_cons_succ]
                refine only_read (by rfl) (fun K hK => ?_)
                go_big_quiet_op
                refine hK _ ?_
                clear hK K
                refine only_read (by rfl) (fun K hK => ?_)
                refine quiet_runD 115 rfl (.pointer (some ⟨b', o' + k * 2, none⟩)) (fun w => by go_simp) ?_
                refine hK _ ?_
                clear hK K
                simp only [Act.put, List.setIfInBounds_toArray, List.set_cons_zero, List.set_cons_succ]
                refine only_read (by rfl) (fun K hK => ?_)
                refine quiet_runD 116 rfl (.pointer (some ⟨b', o' + k * 2 + 1, none⟩)) (fun w => by go_simp) ?_
                refine hK _ ?_
                clear hK K
                simp only [Act.put, List.setIfInBounds_toArray, List.set_cons_zero, List.set_cons_succ]
                refine only_read (by rfl) (fun K hK => ?_)
                refine quiet_load1 3 (.tmp 116) rfl (b') (o' + k * 2 + 1) rfl (.int .i64 d.wr_) _ (fun w' hw' => (hw'.cells b' _ hbs5 HNS.out).trans hv1) Try.underlying3 rfl ?_
                refine hK _ ?_
                clear hK K
                simp only [Act.put, List.setIfInBounds_toArray, List.set_cons_zero, List.set_cons_succ]
                refine only_read (by rfl) (fun K hK => ?_)
                refine quiet_runD 118 rfl (.int .u8 d.wr_) (fun w => by go_simp; exact u8_id c3 (by omega)) ?_
                refine hK _ ?_
                clear hK K
                simp only [Act.put, List.setIfInBounds_toArray, List.set_cons_zero, List.set_cons_succ]
                refine only_act (by rfl) (fun K hK => ?_)
                go_wp2_with fail
                refine ⟨_, Only.refl _ _, Only.alloc HS0.out _, ?_⟩
                refine only_gen (fun W => Hid (Ext W5 W) ∧ Hid (Row W W5.heap.size 0 [.int .u8 (d.rd), .int .u8 (d.wr_)])) ⟨hid ((Ext.refl _).alloc _), hid (Row.new W5 _ _)⟩ ?_
                rintro V1 ⟨hE1, hR1⟩
                have HS1 := hid (HS0.out.transExt hE1.out)
                have HE1 := hid (HE0.out.trans hE1.out)
                refine only_act (by rfl) (fun K hK => ?_)
                refine wp_app_row by_len (by decide) by_one Try.underlying27 info_by (.tmp 104) (.tmp 119) rfl (p + 1) (.slice A N c) N (rowF byF L0) rfl (show ownsAt V1 (p + 1) 5 1 (.slice A N c) N (rowF byF L0) by have h9 := (HDB5.out.ext HE1.out).ow; unfold OwnY at h9; rwa [HLN.out] at h9) (some ⟨W5.heap.size, 0, none⟩) 2 2 [d.rd, d.wr_] rfl rfl (RdF.row0 (zs := [d.rd, d.wr_]) hR1.out) (by have := HN.out; have := HNB3.out; unfold maxLen; omega) (by have := HN.out; have := HNB3.out; omega) (HDB5.out.ext HE1.out).sz ?_
                intro v6 w6 hown6 hgrow hat
                obtain ⟨A6, c6, hv6, _, _⟩ := hown6.shape
                subst hv6
                have HT6 : Hid (Only (fun i => (Value.slice A N c).ownBlock = some i) V1 w6) := hid (grownOnly hgrow fun g hg => hg)
                have HS6 := hid (Only.trans' HS1.out HT6.out)
                replace HDB := hid ((HDB5.out.ext HE1.out).row HT6.out (v' := .slice A6 (N + 2) c6) (l' := L0 ++ [d.rd, d.wr_]) (by unfold OwnY; rw [rowF_append, List.length_append, HLN.out]; exact hown6))
                refine hK _ _ ⟨_, Only.refl _ _, HS6.out, ?_⟩
                clear hK K hgrow hat hown6
                simp only [Act.put, List.setIfInBounds_toArray, List.set_cons_zero, List.set_cons_succ]
                refine only_read (by rfl) (fun K hK => ?_)
                go_big_quiet_op
                refine hK _ ?_
                clear hK K
                refine only_nil ?_
                go_wp2
                go_roundw
                case rel => exact ⟨k + 1, _, _, _, by omega, by go_num, rfl, hid (by have := HN.out; omega), hid (by rw [HT.out, ← List.append_assoc, HL0.out, HBY.out]; exact HDB.out)⟩
                case measure => simp [intOf]; omega
              · obtain rfl : ms = k := by omega
                have hk1 : ¬ (ms : Int) < (ms : Int) := by omega
                have HLN := hid (show (PRE3 ++ (x.shares.take ms).flatMap shB).length = N by rw [List.length_append, flat_len _ 2 (fun _ => rfl), List.length_take, HN.out, HPL3.out, HMS.out]; omega)
                rw [show x.shares.take ms = x.shares from List.take_of_length_le (by rw [HMS.out]; exact Nat.le_refl _)] at HDB HLN
                have HNN := hid (show N ≤ 12000 by have := HN.out; have := HNB3.out; omega)
                obtain ⟨PRE4, hPRE⟩ : ∃ y, PRE3 ++ x.shares.flatMap shB = y := ⟨_, rfl⟩
                obtain ⟨NP4, hNP⟩ : ∃ y, N = y := ⟨_, rfl⟩
                rw [hPRE] at HDB HLN
                rw [hNP] at HDB HLN HNN ⊢
                have HPR4 := hid hPRE
                have HPL4 := HLN
                have HNB4 := HNN
                clear hPRE hNP HLN HNN HN
                have b3 := HDB.out.bx.c3
                have hl0 := HDB.out.bx.lt
                go_wp2
                clear b3 hl0 b5 hk1
                go_loopw [3, 9] (fun v i wr => ∃ (k N : Nat) (A : Option Addr) (c : Nat), k ≤ m ∧ i = .int .i64 k ∧ v = .slice A N c ∧ Hid (N ≤ NP4 + 4096 * k) ∧ Hid ((PRE4 ++ (x.comps.take k).flatMap (·.bl)).length = N) ∧ Hid (HdB w wr p (.bool x.strict) (.int .i64 x.heap) (.int .i64 xf) (.slice Ca m x.cc) (.slice La ml x.lc) (.slice Sa ms x.sc) (.slice A N c) (PRE4 ++ (x.comps.take k).flatMap (·.bl)))) (fun _ i _ => m - (intOf i).toNat)
                case atStart => exact ⟨0, _, _, _, Nat.zero_le _, rfl, rfl, hid (Nat.le_add_right _ _), hid (by rw [List.take_zero, List.flatMap_nil, List.append_nil]; exact HPL4.out), hid (by rw [List.take_zero, List.flatMap_nil, List.append_nil]; exact HDB.out)⟩
                case round =>
                  clear HDB
                  obtain ⟨k, N, A, c, hk, rfl, rfl, HN, HLN, HDB⟩ := hrel
                  have b3 := HDB.out.bx.c3
                  have hl0 := HDB.out.bx.lt
                  by_cases hlt : k < m
                  · have hk1 : (k : Int) < (m : Int) := by omega
                    have hk0 : (0 : Int) ≤ (k : Int) := by omega
                    have hkl : k < x.comps.length := by rw [HM.out]; exact hlt
                    obtain ⟨d, hd⟩ : ∃ d, x.comps[k] = d := ⟨_, rfl⟩
                    have hdm : d ∈ x.comps := hd ▸ List.getElem_mem _
                    have HT := hid (show (x.comps.take (k + 1)).flatMap (·.bl) = (x.comps.take k).flatMap (·.bl) ++ d.bl by rw [List.take_succ_eq_append_getElem hkl, hd, flat_snoc])
                    obtain ⟨b', o', eA, hb1, hrg⟩ := (HC.out.ext HDB.out.ew).elem cmp_len hkl d hd
                    have HDR := hid (rdB_by (HCB.out d hdm).1)
                    have HD4 := hid (HCM.out d hdm).2.1
                    have e0 := hrg 0 _ rfl
                    simp only [Nat.add_zero] at e0
                    subst eA
                    clear hrg hd hdm
                    obtain ⟨L0, hL0⟩ : ∃ y, PRE4 ++ (x.comps.take k).flatMap (·.bl) = y := ⟨_, rfl⟩
                    rw [hL0] at HDB HLN
                    have HL0 := hid hL0
                    clear hL0
                    obtain ⟨dl, hdl⟩ : ∃ y, d.bl.length = y := ⟨_, rfl⟩
                    rw [hdl] at e0 HD4
                    have HDL := hid hdl
                    clear hdl
                    go_upto_region 20 with (at_builtin; refine wpList_plain rfl fun K hK => ?_; go_loud (refine wp_app_hd HDB.out HLN.out (.tmp 128) (.tmp 134) rfl rfl _ dl _ d.bl rfl HDL.out (HDR.out.ext HDB.out.ew) (by have := HN.out; have := HNB4.out; have := HD4.out; omega) ?_); intro A6 c6 w6 hd6 hk6; refine hK _ _ ?_; clear hK K)
                    replace HDB := hid hd6
                    clear hd6 hk6
                    go_wp2
                    go_roundw
                    case rel => exact ⟨k + 1, _, _, _, by omega, by go_num, rfl, hid (by have := HN.out; have := HD4.out; omega), hid (by rw [HT.out, ← List.append_assoc, HL0.out, List.length_append, HLN.out, HDL.out]), hid (by rw [HT.out, ← List.append_assoc, HL0.out]; exact HDB.out)⟩
                    case measure => simp [intOf]; omega
                  · obtain rfl : k = m := by omega
                    have hk1 : ¬ (k : Int) < (k : Int) := by omega
                    have HEQ := hid (show PRE4 ++ x.comps.flatMap (·.bl) = byV x by unfold byV; rw [← HPR4.out, ← HPR3.out, ← HPR2.out, HV9.out])
                    rw [show x.comps.take k = x.comps from List.take_of_length_le (by rw [HM.out]; exact Nat.le_refl _), HEQ.out] at HDB HLN
                    go_wp2
                    go_ret
                    exact ⟨A, c, by rw [HLN.out]; rfl, hid (by rw [HLN.out]; exact HDB.out.ow.lower (by have := HDB.out.wp; omega)), hid HDB.out.ew⟩
  | false =>
    rw [hst] at qc0
    have HI := hid (show [83, 90, 0, x.heap, f1, f2, (m : Int), (ml : Int), (ms : Int)] = hdI x by rw [← HI0.out, hst]; rfl)
    clear HI0
    go_upto_region 4 with (fail)
    refine wp_gen (fun W => Hid (HdB w W p (.bool x.strict) (.int .i64 x.heap) (.int .i64 xf) (.slice Ca m x.cc) (.slice La ml x.lc) (.slice Sa ms x.sc) (.slice (some ⟨V.heap.size, 0, none⟩) 9 9) [83, 90, 0, x.heap, f1, f2, (m : Int), (ml : Int), (ms : Int)])) (hid ?_) ?_
    · have hxx := (Ext.refl V).alloc (.cells #[.int .u8 83, .int .u8 90, .int .u8 0, .int .u8 x.heap, .int .u8 f1, .int .u8 f2, .int .u8 (m : Int), .int .u8 (ml : Int), .int .u8 (ms : Int)] 5)
      exact ⟨by omega, HV.out.trans hxx, HBX.out.ext hxx, by rw [World.size_alloc]; omega, own_new #[.int .u8 83, .int .u8 90, .int .u8 0, .int .u8 x.heap, .int .u8 f1, .int .u8 f2, .int .u8 (m : Int), .int .u8 (ml : Int), .int .u8 (ms : Int)] _ 1 9 (by omega) rfl (by decide)⟩
    rintro W1 HDB
    clear HV HBX ql qc0 qc1 qc2 qc3 qc4 qc5
    rw [HI.out] at HDB
    clear hst
    obtain ⟨PRE1, hPRE⟩ : ∃ y, hdI x = y := ⟨_, rfl⟩
    have HPL1 := hid (show PRE1.length = 9 by rw [← hPRE]; rfl)
    have HNB1 := hid (Nat.le_refl 9)
    rw [hPRE] at HDB HV9
    clear hPRE HI
    have b3 := HDB.out.bx.c3
    have hl0 := HDB.out.bx.lt
    go_wp2
    clear b3 hl0
    go_loopw [3, 4] (fun v i wr => ∃ (k N : Nat) (A : Option Addr) (c : Nat), k ≤ m ∧ i = .int .i64 k ∧ v = .slice A N c ∧ Hid (N = 9 + 3 * k) ∧ Hid (HdB w wr p (.bool x.strict) (.int .i64 x.heap) (.int .i64 xf) (.slice Ca m x.cc) (.slice La ml x.lc) (.slice Sa ms x.sc) (.slice A N c) (PRE1 ++ (x.comps.take k).flatMap cmB))) (fun _ i _ => m - (intOf i).toNat)
    case atStart => exact ⟨0, _, _, _, Nat.zero_le _, rfl, rfl, hid (Nat.add_zero _).symm, hid (by rw [List.take_zero, List.flatMap_nil, List.append_nil]; exact HDB.out)⟩
    case round =>
      clear HDB
      obtain ⟨k, N, A, c, hk, rfl, rfl, HN, HDB⟩ := hrel
      have b3 := HDB.out.bx.c3
      have hl0 := HDB.out.bx.lt
      by_cases hlt : k < m
      · have hk1 : (k : Int) < (m : Int) := by omega
        have hk0 : (0 : Int) ≤ (k : Int) := by omega
        have hkl : k < x.comps.length := by rw [HM.out]; exact hlt
        obtain ⟨d, hd⟩ : ∃ d, x.comps[k] = d := ⟨_, rfl⟩
        have hdm : d ∈ x.comps := hd ▸ List.getElem_mem _
        have HT := hid (show (x.comps.take (k + 1)).flatMap cmB = (x.comps.take k).flatMap cmB ++ cmB d by rw [List.take_succ_eq_append_getElem hkl, hd, flat_snoc])
        have HLN := hid (show (PRE1 ++ (x.comps.take k).flatMap cmB).length = N by rw [List.length_append, flat_len _ 3 (fun _ => rfl), List.length_take, HN.out, HPL1.out]; omega)
        obtain ⟨b', o', eA, hb1, hrg⟩ := (HC.out.ext HDB.out.ew).elem cmp_len hkl d hd
        have e0 := hrg 0 _ rfl
        have e1 := hrg 1 _ rfl
        simp only [Nat.add_zero] at e0
        subst eA
        clear hd
        obtain ⟨L0, hL0⟩ : ∃ y, PRE1 ++ (x.comps.take k).flatMap cmB = y := ⟨_, rfl⟩
        rw [hL0] at HDB HLN
        have HL0 := hid hL0
        clear hL0
        obtain ⟨c1, c2, c3, c4⟩ := HCM.out d hdm
        obtain ⟨dl, hdl⟩ : ∃ y, d.bl.length = y := ⟨_, rfl⟩
        have HDL := hid hdl
        rw [hdl] at e0 c1 c2
        clear hrg hdl hdm
        obtain ⟨q1, hq1⟩ : ∃ y : Int, ((dl : Int)).tdiv 256 = y := ⟨_, rfl⟩
        obtain ⟨q2, hq2⟩ : ∃ y : Int, ((dl : Int)).tmod 256 = y := ⟨_, rfl⟩
        have HTWq1 := hid (twB_of (n := (dl : Int)) (by omega) (by omega) hq1 hq2)
        have q1b : 0 ≤ q1 ∧ q1 ≤ 16 := by rw [← hq1, Int.tdiv_eq_ediv_of_nonneg (by omega)]; omega
        have q2b : 0 ≤ q2 ∧ q2 ≤ 255 := by rw [← hq2, Int.tmod_eq_emod_of_nonneg (by omega)]; omega
        obtain ⟨q1b0, q1b1⟩ := q1b
        obtain ⟨q2b0, q2b1⟩ := q2b
        have HBY := hid (show cmB d = [q1, q2, d.data] by unfold cmB; rw [HDL.out, HTWq1.out, mod256 (by omega) (by omega)]; rfl)
        go_upto_region 6 with (at_builtin; refine wpList_plain rfl fun K hK => ?_; go_loud (refine wp_app_hd (HDB.out.ext ((Ext.refl _).alloc _)) HLN.out (.tmp 52) (.tmp 66) rfl rfl _ 3 _ [q1, q2, d.data] rfl (by rfl) (RdF.row0 (Row.new wr #[.int .u8 (q1), .int .u8 (q2), .int .u8 (d.data)] _)) (by have := HN.out; have := HNB1.out; omega) ?_); intro A6 c6 w6 hd6 hk6; refine hK _ _ ?_; clear hK K)
        replace HDB := hid hd6
        clear hd6 hk6
        go_wp2
        go_roundw
        case rel => exact ⟨k + 1, _, _, _, by omega, by go_num, rfl, hid (by have := HN.out; omega), hid (by rw [HT.out, ← List.append_assoc, HL0.out, HBY.out]; exact HDB.out)⟩
        case measure => simp [intOf]; omega
      · obtain rfl : m = k := by omega
        have hk1 : ¬ (m : Int) < (m : Int) := by omega
        have HLN := hid (show (PRE1 ++ (x.comps.take m).flatMap cmB).length = N by rw [List.length_append, flat_len _ 3 (fun _ => rfl), List.length_take, HN.out, HPL1.out, HM.out]; omega)
        rw [show x.comps.take m = x.comps from List.take_of_length_le (by rw [HM.out]; exact Nat.le_refl _)] at HDB HLN
        have HNN := hid (show N ≤ 4000 by have := HN.out; have := HNB1.out; omega)
        obtain ⟨PRE2, hPRE⟩ : ∃ y, PRE1 ++ x.comps.flatMap cmB = y := ⟨_, rfl⟩
        obtain ⟨NP2, hNP⟩ : ∃ y, N = y := ⟨_, rfl⟩
        rw [hPRE] at HDB HLN
        rw [hNP] at HDB HLN HNN ⊢
        have HPR2 := hid hPRE
        have HPL2 := HLN
        have HNB2 := HNN
        clear hPRE hNP HLN HNN HN
        have b4 := HDB.out.bx.c4
        have hl0 := HDB.out.bx.lt
        go_wp2
        clear b4 hl0 b3 hk1
        go_loopw [3, 6] (fun v i wr => ∃ (k N : Nat) (A : Option Addr) (c : Nat), k ≤ ml ∧ i = .int .i64 k ∧ v = .slice A N c ∧ Hid (N = NP2 + 4 * k) ∧ Hid (HdB w wr p (.bool x.strict) (.int .i64 x.heap) (.int .i64 xf) (.slice Ca m x.cc) (.slice La ml x.lc) (.slice Sa ms x.sc) (.slice A N c) (PRE2 ++ (x.links.take k).flatMap lkBy))) (fun _ i _ => ml - (intOf i).toNat)
        case atStart => exact ⟨0, _, _, _, Nat.zero_le _, rfl, rfl, hid (Nat.add_zero _).symm, hid (by rw [List.take_zero, List.flatMap_nil, List.append_nil]; exact HDB.out)⟩
        case round =>
          clear HDB
          obtain ⟨k, N, A, c, hk, rfl, rfl, HN, HDB⟩ := hrel
          have b4 := HDB.out.bx.c4
          have hl0 := HDB.out.bx.lt
          by_cases hlt : k < ml
          · have hk1 : (k : Int) < (ml : Int) := by omega
            have hk0 : (0 : Int) ≤ (k : Int) := by omega
            have hkl : k < x.links.length := by rw [HML.out]; exact hlt
            obtain ⟨d, hd⟩ : ∃ d, x.links[k] = d := ⟨_, rfl⟩
            have hdm : d ∈ x.links := hd ▸ List.getElem_mem _
            have HT := hid (show (x.links.take (k + 1)).flatMap lkBy = (x.links.take k).flatMap lkBy ++ lkBy d by rw [List.take_succ_eq_append_getElem hkl, hd, flat_snoc])
            have HLN := hid (show (PRE2 ++ (x.links.take k).flatMap lkBy).length = N by rw [List.length_append, flat_len _ 4 (fun _ => rfl), List.length_take, HN.out, HPL2.out]; omega)
            obtain ⟨b', o', eA, hb1, hrg⟩ := (HL.out.ext HDB.out.ew).elem lnk_len hkl d hd
            have e0 := hrg 0 _ rfl
            have e1 := hrg 1 _ rfl
            have e2 := hrg 2 _ rfl
            simp only [Nat.add_zero] at e0
            subst eA
            clear hd
            obtain ⟨L0, hL0⟩ : ∃ y, PRE2 ++ (x.links.take k).flatMap lkBy = y := ⟨_, rfl⟩
            rw [hL0] at HDB HLN
            have HL0 := hid hL0
            clear hL0
            obtain ⟨c1, c2, c3, c4, c5, c6'⟩ := HLK.out d hdm
            clear hrg hdm
            go_upto_region 13 with (fail)
            refine wp_gen (fun W => Hid (HdB w W p (.bool x.strict) (.int .i64 x.heap) (.int .i64 xf) (.slice Ca m x.cc) (.slice (some ⟨b', o', none⟩) ml x.lc) (.slice Sa ms x.sc) (.slice A N c) L0) ∧ Hid (Row W wr.heap.size 0 [.int .i64 d.fr, .int .i64 d.to_, .int .i64 d.at_])) ⟨hid (HDB.out.ext ((Ext.refl _).alloc _)), hid (Row.new wr _ _)⟩ ?_
            clear HDB e0 e1 e2 b4 hl0 hb1
            rintro W1 ⟨HDB, HG⟩
            obtain ⟨g, hg⟩ : ∃ y, wr.heap.size = y := ⟨_, rfl⟩
            rw [hg] at HG ⊢
            clear hg
            have r := HG.out
            have rl := r.lt
            have rc0 := r.range 0 _ rfl
            have rc1 := r.range 1 _ rfl
            have rc2 := r.range 2 _ rfl
            simp only [Nat.zero_add] at rc1 rc2
            clear r
            obtain ⟨q1, hq1⟩ : ∃ y : Int, (d.at_).tdiv 256 = y := ⟨_, rfl⟩
            obtain ⟨q2, hq2⟩ : ∃ y : Int, (d.at_).tmod 256 = y := ⟨_, rfl⟩
            have HTWq1 := hid (twB_of (n := d.at_) (by omega) (by omega) hq1 hq2)
            have q1b : 0 ≤ q1 ∧ q1 ≤ 16 := by rw [← hq1, Int.tdiv_eq_ediv_of_nonneg (by omega)]; omega
            have q2b : 0 ≤ q2 ∧ q2 ≤ 255 := by rw [← hq2, Int.tmod_eq_emod_of_nonneg (by omega)]; omega
            obtain ⟨q1b0, q1b1⟩ := q1b
            obtain ⟨q2b0, q2b1⟩ := q2b
            have HBY := hid (show lkBy d = [d.fr, d.to_, q1, q2] by unfold lkBy; rw [HTWq1.out, mod256 (n := d.fr) (by omega) (by omega), mod256 (n := d.to_) (by omega) (by omega)]; rfl)
            go_upto_region 11 with (at_builtin; refine wpList_plain rfl fun K hK => ?_; go_loud (refine wp_app_hd (HDB.out.ext ((Ext.refl _).alloc _)) HLN.out (.tmp 80) (.tmp 95) rfl rfl _ 4 _ [d.fr, d.to_, q1, q2] rfl (by rfl) (RdF.row0 (Row.new W1 #[.int .u8 (d.fr), .int .u8 (d.to_), .int .u8 (q1), .int .u8 (q2)] _)) (by have := HN.out; have := HNB2.out; omega) ?_); intro A6 c6 w6 hd6 hk6; refine hK _ _ ?_; clear hK K)
            replace HDB := hid hd6
            clear hd6 hk6
            go_wp2
            go_roundw
            case rel => exact ⟨k + 1, _, _, _, by omega, by go_num, rfl, hid (by have := HN.out; omega), hid (by rw [HT.out, ← List.append_assoc, HL0.out, HBY.out]; exact HDB.out)⟩
            case measure => simp [intOf]; omega
          · obtain rfl : ml = k := by omega
            have hk1 : ¬ (ml : Int) < (ml : Int) := by omega
            have HLN := hid (show (PRE2 ++ (x.links.take ml).flatMap lkBy).length = N by rw [List.length_append, flat_len _ 4 (fun _ => rfl), List.length_take, HN.out, HPL2.out, HML.out]; omega)
            rw [show x.links.take ml = x.links from List.take_of_length_le (by rw [HML.out]; exact Nat.le_refl _)] at HDB HLN
            have HNN := hid (show N ≤ 9000 by have := HN.out; have := HNB2.out; omega)
            obtain ⟨PRE3, hPRE⟩ : ∃ y, PRE2 ++ x.links.flatMap lkBy = y := ⟨_, rfl⟩
            obtain ⟨NP3, hNP⟩ : ∃ y, N = y := ⟨_, rfl⟩
            rw [hPRE] at HDB HLN
            rw [hNP] at HDB HLN HNN ⊢
            have HPR3 := hid hPRE
            have HPL3 := HLN
            have HNB3 := HNN
            clear hPRE hNP HLN HNN HN
            have b5 := HDB.out.bx.c5
            have hl0 := HDB.out.bx.lt
            go_wp2
            clear b5 hl0 b4 hk1
            go_loopw [3, 8] (fun v i wr => ∃ (k N : Nat) (A : Option Addr) (c : Nat), k ≤ ms ∧ i = .int .i64 k ∧ v = .slice A N c ∧ Hid (N = NP3 + 2 * k) ∧ Hid (HdB w wr p (.bool x.strict) (.int .i64 x.heap) (.int .i64 xf) (.slice Ca m x.cc) (.slice La ml x.lc) (.slice Sa ms x.sc) (.slice A N c) (PRE3 ++ (x.shares.take k).flatMap shB))) (fun _ i _ => ms - (intOf i).toNat)
            case atStart => exact ⟨0, _, _, _, Nat.zero_le _, rfl, rfl, hid (Nat.add_zero _).symm, hid (by rw [List.take_zero, List.flatMap_nil, List.append_nil]; exact HDB.out)⟩
            case round =>
              clear HDB
              obtain ⟨k, N, A, c, hk, rfl, rfl, HN, HDB⟩ := hrel
              have b5 := HDB.out.bx.c5
              have hl0 := HDB.out.bx.lt
              by_cases hlt : k < ms
              · have hk1 : (k : Int) < (ms : Int) := by omega
                have hk0 : (0 : Int) ≤ (k : Int) := by omega
                have hkl : k < x.shares.length := by rw [HMS.out]; exact hlt
                obtain ⟨d, hd⟩ : ∃ d, x.shares[k] = d := ⟨_, rfl⟩
                have hdm : d ∈ x.shares := hd ▸ List.getElem_mem _
                have HT := hid (show (x.shares.take (k + 1)).flatMap shB = (x.shares.take k).flatMap shB ++ shB d by rw [List.take_succ_eq_append_getElem hkl, hd, flat_snoc])
                have HLN := hid (show (PRE3 ++ (x.shares.take k).flatMap shB).length = N by rw [List.length_append, flat_len _ 2 (fun _ => rfl), List.length_take, HN.out, HPL3.out]; omega)
                obtain ⟨b', o', eA, hb1, hrg⟩ := (HS.out.ext HDB.out.ew).elem shr_len hkl d hd
                have e0 := hrg 0 _ rfl
                have e1 := hrg 1 _ rfl
                simp only [Nat.add_zero] at e0
                subst eA
                clear hd
                obtain ⟨L0, hL0⟩ : ∃ y, PRE3 ++ (x.shares.take k).flatMap shB = y := ⟨_, rfl⟩
                rw [hL0] at HDB HLN
                have HL0 := hid hL0
                clear hL0
                have hv0 := e0
                have hv1 := e1
                obtain ⟨c1, c2, c3, c4, _⟩ := HSH.out d hdm
                have HBY := hid (show shB d = [d.rd, d.wr_] by unfold shB; rw [mod256 (n := d.rd) (by omega) (by omega), mod256 (n := d.wr_) (by omega) (by omega)])
                clear hrg hdm e0 e1
                go_upto_region 17 with (fail)
                refine wp_region_only (S := (fun i => (Value.slice A N c).ownBlock = some i)) (.rd 0 (.rd 1 (.rd 2 (.rd 3 (.rd 4 (.rd 5 (.rd 6 (.rd 7 (.rd 8 (.rd 9 (.rd 10 (.rd 11 (.rd 12 (.rd 13 (.rd 14 (.ac 15 (.ac 16 (.rd 17 .done)))))))))))))))))) (by kernel_rfl) (by kernel_rfl) (fun _ _ d _ _ h => by cases d <;> exact h) (by simp only [Ord.map, nthOp, List.append]; rfl) ?_
                intro d1
                have HDB5 := hid (HDB.out.ext (Ext.grow (Ext.refl wr) d1))
                have hbs5 := Nat.lt_of_lt_of_le hb1 (Ext.grow (Ext.refl wr) d1).size
                replace hv0 := ((Ext.grow (Ext.refl wr) d1).cells _ _ hb1).trans hv0
                replace hv1 := ((Ext.grow (Ext.refl wr) d1).cells _ _ hb1).trans hv1
                have HB1W := hid (show b' < w.heap.size by
                  obtain ⟨b9, o9, e9, hb9, _⟩ := HS.out (show 0 < x.shares.length by omega)
                  cases e9
                  exact hb9)
                generalize Go.Proofs.Ytgldlkoohfclpaa.grow wr d1 = W5 at HDB5 hbs5 hv0 hv1 ⊢
                have hp5 := HDB5.out.bx.c5
                have hpl5 := HDB5.out.bx.lt
                have HNX := hid (show ¬ (Value.slice A N c).ownBlock = some p from fun e => by have := (HDB5.out.ow.lt _ e).1; omega)
                have HNS := hid (show ¬ (Value.slice A N c).ownBlock = some b' from fun e => by have := (HDB5.out.ow.lt _ e).1; have := HB1W.out; have := HDB5.out.wp; omega)
                have HS0 := hid (Only.refl (fun i => (Value.slice A N c).ownBlock = some i) W5)
                have HE0 := hid (Ext.refl W5)
                refine only_read (by rfl) (fun K hK => ?_)
                go_big_quiet_op
                refine hK _ ?_
                clear hK K
                refine only_read (by rfl) (fun K hK => ?_)
                refine quiet_runD 105 rfl (.pointer (some ⟨p, 5, none⟩)) (fun w => by kernel_rfl) ?_
                refine hK _ ?_
                clear hK K
                simp only [Act.put, List.setIfInBounds_toArray, List.set_cons_zero, List.set_cons_succ]
                refine only_read (by rfl) (fun K hK => ?_)
                refine quiet_load1 24 (.tmp 105) rfl (p) (5) rfl (.slice (some ⟨b', o', none⟩) ms x.sc) _ (fun w' hw' => (hw'.cells p 5 hpl5 HNX.out).trans hp5) Try.underlying24 rfl ?_
                refine hK _ ?_
                clear hK K
                simp only [Act.put, List.setIfInBounds_toArray, List.set_cons_zero, List.set_cons_succ]
                refine only_read (by rfl) (fun K hK => ?_)
                go_big_quiet_op
                refine hK _ ?_
                clear hK K
                refine only_read (by rfl) (fun K hK => ?_)
                refine quiet_runD 108 rfl (.pointer (some ⟨b', o' + k * 2, none⟩)) (fun w => by go_simp) ?_
                refine hK _ ?_
                clear hK K
                simp only [Act.put, List.setIfInBounds_toArray, List.set_cons_zero, List.set_cons_succ]
                refine only_read (by rfl) (fun K hK => ?_)
                refine quiet_runD 109 rfl (.pointer (some ⟨b', o' + k * 2, none⟩)) (fun w => by go_simp) ?_
                refine hK _ ?_
                clear hK K
                simp only [Act.put, List.setIfInBounds_toArray, List.set_cons_zero, List.set_cons_succ]
                refine only_read (by rfl) (fun K hK => ?_)
                refine quiet_load1 3 (.tmp 109) rfl (b') (o' + k * 2) rfl (.int .i64 d.rd) _ (fun w' hw' => (hw'.cells b' _ hbs5 HNS.out).trans hv0) Try.underlying3 rfl ?_
                refine hK _ ?_
                clear hK K
                simp only [Act.put, List.setIfInBounds_toArray, List.set_cons_zero, List.set_cons_succ]
                refine only_read (by rfl) (fun K hK => ?_)
                refine quiet_runD 111 rfl (.int .u8 d.rd) (fun w => by go_simp; exact u8_id c1 (by omega)) ?_
                refine hK _ ?_
                clear hK K
                simp only [Act.put, List.setIfInBounds_toArray, List.set_cons_zero, List.set_cons_succ]
                refine only_read (by rfl) (fun K hK => ?_)
                refine quiet_runD 112 rfl (.pointer (some ⟨p, 5, none⟩)) (fun w => by kernel_rfl) ?_
                refine hK _ ?_
                clear hK K
                simp only [Act.put, List.setIfInBounds_toArray, List.set_cons_zero, List.set_cons_succ]
                refine only_read (by rfl) (fun K hK => ?_)
                refine quiet_load1 24 (.tmp 112) rfl (p) (5) rfl (.slice (some ⟨b', o', none⟩) ms x.sc) _ (fun w' hw' => (hw'.cells p 5 hpl5 HNX.out).trans hp5) Try.underlying24 rfl ?_
                refine hK _ ?_
                clear hK K
                simp only [Act.put, List.setIfInBounds_toArray, List.set_cons_zero, List.set_cons_succ]
                refine only_read (by rfl) (fun K hK => ?_)
                go_big_quiet_op
                refine hK _ ?_
                clear hK K
                refine only_read (by rfl) (fun K hK => ?_)
                refine quiet_runD 115 rfl (.pointer (some ⟨b', o' + k * 2, none⟩)) (fun w => by go_simp) ?_
                refine hK _ ?_
                clear hK K
                simp only [Act.put, List.setIfInBounds_toArray, List.set_cons_zero, List.set_cons_succ]
                refine only_read (by rfl) (fun K hK => ?_)
                refine quiet_runD 116 rfl (.pointer (some ⟨b', o' + k * 2 + 1, none⟩)) (fun w => by go_simp) ?_
                refine hK _ ?_
                clear hK K
                simp only [Act.put, List.setIfInBounds_toArray, List.set_cons_zero, List.set_cons_succ]
                refine only_read (by rfl) (fun K hK => ?_)
                refine quiet_load1 3 (.tmp 116) rfl (b') (o' + k * 2 + 1) rfl (.int .i64 d.wr_) _ (fun w' hw' => (hw'.cells b' _ hbs5 HNS.out).trans hv1) Try.underlying3 rfl ?_
                refine hK _ ?_
                clear hK K
                simp only [Act.put, List.setIfInBounds_toArray, List.set_cons_zero, List.set_cons_succ]
                refine only_read (by rfl) (fun K hK => ?_)
                refine quiet_runD 118 rfl (.int .u8 d.wr_) (fun w => by go_simp; exact u8_id c3 (by omega)) ?_
                refine hK _ ?_
                clear hK K
                simp only [Act.put, List.setIfInBounds_toArray, List.set_cons_zero, List.set_cons_succ]
                refine only_act (by rfl) (fun K hK => ?_)
                go_wp2_with fail
                refine ⟨_, Only.refl _ _, Only.alloc HS0.out _, ?_⟩
                refine only_gen (fun W => Hid (Ext W5 W) ∧ Hid (Row W W5.heap.size 0 [.int .u8 (d.rd), .int .u8 (d.wr_)])) ⟨hid ((Ext.refl _).alloc _), hid (Row.new W5 _ _)⟩ ?_
                rintro V1 ⟨hE1, hR1⟩
                have HS1 := hid (HS0.out.transExt hE1.out)
                have HE1 := hid (HE0.out.trans hE1.out)
                refine only_act (by rfl) (fun K hK => ?_)
                refine wp_app_row by_len (by decide) by_one Try.underlying27 info_by (.tmp 104) (.tmp 119) rfl (p + 1) (.slice A N c) N (rowF byF L0) rfl (show ownsAt V1 (p + 1) 5 1 (.slice A N c) N (rowF byF L0) by have h9 := (HDB5.out.ext HE1.out).ow; unfold OwnY at h9; rwa [HLN.out] at h9) (some ⟨W5.heap.size, 0, none⟩) 2 2 [d.rd, d.wr_] rfl rfl (RdF.row0 (zs := [d.rd, d.wr_]) hR1.out) (by have := HN.out; have := HNB3.out; unfold maxLen; omega) (by have := HN.out; have := HNB3.out; omega) (HDB5.out.ext HE1.out).sz ?_
                intro v6 w6 hown6 hgrow hat
                obtain ⟨A6, c6, hv6, _, _⟩ := hown6.shape
                subst hv6
                have HT6 : Hid (Only (fun i => (Value.slice A N c).ownBlock = some i) V1 w6) := hid (grownOnly hgrow fun g hg => hg)
                have HS6 := hid (Only.trans' HS1.out HT6.out)
                replace HDB := hid ((HDB5.out.ext HE1.out).row HT6.out (v' := .slice A6 (N + 2) c6) (l' := L0 ++ [d.rd, d.wr_]) (by unfold OwnY; rw [rowF_append, List.length_append, HLN.out]; exact hown6))
                refine hK _ _ ⟨_, Only.refl _ _, HS6.out, ?_⟩
                clear hK K hgrow hat hown6
                simp only [Act.put, List.setIfInBounds_toArray, List.set_cons_zero, List.set_cons_succ]
                refine only_read (by rfl) (fun K hK => ?_)
                go_big_quiet_op
                refine hK _ ?_
                clear hK K
                refine only_nil ?_
                go_wp2
                go_roundw
                case rel => exact ⟨k + 1, _, _, _, by omega, by go_num, rfl, hid (by have := HN.out; omega), hid (by rw [HT.out, ← List.append_assoc, HL0.out, HBY.out]; exact HDB.out)⟩
                case measure => simp [intOf]; omega
              · obtain rfl : ms = k := by omega
                have hk1 : ¬ (ms : Int) < (ms : Int) := by omega
                have HLN := hid (show (PRE3 ++ (x.shares.take ms).flatMap shB).length = N by rw [List.length_append, flat_len _ 2 (fun _ => rfl), List.length_take, HN.out, HPL3.out, HMS.out]; omega)
                rw [show x.shares.take ms = x.shares from List.take_of_length_le (by rw [HMS.out]; exact Nat.le_refl _)] at HDB HLN
                have HNN := hid (show N ≤ 12000 by have := HN.out; have := HNB3.out; omega)
                obtain ⟨PRE4, hPRE⟩ : ∃ y, PRE3 ++ x.shares.flatMap shB = y := ⟨_, rfl⟩
                obtain ⟨NP4, hNP⟩ : ∃ y, N = y := ⟨_, rfl⟩
                rw [hPRE] at HDB HLN
                rw [hNP] at HDB HLN HNN ⊢
                have HPR4 := hid hPRE
                have HPL4 := HLN
                have HNB4 := HNN
                clear hPRE hNP HLN HNN HN
                have b3 := HDB.out.bx.c3
                have hl0 := HDB.out.bx.lt
                go_wp2
                clear b3 hl0 b5 hk1
                go_loopw [3, 9] (fun v i wr => ∃ (k N : Nat) (A : Option Addr) (c : Nat), k ≤ m ∧ i = .int .i64 k ∧ v = .slice A N c ∧ Hid (N ≤ NP4 + 4096 * k) ∧ Hid ((PRE4 ++ (x.comps.take k).flatMap (·.bl)).length = N) ∧ Hid (HdB w wr p (.bool x.strict) (.int .i64 x.heap) (.int .i64 xf) (.slice Ca m x.cc) (.slice La ml x.lc) (.slice Sa ms x.sc) (.slice A N c) (PRE4 ++ (x.comps.take k).flatMap (·.bl)))) (fun _ i _ => m - (intOf i).toNat)
                case atStart => exact ⟨0, _, _, _, Nat.zero_le _, rfl, rfl, hid (Nat.le_add_right _ _), hid (by rw [List.take_zero, List.flatMap_nil, List.append_nil]; exact HPL4.out), hid (by rw [List.take_zero, List.flatMap_nil, List.append_nil]; exact HDB.out)⟩
                case round =>
                  clear HDB
                  obtain ⟨k, N, A, c, hk, rfl, rfl, HN, HLN, HDB⟩ := hrel
                  have b3 := HDB.out.bx.c3
                  have hl0 := HDB.out.bx.lt
                  by_cases hlt : k < m
                  · have hk1 : (k : Int) < (m : Int) := by omega
                    have hk0 : (0 : Int) ≤ (k : Int) := by omega
                    have hkl : k < x.comps.length := by rw [HM.out]; exact hlt
                    obtain ⟨d, hd⟩ : ∃ d, x.comps[k] = d := ⟨_, rfl⟩
                    have hdm : d ∈ x.comps := hd ▸ List.getElem_mem _
                    have HT := hid (show (x.comps.take (k + 1)).flatMap (·.bl) = (x.comps.take k).flatMap (·.bl) ++ d.bl by rw [List.take_succ_eq_append_getElem hkl, hd, flat_snoc])
                    obtain ⟨b', o', eA, hb1, hrg⟩ := (HC.out.ext HDB.out.ew).elem cmp_len hkl d hd
                    have HDR := hid (rdB_by (HCB.out d hdm).1)
                    have HD4 := hid (HCM.out d hdm).2.1
                    have e0 := hrg 0 _ rfl
                    simp only [Nat.add_zero] at e0
                    subst eA
                    clear hrg hd hdm
                    obtain ⟨L0, hL0⟩ : ∃ y, PRE4 ++ (x.comps.take k).flatMap (·.bl) = y := ⟨_, rfl⟩
                    rw [hL0] at HDB HLN
                    have HL0 := hid hL0
                    clear hL0
                    obtain ⟨dl, hdl⟩ : ∃ y, d.bl.length = y := ⟨_, rfl⟩
                    rw [hdl] at e0 HD4
                    have HDL := hid hdl
                    clear hdl
                    go_upto_region 20 with (at_builtin; refine wpList_plain rfl fun K hK => ?_; go_loud (refine wp_app_hd HDB.out HLN.out (.tmp 128) (.tmp 134) rfl rfl _ dl _ d.bl rfl HDL.out (HDR.out.ext HDB.out.ew) (by have := HN.out; have := HNB4.out; have := HD4.out; omega) ?_); intro A6 c6 w6 hd6 hk6; refine hK _ _ ?_; clear hK K)
                    replace HDB := hid hd6
                    clear hd6 hk6
                    go_wp2
                    go_roundw
                    case rel => exact ⟨k + 1, _, _, _, by omega, by go_num, rfl, hid (by have := HN.out; have := HD4.out; omega), hid (by rw [HT.out, ← List.append_assoc, HL0.out, List.length_append, HLN.out, HDL.out]), hid (by rw [HT.out, ← List.append_assoc, HL0.out]; exact HDB.out)⟩
                    case measure => simp [intOf]; omega
                  · obtain rfl : k = m := by omega
                    have hk1 : ¬ (k : Int) < (k : Int) := by omega
                    have HEQ := hid (show PRE4 ++ x.comps.flatMap (·.bl) = byV x by unfold byV; rw [← HPR4.out, ← HPR3.out, ← HPR2.out, HV9.out])
                    rw [show x.comps.take k = x.comps from List.take_of_length_le (by rw [HM.out]; exact Nat.le_refl _), HEQ.out] at HDB HLN
                    go_wp2
                    go_ret
                    exact ⟨A, c, by rw [HLN.out]; rfl, hid (by rw [HLN.out]; exact HDB.out.ow.lower (by have := HDB.out.wp; omega)), hid HDB.out.ew⟩
set_option maxRecDepth 100000 in
set_option maxHeartbeats 4000000 in
theorem rput_ (x : Img) (w : World) (h : ImgAt w x) (hc : x.comps.length ≤ 100000) (hl : x.links.length ≤ 100000) (hs : x.shares.length ≤ 100000) (hw : ∀ s ∈ x.shares, -9223372036854775808 ≤ s.wr_ ∧ s.wr_ ≤ 9223372036854775807) : Calls Try.prog 17 #[.agg #[.bool x.strict, .int .i64 x.heap, .int .i64 x.full, .slice x.C x.comps.length x.cc, .slice x.L x.links.length x.lc, .slice x.S x.shares.length x.sc]] w fun e w' => ∃ A ca, e = .returned (.slice A (putV x).length ca) ∧ Hid (OwnY w' w.heap.size (.slice A (putV x).length ca) (putV x)) ∧ Hid (Ext w w') := by
  have HRT := hid (show ∀ W, Ext w W → Calls Try.prog 15 #[.agg #[.bool x.strict, .int .i64 x.heap, .int .i64 x.full, .slice x.C x.comps.length x.cc, .slice x.L x.links.length x.lc, .slice x.S x.shares.length x.sc]] W fun e w' => e = .returned (.bool (rightV x)) ∧ Ext W w' from fun W hx => rright_ x W (h.ext hx) hc hl hs hw)
  have HBY := hid (show rightV x = true → ∀ W, Ext w W → _ from fun hr W hx => rbytes_ x W (h.ext hx) (by rw [right_form hw, Bool.and_eq_true] at hr; exact hr.1))
  have HPV := hid (show putV x = if rightV x then byV x else [] from rfl)
  obtain ⟨v, hv⟩ : ∃ y, rightV x = y := ⟨_, rfl⟩
  rw [hv] at HRT HBY HPV
  obtain ⟨m, hm⟩ : ∃ y, x.comps.length = y := ⟨_, rfl⟩
  obtain ⟨ml, hml⟩ : ∃ y, x.links.length = y := ⟨_, rfl⟩
  obtain ⟨ms, hms⟩ : ∃ y, x.shares.length = y := ⟨_, rfl⟩
  rw [hm, hml, hms] at HRT HBY
  rw [hm, hml, hms]
  clear hm hml hms hv h hc hl hs hw
  go_enter Try.func17, Try.ntmps17
  go_upto_region 1 with (fail)
  refine wp_gen (fun V => Hid (Ext w V) ∧ Hid (Row V w.heap.size 0 [.bool x.strict, .int .i64 x.heap, .int .i64 x.full, .slice x.C m x.cc, .slice x.L ml x.lc, .slice x.S ms x.sc])) ⟨hid (by repeat (first | (with_reducible exact Ext.refl _) | (with_reducible refine Ext.undrew ?_) | (with_reducible refine Ext.grow ?_ _) | (with_reducible refine Ext.drew ?_) | (with_reducible refine Ext.drewN ?_ _) | (with_reducible refine Ext.alloc ?_ _) | (with_reducible assumption) | ((with_reducible refine Ext.setCell ?_ ?_ _); rotate_left; (first | exact Nat.le_refl _ | ((try dsimp only); (try simp only [World.size_alloc, grow_size, World.size_setCell]); omega))))), hid (Row.new w _ _)⟩ ?_
  rintro V ⟨HV, HR⟩
  have q := HR.out
  have ql := q.lt
  have qc0 := q.range 0 _ rfl
  have qc1 := q.range 1 _ rfl
  have qc2 := q.range 2 _ rfl
  have qc3 := q.range 3 _ rfl
  have qc4 := q.range 4 _ rfl
  have qc5 := q.range 5 _ rfl
  simp only [Nat.zero_add] at qc1 qc2 qc3 qc4 qc5
  clear q
  go_wp2_with fail
  refine (HRT.out V HV.out).mono ?_
  rintro e W1 ⟨rfl, hx⟩
  have HE := hid (HV.out.trans hx)
  replace HR := hid (HR.out.ext hx)
  clear hx HRT ql qc0 qc1 qc2 qc3 qc4 qc5
  cases v with
  | false =>
    have hp0 := HPV.out
    rw [if_neg (by decide)] at hp0
    go_wp2
    go_ret
    exact ⟨none, 0, by rw [hp0]; rfl, hid (by rw [hp0]; exact ownsAt_nil _ _ _ _), HE⟩
  | true =>
    have hp0 := HPV.out
    rw [if_pos rfl] at hp0
    replace HBY := hid (HBY.out rfl)
    have q := HR.out
    have ql := q.lt
    have qc0 := q.range 0 _ rfl
    have qc1 := q.range 1 _ rfl
    have qc2 := q.range 2 _ rfl
    have qc3 := q.range 3 _ rfl
    have qc4 := q.range 4 _ rfl
    have qc5 := q.range 5 _ rfl
    simp only [Nat.zero_add] at qc1 qc2 qc3 qc4 qc5
    clear q
    go_wp2_with fail
    refine (HBY.out W1 HE.out).mono ?_
    rintro e W2 ⟨A, ca, rfl, hO, hx⟩
    go_wp2
    go_ret
    exact ⟨A, ca, by rw [hp0]; rfl, hid (by rw [hp0]; exact hO.out.lower HE.out.size), hid (HE.out.trans hx.out)⟩

end Go.Proofs.Ytgldlkoohfclpaa
