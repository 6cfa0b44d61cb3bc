/- Layer 17: Get. -/
import Derived.Test.YtgldlkoohfclpaaImU
import Derived.Deep.DeepCutAuto
import Derived.Lib.SlBuf
namespace Go.Proofs.Ytgldlkoohfclpaa
set_option linter.unusedSimpArgs false
set_option linter.unusedVariables false
open Go.RowKit

open Go.Deep
theorem goInt_nat (k : Nat) : goInt k = .int .i64 (k : Int) := rfl
theorem hdB_byte (x : Img) : byteL (hdB x) := by
  intro z hz
  unfold hdB hdI at hz
  simp only [List.mem_append, List.mem_flatMap, List.mem_cons, List.not_mem_nil, or_false, twB, cmB, lkBy, shB, bitV] at hz
  have hm : ∀ y : Int, 0 ≤ y % 256 ∧ y % 256 ≤ 255 := fun y => by omega
  rcases hz with ((((((h | h | h | h) | (h | h)) | (h | h | h)) | ⟨d, _, ((h | h) | h)⟩) | ⟨d, _, ((h | h) | (h | h))⟩) | ⟨d, _, (h | h)⟩)
  all_goals first | (subst h; exact hm _) | (subst h; decide) | (subst h; split <;> decide)
/-- The image that is got, but for addresses. -/
def IsGot (bl : List Int) (x : Img) : Prop := x.strip = if gErr bl = 0 then gImg (cmC bl) bl else zImg
theorem made_row {w : World} {b n : Nat} (h : Made w b n (.int .u8 0)) : Row w b 0 (rowF byF (List.replicate n 0)) := by
  have hl : rowF byF (List.replicate n 0) = List.replicate n (Value.int .u8 0) := by
    rw [rowF_by, List.map_replicate]
  refine ⟨h.lt, fun j v hj => ?_, fun j hj => ?_⟩
  · rw [hl, List.getElem?_replicate] at hj
    split at hj
    · cases hj; rw [Nat.zero_add]; exact (h.at_ j (by assumption)).1
    · cases hj
  · rw [hl, List.length_replicate] at hj
    rw [Nat.zero_add]
    exact (h.at_ j hj).2
/-- The compartments while codes are made: those before k have theirs. -/
def ZK (bl : List Int) (nc k : Nat) (cs : List Cmp) : Prop := cs.length = nc ∧ ∀ i d, cs[i]? = some d → (i < k → d.strip = cmZ bl i) ∧ (k ≤ i → d = cm0 bl i)
def CK (bl : List Int) (nc k : Nat) (cs : List Cmp) : Prop := cs.length = nc ∧ ∀ i d, cs[i]? = some d → (i < k → d.strip = cmC bl i) ∧ (k ≤ i → d.strip = cmZ bl i)
theorem map_of_at {α β : Type} {f : α → β} {g : Nat → β} {l : List α} {n : Nat} (hl : l.length = n) (h : ∀ i d, l[i]? = some d → f d = g i) : l.map f = (List.range n).map g := by
  subst hl
  apply List.ext_getElem (by simp)
  intro i h1 h2
  simp only [List.getElem_map, List.getElem_range]
  exact h i _ (List.getElem?_eq_getElem (by simpa using h1))
theorem ZK.done {bl : List Int} {nc : Nat} {cs : List Cmp} (h : ZK bl nc nc cs) : cs.map Cmp.strip = (List.range nc).map (cmZ bl) := map_of_at h.1 (fun i d hd => (h.2 i d hd).1 (by have := (List.getElem?_eq_some_iff.1 hd).1; rw [h.1] at this; exact this))
theorem CK.done {bl : List Int} {nc : Nat} {cs : List Cmp} (h : CK bl nc nc cs) : cs.map Cmp.strip = (List.range nc).map (cmC bl) := map_of_at h.1 (fun i d hd => (h.2 i d hd).1 (by have := (List.getElem?_eq_some_iff.1 hd).1; rw [h.1] at this; exact this))
theorem ZK.start {bl : List Int} {nc : Nat} : ZK bl nc 0 ((List.range nc).map (cm0 bl)) := ⟨by simp, fun i d hd => ⟨fun h => absurd h (Nat.not_lt_zero _), fun _ => by
  rw [List.getElem?_map] at hd
  cases hr : (List.range nc)[i]? with
  | none => rw [hr] at hd; cases hd
  | some j =>
    rw [hr] at hd
    obtain ⟨h1, h2⟩ := List.getElem?_eq_some_iff.1 hr
    rw [List.getElem_range] at h2
    cases hd
    rw [h2]⟩⟩
theorem ZK.step {bl : List Int} {nc k b : Nat} {cs : List Cmp} {d : Cmp} (h : ZK bl nc k cs) (hd : cs[k]? = some d) : ZK bl nc (k + 1) (cs.set k ⟨some ⟨b, 0, none⟩, lnN bl k, List.replicate (lnN bl k) 0, d.data⟩) := by
  have hk := (List.getElem?_eq_some_iff.1 hd).1
  refine ⟨by rw [List.length_set, h.1], fun i e he => ?_⟩
  rw [List.getElem?_set] at he
  split at he
  · rename_i hik
    subst hik
    cases he
    refine ⟨fun _ => ?_, fun h2 => by omega⟩
    rw [(h.2 k d hd).2 (Nat.le_refl _)]
    rfl
  · exact ⟨fun h2 => (h.2 i e he).1 (by omega), fun h2 => (h.2 i e he).2 (by omega)⟩
theorem CK.start {bl : List Int} {nc : Nat} {cs : List Cmp} (h : ZK bl nc nc cs) : CK bl nc 0 cs := ⟨h.1, fun i d hd => ⟨fun h2 => absurd h2 (Nat.not_lt_zero _), fun _ => (h.2 i d hd).1 (by have := (List.getElem?_eq_some_iff.1 hd).1; rw [h.1] at this; exact this)⟩⟩
theorem CK.step {bl : List Int} {nc k : Nat} {cs : List Cmp} {d : Cmp} (h : CK bl nc k cs) (hd : cs[k]? = some d) : CK bl nc (k + 1) (cs.set k ⟨d.A, d.ca, (bl.drop (gFrom bl + gSum bl k)).take (lnN bl k), d.data⟩) := by
  have hk := (List.getElem?_eq_some_iff.1 hd).1
  refine ⟨by rw [List.length_set, h.1], fun i e he => ?_⟩
  rw [List.getElem?_set] at he
  split at he
  · rename_i hik
    subst hik
    cases he
    refine ⟨fun _ => ?_, fun h2 => by omega⟩
    have h3 := (h.2 k d hd).2 (Nat.le_refl _)
    have h4 : d.data = (cmZ bl k).data := by rw [← h3]; rfl
    show (⟨none, 0, (bl.drop (gFrom bl + gSum bl k)).take (lnN bl k), d.data⟩ : Cmp) = cmC bl k
    rw [h4]
    rfl
  · exact ⟨fun h2 => (h.2 i e he).1 (by omega), fun h2 => (h.2 i e he).2 (by omega)⟩
theorem gx_start {w V W1 : World} {q g : Nat} {A CA LA SA NA : Option Addr} {ca cc lc sc ncp nc nl ns : Nat} {bl : List Int} (h : RHP V W1 q A ca bl CA LA SA NA cc lc sc ncp nc nl ns) (hv : Ext w V) (hq : w.heap.size ≤ q) (hgq : ¬ g = q) (hg : w.heap.size ≤ g) (hrg : Row V g 0 [.bool false, .int .i64 0, .int .i64 0, .slice none 0 0, .slice none 0 0, .slice none 0 0]) (xs : Array Value) (T : TypeId) :
    GX w (W1.alloc (.cells xs T)) g W1.heap.size CA LA SA NA xs.toList ((List.range nc).map (cm0 bl)) ((List.range nl).map (lk0 bl (9 + 3 * nc))) ((List.range ns).map (sh0 bl (9 + 3 * nc + 4 * nl))) ((List.range nc).map (ln0 bl)) := by
  have e1 := Ext.only hv h.on (fun i hi => by rw [hi]; exact hq)
  have x := (Ext.refl W1).alloc (.cells xs T)
  have hgl := hrg.lt
  have hsz := h.on.size
  have hC : ∀ b o, CA = some ⟨b, o, none⟩ → g < b ∧ b < W1.heap.size := fun b o e => by
    have := h.co.lt b (by rw [e]; rfl)
    omega
  exact { ew := e1.trans x, hg := hg, hx := by omega, rg := (hrg.only h.on hgq).ext x, rx := Row.new W1 xs T, rc := fun h0 => (by
      obtain ⟨gg, o, e, _, hl, hc, hf⟩ := h.co.at_ rfl (by simpa using h0)
      exact ⟨gg, o * 2, e, Row.ext ⟨hl, hc, fun j _ => hf _⟩ x⟩), cx := hC, lx := fun b o e => ⟨(h.lo.lt b (by rw [e]; rfl)).2, fun b' o' e' hb => h.al b' (by rw [e']; rfl) (by rw [e, hb]; rfl)⟩, sx := fun b o e => ⟨(h.so.lt b (by rw [e]; rfl)).2, fun b' o' e' hb => h.as_ b' (by rw [e']; rfl) (by rw [e, hb]; rfl)⟩, nx := fun b o e => ⟨(h.no.lt b (by rw [e]; rfl)).2, fun b' o' e' hb => h.an b' (by rw [e']; rfl) (by rw [e, hb]; rfl)⟩, lg := fun b o e => (by have := (h.lo.lt b (by rw [e]; rfl)).1; omega), sg := fun b o e => (by have := (h.so.lt b (by rw [e]; rfl)).1; omega), rl := (h.lo.rdF (by simp)).ext x, rs := (h.so.rdF (by simp)).ext x, rn := (h.no.rdF (by simp)).ext x, cd := fun d hd => (by
      obtain ⟨i, _, rfl⟩ := List.mem_map.1 hd
      exact .inl ⟨rfl, rfl, rfl⟩), inj := fun i j d e hd _ hne _ => (by
      obtain ⟨k, _, rfl⟩ := List.mem_map.1 (List.mem_of_getElem? hd)
      exact absurd rfl hne) }
set_option maxRecDepth 100000 in
set_option maxHeartbeats 4000000 in
theorem get_ (w : World) (A : Option Addr) (ca : Nat) (bl : List Int) (h : RdB w A bl) (hb : byteL bl) (hn : bl.length ≤ 100000) (hc : bl.length ≤ ca) (hm : ca ≤ maxLen) : Calls Try.prog 12 #[.slice A bl.length ca] w fun e w' => (∃ x : Img, e = .returned (.tuple #[.agg #[.bool x.strict, .int .i64 x.heap, .int .i64 x.full, .slice x.C x.comps.length x.cc, .slice x.L x.links.length x.lc, .slice x.S x.shares.length x.sc], .int .i64 (gErr bl)]) ∧ Hid (ImgAt w' x) ∧ Hid (IsGot bl x)) ∧ Hid (Ext w w') := by
  have HB := hid hb
  have HRB := hid h
  have HCA := hid hc
  have HMX := hid hm
  have HNB := hid hn
  have HRH := hid (fun (V : World) (q : Nat) (h : RdrAt V q A ca bl 0) => readHead_ V q A ca bl h hb (by omega))
  have HIMG := hid (fun cm : Nat → Cmp => show gImg cm bl = ⟨numB bl 2 1 == 1, numB bl 3 1, numB bl 4 2, none, 0, (List.range (hN bl 6)).map cm, none, 0, (List.range (hN bl 7)).map (lk0 bl (9 + 3 * hN bl 6)), none, 0, (List.range (hN bl 8)).map (sh0 bl (9 + 3 * hN bl 6 + 4 * hN bl 7))⟩ from rfl)
  have HFR := hid (show gFrom bl = 9 + 3 * hN bl 6 + 4 * hN bl 7 + 2 * hN bl 8 from rfl)
  have HER := hid (show gErr bl = if gFrom bl + gSum bl (hN bl 6) ≠ bl.length then 1
    else if rightV (gImg (cmZ bl) bl) = false ∨ hdB (gImg (cmZ bl) bl) ≠ bl.take (gFrom bl) then 1
    else if rightV (gImg (cmC bl) bl) = false then 151 else 0 from rfl)
  have HBn := hid (show hN bl 6 ≤ 255 ∧ hN bl 7 ≤ 255 ∧ hN bl 8 ≤ 255 from ⟨(hN_eq hb 6).2, (hN_eq hb 7).2, (hN_eq hb 8).2⟩)
  obtain ⟨st, hst⟩ : ∃ y, (numB bl 2 1 == 1) = y := ⟨_, rfl⟩
  obtain ⟨hp, hhp⟩ : ∃ y, numB bl 3 1 = y := ⟨_, rfl⟩
  obtain ⟨fl, hfl⟩ : ∃ y, numB bl 4 2 = y := ⟨_, rfl⟩
  obtain ⟨nc, hnc⟩ : ∃ y, hN bl 6 = y := ⟨_, rfl⟩
  obtain ⟨nl, hnl⟩ : ∃ y, hN bl 7 = y := ⟨_, rfl⟩
  obtain ⟨ns, hns⟩ : ∃ y, hN bl 8 = y := ⟨_, rfl⟩
  rw [hst, hhp, hfl, hnc, hnl, hns] at HRH HIMG
  rw [hnc, hnl, hns] at HFR HBn
  rw [hnc] at HER
  clear hst hhp hfl hnc hnl hns h hb hn hc hm
  obtain ⟨bn, hbn⟩ : ∃ y, bl.length = y := ⟨_, rfl⟩
  have HBL := hid hbn
  rw [hbn] at HCA HNB HER
  rw [hbn]
  clear hbn
  have hca := HCA.out
  have hmx := HMX.out
  go_enter Try.func12, Try.ntmps12
  go_upto_region 2 with (fail)
  refine wp_gen (fun V => Hid (Ext w V) ∧ Hid (Row V w.heap.size 0 [.bool false, .int .i64 0, .int .i64 0, .slice none 0 0, .slice none 0 0, .slice none 0 0]) ∧ Hid (RdrAt V (w.heap.size + 1) A ca bl 0)) ⟨hid (by repeat (first | (with_reducible exact Ext.refl _) | (with_reducible refine Ext.undrew ?_) | (with_reducible refine Ext.grow ?_ _) | (with_reducible refine Ext.drew ?_) | (with_reducible refine Ext.drewN ?_ _) | (with_reducible refine Ext.alloc ?_ _) | (with_reducible assumption) | ((with_reducible refine Ext.setCell ?_ ?_ _); rotate_left; (first | exact Nat.le_refl _ | ((try dsimp only); (try simp only [World.size_alloc, grow_size, World.size_setCell]); omega))))), hid ((Row.new w _ _).ext ((Ext.refl _).alloc _)), hid ?_⟩ ?_
  · have h9 := Row.new (w.alloc (.cells #[.bool false, .int .i64 0, .int .i64 0, .slice none 0 0, .slice none 0 0, .slice none 0 0] 26)) #[.slice A bn ca, .int .i64 0] 63
    rw [World.size_alloc] at h9
    have h10 := h9.range 0 _ rfl
    have h11 := h9.range 1 _ rfl
    have h12 := h9.free 1 (by show 1 < 2; decide)
    simp only [Nat.zero_add] at h11 h12
    exact ⟨h9.lt, by rw [HBL.out]; exact h10, h11, h12, HRB.out.ext (by repeat (first | (with_reducible exact Ext.refl _) | (with_reducible refine Ext.undrew ?_) | (with_reducible refine Ext.grow ?_ _) | (with_reducible refine Ext.drew ?_) | (with_reducible refine Ext.drewN ?_ _) | (with_reducible refine Ext.alloc ?_ _) | (with_reducible assumption) | ((with_reducible refine Ext.setCell ?_ ?_ _); rotate_left; (first | exact Nat.le_refl _ | ((try dsimp only); (try simp only [World.size_alloc, grow_size, World.size_setCell]); omega))))), fun b o h0 e => by
      obtain ⟨b2, o2, e2, hb2, _⟩ := HRB.out h0
      rw [e] at e2
      cases e2
      omega⟩
  rintro V ⟨HV, HG, HR⟩
  obtain ⟨g, hg⟩ : ∃ y, w.heap.size = y := ⟨_, rfl⟩
  have hgw : w.heap.size ≤ g := by omega
  have HGW := hid hg
  rw [hg] at HG HR ⊢
  clear hg
  go_wp2_with fail
  refine (HRH.out V (g + 1) HR.out).mono ?_
  rintro e W1 ⟨CA, LA, SA, NA, cc, lc, sc, ncp, rfl, HP⟩
  go_upto_region 3 with (fail)
  refine wp_gen (fun W => Hid (GX w W g W1.heap.size CA LA SA NA [.bool st, .int .i64 hp, .int .i64 fl, .slice CA nc cc, .slice LA nl lc, .slice SA ns sc] ((List.range nc).map (cm0 bl)) ((List.range nl).map (lk0 bl (9 + 3 * nc))) ((List.range ns).map (sh0 bl (9 + 3 * nc + 4 * nl))) ((List.range nc).map (ln0 bl))) ∧ Hid (RdrAt W (g + 1) A ca bl (gFrom bl))) ⟨hid (gx_start HP.out HV.out (by omega) (by omega) hgw HG.out #[.bool st, .int .i64 hp, .int .i64 fl, .slice CA nc cc, .slice LA nl lc, .slice SA ns sc] 26), hid (by rw [HFR.out]; exact HP.out.rr.ext ((Ext.refl _).alloc _))⟩ ?_
  rintro W2 ⟨HX, HR2⟩
  obtain ⟨x5, hx5⟩ : ∃ y, W1.heap.size = y := ⟨_, rfl⟩
  rw [hx5] at HX ⊢
  obtain ⟨fr, hfr⟩ : ∃ y, gFrom bl = y := ⟨_, rfl⟩
  have HGF := hid hfr
  rw [hfr] at HFR HER HR2
  clear hx5 HP HV HG HR HRH hfr
  have hq1 := HR2.out.c1
  have hql := HR2.out.lt
  refine wp_region_grow (by kernel_rfl) (by kernel_rfl) (by first | (simp only [List.append]; rfl) | rfl) ?_
  (repeat (go_big_quiet_step (fail)))
  refine wpQuiet_nil ?_
  intro wq hq
  obtain ⟨d3, rfl⟩ := hq
  replace HX := hid (HX.out.ext (Ext.grow (Ext.refl W2) d3))
  generalize Go.Proofs.Ytgldlkoohfclpaa.grow W2 d3 = W3 at HX ⊢
  clear hq1 hql HR2
  go_wp2
  go_loopw [8, 33] (fun s8 i wr => ∃ (k t : Nat), k ≤ nc ∧ i = .int .i64 k ∧ s8 = .int .i64 (t : Int) ∧ Hid (t = fr + gSum bl k) ∧ Hid (GX w wr g x5 CA LA SA NA [.bool st, .int .i64 hp, .int .i64 fl, .slice CA nc cc, .slice LA nl lc, .slice SA ns sc] ((List.range nc).map (cm0 bl)) ((List.range nl).map (lk0 bl (9 + 3 * nc))) ((List.range ns).map (sh0 bl (9 + 3 * nc + 4 * nl))) ((List.range nc).map (ln0 bl)))) (fun _ i _ => nc - (intOf i).toNat)
  case atStart => exact ⟨0, fr, Nat.zero_le _, rfl, rfl, hid rfl, HX⟩
  case round =>
    clear HX
    obtain ⟨k, t, hk, rfl, rfl, HT, HX⟩ := hrel
    have hnc : nc ≤ 255 := HBn.out.1
    have ht : t ≤ 20000000 := by have := HT.out; have := gSum_le HB.out k; have := HBn.out; have := HFR.out; omega
    have ht0 : (0 : Int) ≤ (t : Int) := by omega
    have ht1 : (t : Int) ≤ 20000000 := by omega
    by_cases hlt : k < nc
    · have hk1 : (k : Int) < (nc : Int) := by omega
      have hk0 : (0 : Int) ≤ (k : Int) := by omega
      obtain ⟨b', o', eA, hb1, hrg⟩ := HX.out.rn.elem int_len (k := k) (by simpa using hlt) (ln0 bl k) (by simp)
      have e0 := hrg 0 _ rfl
      simp only [Nat.add_zero, Nat.mul_one] at e0
      have HLK := lnN_eq HB.out k
      have HGS := hid (show gSum bl (k + 1) = gSum bl k + lnN bl k from rfl)
      rw [HLK.1] at e0
      obtain ⟨n, hn⟩ : ∃ y, lnN bl k = y := ⟨_, rfl⟩
      rw [hn] at e0 HGS HLK
      have hn1 : (n : Int) ≤ 65535 := by omega
      have hn0 : (0 : Int) ≤ (n : Int) := by omega
      subst eA
      clear hrg hn HLK
      go_wp2
      go_roundw
      case rel => exact ⟨k + 1, t + n, by omega, by go_num, by rw [Int.natCast_add], hid (by have := HT.out; have := HGS.out; omega), HX⟩
      case measure => simp [intOf]; omega
    · obtain rfl : nc = k := by omega
      have hk1 : ¬ (nc : Int) < (nc : Int) := by omega
      by_cases heq : t = bn
      · obtain rfl : bn = t := heq.symm
        have HER2 := hid (show gErr bl = if rightV (gImg (cmZ bl) bl) = false ∨ hdB (gImg (cmZ bl) bl) ≠ bl.take fr then 1 else if rightV (gImg (cmC bl) bl) = false then 151 else 0 by rw [HER.out, if_neg (by rw [← HT.out]; simp)])
        go_wp2
        go_loopw [48] (fun i wr => ∃ (k : Nat) (cs : List Cmp), k ≤ nc ∧ i = .int .i64 k ∧ Hid (ZK bl nc k cs) ∧ Hid (GX w wr g x5 CA LA SA NA [.bool st, .int .i64 hp, .int .i64 fl, .slice CA nc cc, .slice LA nl lc, .slice SA ns sc] cs ((List.range nl).map (lk0 bl (9 + 3 * nc))) ((List.range ns).map (sh0 bl (9 + 3 * nc + 4 * nl))) ((List.range nc).map (ln0 bl)))) (fun i _ => nc - (intOf i).toNat)
        case atStart => exact ⟨0, _, Nat.zero_le _, rfl, hid ZK.start, HX⟩
        case round =>
          clear HX
          obtain ⟨k, cs, hk, rfl, HZ, HX⟩ := hrel
          by_cases hlt : k < nc
          · have hk1 : (k : Int) < (nc : Int) := by omega
            have hk0 : (0 : Int) ≤ (k : Int) := by omega
            have hkl : k < cs.length := by rw [HZ.out.1]; exact hlt
            obtain ⟨b', o', eA, hb1, hrg⟩ := HX.out.rn.elem int_len (k := k) (by simpa using hlt) (ln0 bl k) (by simp)
            have e0 := hrg 0 _ rfl
            simp only [Nat.add_zero, Nat.mul_one] at e0
            have HLK := lnN_eq HB.out k
            rw [HLK.1] at e0
            obtain ⟨n, hn⟩ : ∃ y, lnN bl k = y := ⟨_, rfl⟩
            rw [hn] at e0 HLK
            have HN := hid hn
            have hn2 : n ≤ 65535 := HLK.2
            subst eA
            clear hrg hn HLK
            obtain ⟨cb, co, hCA, hrow⟩ := HX.out.rc (by omega)
            subst hCA
            obtain ⟨d, hd⟩ : ∃ d, cs[k]? = some d := ⟨_, List.getElem?_eq_getElem hkl⟩
            have HD := hid hd
            have HDD := hid (show cs[k] = d by have := List.getElem?_eq_getElem hkl; rw [hd] at this; exact (Option.some.inj this).symm)
            clear hd
            go_upto_region 14 with (fail)
            clear e0 hb1
            have HKL := hid hkl

            obtain ⟨u0, hu, uz0, uz1, uz2⟩ := info_parts info_u8
            refine wp_region_only (S := (fun i => i = cb)) (.rd 0 (.rd 1 (.rd 2 (.rd 3 (.ac 4 (.rd 5 (.rd 6 (.ac 7 .done)))))))) (by kernel_rfl) (by kernel_rfl) (fun _ _ d _ _ h => by cases d <;> exact h) (by simp only [Ord.map, nthOp, List.append]; rfl) ?_
            intro d1
            have HX5 := hid (HX.out.ext (Ext.grow (Ext.refl wr) d1))
            replace hrow := hrow.ext (Ext.grow (Ext.refl wr) d1)
            generalize Go.Proofs.Ytgldlkoohfclpaa.grow wr d1 = W5 at HX5 hrow ⊢
            have hcl := hrow.lt
            have hcc := hrow.at_ (k * 2) (.slice d.A d.bl.length d.ca) (by have h1 := rowF_at cmp_len cs k 0 HKL.out (by decide); rw [Nat.add_zero] at h1; rw [h1, HDD.out]; rfl)
            have hcf := hrow.free (k * 2) (by rw [rowF_length cmp_len]; have := HKL.out; omega)
            have hx3 := HX5.out.rx.range 3 _ rfl
            have hxl := HX5.out.rx.lt
            simp only [Nat.zero_add] at hx3
            have hcx := (HX5.out.cx cb co rfl).2
            have HS0 := hid (Only.refl (fun i => i = cb) W5)
            clear hrow
            refine only_read (by rfl) (fun K hK => ?_)
            refine quiet_runD 53 rfl (.pointer (some ⟨x5, 3, none⟩)) (fun w => by kernel_rfl) ?_
            refine hK _ ?_
            clear hK K
            simp only [Act.put, List.setIfInBounds_toArray, List.set_cons_zero, List.set_cons_succ]
            refine only_read (by rfl) (fun K hK => ?_)
            refine quiet_load1 22 (.tmp 53) rfl (x5) (3) rfl (.slice (some ⟨cb, co, none⟩) nc cc) _ (fun w' hw' => (hw'.cells x5 3 hxl (by omega)).trans hx3) Try.underlying22 rfl ?_
            refine hK _ ?_
            clear hK K
            simp only [Act.put, List.setIfInBounds_toArray, List.set_cons_zero, List.set_cons_succ]
            refine only_read (by rfl) (fun K hK => ?_)
            go_big_quiet_op
            refine hK _ ?_
            clear hK K
            refine only_read (by rfl) (fun K hK => ?_)
            go_big_quiet_op
            refine hK _ ?_
            clear hK K
            refine only_act (by rfl) (fun K hK => ?_)
            refine wp_make1 27 (.tmp 56) (.tmp 56) rfl 5 u0 (.int .u8 0) Try.underlying27 hu uz0 rfl uz1 _ n rfl rfl rfl (by rw [uz2]; omega) (by unfold maxLen; omega) ?_
            intro V1 hx1 MB0
            have HMR := hid (made_row MB0)
            clear MB0
            obtain ⟨b, hbW⟩ : ∃ y, W5.heap.size = y := ⟨_, rfl⟩
            rw [hbW] at HMR ⊢
            have hbx : x5 < b := by rw [← hbW]; exact HX5.out.rx.lt
            have HFR5 := hid (show ∀ e ∈ cs, e.A ≠ some ⟨b, 0, none⟩ from fun e he hA => by
              rcases HX5.out.cd e he with ⟨e1, _⟩ | ⟨b2, e1, _, e3, _⟩
              · rw [e1] at hA; cases hA
              · rw [e1] at hA; cases hA; have := e3.lt; omega)
            have HX6 := hid (HX5.out.ext hx1)
            have HS6 := hid (Only.transExt HS0.out hx1)
            have hcc1 := (hx1.cells cb _ hcl).trans hcc
            have hcf1 := (hx1.frozens cb _ hcl).trans hcf
            have hcl1 := Nat.lt_of_lt_of_le hcl hx1.size
            refine hK _ _ ⟨_, Only.refl _ _, HS6.out, ?_⟩
            clear hK K hcc hcf
            simp only [Act.put, List.setIfInBounds_toArray, List.set_cons_zero, List.set_cons_succ]
            refine only_read (by rfl) (fun K hK => ?_)
            refine quiet_runD 58 rfl (.pointer (some ⟨cb, co + k * 2, none⟩)) (fun w => by go_simp) ?_
            refine hK _ ?_
            clear hK K
            simp only [Act.put, List.setIfInBounds_toArray, List.set_cons_zero, List.set_cons_succ]
            refine only_read (by rfl) (fun K hK => ?_)
            refine quiet_runD 59 rfl (.pointer (some ⟨cb, co + k * 2, none⟩)) (fun w => by kernel_rfl) ?_
            refine hK _ ?_
            clear hK K
            simp only [Act.put, List.setIfInBounds_toArray, List.set_cons_zero, List.set_cons_succ]
            refine only_act (by rfl) (fun K hK => ?_)
            go_wp2_with fail
            refine ⟨_, Only.refl _ _, Only.setCell HS6.out (.inl rfl) _, ?_⟩
            refine only_nil ?_
            go_wp2
            go_roundw
            case rel => exact ⟨k + 1, _, by omega, by go_num, hid (by have := HZ.out.step (b := b) HD.out; rwa [HN.out] at this), hid (HX6.out.putc HD.out hbx HMR.out (by omega) HFR5.out rfl)⟩
            case measure => simp [intOf]; omega
          · obtain rfl : nc = k := by omega
            have hk1 : ¬ (nc : Int) < (nc : Int) := by omega
            have HST := hid (show (⟨st, hp, fl, CA, cc, cs, LA, lc, ((List.range nl).map (lk0 bl (9 + 3 * nc))), SA, sc, ((List.range ns).map (sh0 bl (9 + 3 * nc + 4 * nl)))⟩ : Img).strip = gImg (cmZ bl) bl by rw [HIMG.out]; unfold Img.strip; rw [HZ.out.done])
            have h9 : 9 ≤ bl.length := by have := HT.out; have := HFR.out; have := HBL.out; omega
            obtain ⟨ab, ao, hAE, hab, _⟩ := HRB.out (by omega)
            subst hAE
            have HAB := hid hab
            have hfb : fr ≤ bn := by have := HT.out; omega
            have hfc : (fr : Int) ≤ (ca : Int) := by omega
            have hfb2 : (fr : Int) ≤ (bn : Int) := by omega
            have hf0 : (0 : Int) ≤ (fr : Int) := by omega
            have hf9 : 9 ≤ fr := by have := HFR.out; omega
            clear h9 hab
            obtain ⟨v, hv⟩ : ∃ y, rightV (gImg (cmZ bl) bl) = y := ⟨_, rfl⟩
            obtain ⟨H0, hH0⟩ : ∃ y, hdB (gImg (cmZ bl) bl) = y := ⟨_, rfl⟩
            rw [hv, hH0] at HER2
            have HBH := hid (show byteL H0 by rw [← hH0]; exact hdB_byte _)
            have HHL := hid (show 0 < H0.length by rw [← hH0, hdB_len]; omega)
            have HRO := hid (show v = true → ∀ k, k < nc → 4 ≤ lnN bl k from fun hvt k hk => by
              have h1 := ((rightV_ok (by rw [hv]; exact hvt)).2.1 (cmZ bl k) (by rw [HIMG.out]; exact List.mem_map.2 ⟨k, List.mem_range.2 hk, rfl⟩)).1.1
              simpa [cmZ] using h1)
            have hnc5 : nc ≤ 255 := HBn.out.1
            have hnl5 : nl ≤ 255 := HBn.out.2.1
            have hns5 : ns ≤ 255 := HBn.out.2.2
            have HR1 : Hid (∀ W, Ext wr W → Calls Try.prog 14 #[.agg #[.bool st, .int .i64 hp, .int .i64 fl, .slice CA nc cc, .slice LA nl lc, .slice SA ns sc]] W fun e w' => e = .returned (.bool v) ∧ Ext W w') := hid (fun W hx => by
              have h1 := imRight_ (⟨st, hp, fl, CA, cc, cs, LA, lc, ((List.range nl).map (lk0 bl (9 + 3 * nc))), SA, sc, ((List.range ns).map (sh0 bl (9 + 3 * nc + 4 * nl)))⟩ : Img) W ((HX.out.ext hx).imgAt st hp fl cc lc sc) (by show cs.length ≤ _; rw [HZ.out.1]; omega) (by show ((List.range nl).map (lk0 bl (9 + 3 * nc))).length ≤ _; simp; omega) (by show ((List.range ns).map (sh0 bl (9 + 3 * nc + 4 * nl))).length ≤ _; simp; omega)
              rw [show rightV (⟨st, hp, fl, CA, cc, cs, LA, lc, ((List.range nl).map (lk0 bl (9 + 3 * nc))), SA, sc, ((List.range ns).map (sh0 bl (9 + 3 * nc + 4 * nl)))⟩ : Img) = v by rw [← rightV_strip, HST.out, hv]] at h1
              rw [show (Value.slice CA nc cc) = .slice CA cs.length cc by rw [HZ.out.1], show (Value.slice LA nl lc) = .slice LA ((List.range nl).map (lk0 bl (9 + 3 * nc))).length lc by simp, show (Value.slice SA ns sc) = .slice SA ((List.range ns).map (sh0 bl (9 + 3 * nc + 4 * nl))).length sc by simp]
              exact h1)
            have HHD : Hid (∀ W, Ext wr W → Calls Try.prog 32 #[.agg #[.bool st, .int .i64 hp, .int .i64 fl, .slice CA nc cc, .slice LA nl lc, .slice SA ns sc]] W fun e w' => ∃ A ca, e = .returned (.slice A H0.length ca) ∧ Hid (OwnY w' W.heap.size (.slice A H0.length ca) H0) ∧ Hid (Ext W w')) := hid (fun W hx => by
              have h1 := head_ (⟨st, hp, fl, CA, cc, cs, LA, lc, ((List.range nl).map (lk0 bl (9 + 3 * nc))), SA, sc, ((List.range ns).map (sh0 bl (9 + 3 * nc + 4 * nl)))⟩ : Img) W ((HX.out.ext hx).imgAt st hp fl cc lc sc) (by show cs.length ≤ _; rw [HZ.out.1]; omega) (by show ((List.range nl).map (lk0 bl (9 + 3 * nc))).length ≤ _; simp; omega) (by show ((List.range ns).map (sh0 bl (9 + 3 * nc + 4 * nl))).length ≤ _; simp; omega)
              rw [show hdB (⟨st, hp, fl, CA, cc, cs, LA, lc, ((List.range nl).map (lk0 bl (9 + 3 * nc))), SA, sc, ((List.range ns).map (sh0 bl (9 + 3 * nc + 4 * nl)))⟩ : Img) = H0 by rw [← hdB_strip, HST.out, hH0]] at h1
              rw [show (Value.slice CA nc cc) = .slice CA cs.length cc by rw [HZ.out.1], show (Value.slice LA nl lc) = .slice LA ((List.range nl).map (lk0 bl (9 + 3 * nc))).length lc by simp, show (Value.slice SA ns sc) = .slice SA ((List.range ns).map (sh0 bl (9 + 3 * nc + 4 * nl))).length sc by simp]
              exact h1)
            clear hH0
            obtain ⟨ev, hev⟩ : ∃ y, decide (H0 = bl.take fr) = y := ⟨_, rfl⟩
            have HBT := hid (show byteL (bl.take fr) from fun z hz => HB.out z (List.mem_of_mem_take hz))
            have HBEQ := hid (show ((strOf H0).toList == (strOf (bl.take fr)).toList) = ev by rw [str_beq HBH.out HBT.out, hev])
            have HTL := hid (show (bl.take fr).length = fr by rw [List.length_take, HBL.out]; omega)
            have HEV := hid hev
            have HV := hid hv
            clear hev hv
            go_upto_region 16 with (fail)
            cases v with
            | false =>
              have HE1 := hid (show gErr bl = 1 by rw [HER2.out, if_pos (.inl rfl)])
              refine wp_region_step (.rd 0 (.ac 1 (.rd 2 (.rd 3 (.rd 4 (.rd 6 (.rd 7 (.rd 8 (.ac 5 (.ac 9 (.rd 10 (.rd 11 .done)))))))))))) (by kernel_rfl) (by kernel_rfl) (fun _ _ d _ _ h => by cases d <;> exact h) (by simp only [Ord.map, nthOp, List.append]; rfl) ?_
              intro d0
              have HU0 := hid (Ext.grow (Ext.refl wr) d0)
              generalize Go.Proofs.Ytgldlkoohfclpaa.grow wr d0 = U0 at HU0 ⊢
              refine step_read (by rfl) (fun K hK => ?_)
              refine quiet_loadC 26 (.tmp 5) rfl (x5) (0) rfl [.bool st, .int .i64 hp, .int .i64 fl, .slice CA nc cc, .slice LA nl lc, .slice SA ns sc] _ (fun w' hw' => (by obtain ⟨dd, rfl⟩ := hw'; exact ((HX.out.ext HU0.out).ext (Ext.grow (Ext.refl _) dd)).rx.range)) Try.underlying26 rfl (by kernel_rfl) ?_
              refine hK _ ?_
              clear hK K
              simp only [Act.put, List.setIfInBounds_toArray, List.set_cons_zero, List.set_cons_succ]
              refine step_act (by rfl) (fun K hK => ?_)
              go_wp2_with (go_at_call 14; refine (HR1.out U0 HU0.out).mono ?_; rintro e U1 ⟨rfl, hx⟩)
              refine ⟨_, hx, Ext.refl _, ?_⟩
              have HU1 := hid (HU0.out.trans hx)
              have hxa1 := hx
              clear hx
              refine step_read (by rfl) (fun K hK => ?_)
              go_big_quiet_op
              refine hK _ ?_
              clear hK K
              refine step_read (by rfl) (fun K hK => ?_)
              go_big_quiet_op
              refine hK _ ?_
              clear hK K
              refine step_skip (by rfl) ?_
              simp only [Act.put, List.setIfInBounds_toArray, List.set_cons_zero, List.set_cons_succ]
              refine step_skip (by rfl) ?_
              simp only [Act.put, List.setIfInBounds_toArray, List.set_cons_zero, List.set_cons_succ]
              refine step_skip (by rfl) ?_
              simp only [Act.put, List.setIfInBounds_toArray, List.set_cons_zero, List.set_cons_succ]
              refine step_skip (by rfl) ?_
              simp only [Act.put, List.setIfInBounds_toArray, List.set_cons_zero, List.set_cons_succ]
              refine step_idle (by rfl) ?_
              simp only [Act.put, List.setIfInBounds_toArray, List.set_cons_zero, List.set_cons_succ]
              refine step_idle (by rfl) ?_
              simp only [Act.put, List.setIfInBounds_toArray, List.set_cons_zero, List.set_cons_succ]
              refine step_skip (by rfl) ?_
              simp only [Act.put, List.setIfInBounds_toArray, List.set_cons_zero, List.set_cons_succ]
              refine step_read (by rfl) (fun K hK => ?_)
              go_big_quiet_op
              refine hK _ ?_
              clear hK K
              refine step_nil ?_
              have HX6 := hid (HX.out.ext HU1.out)
              clear HX
              generalize U1 = W6 at HX6 ⊢
              have r1 := HX6.out.rg
              have r1l := r1.lt
              have r1c0 := r1.range 0 _ rfl
              have r1f0 := r1.free 0 (by show 0 < 6; decide)
              have r1c1 := r1.range 1 _ rfl
              have r1f1 := r1.free 1 (by show 1 < 6; decide)
              have r1c2 := r1.range 2 _ rfl
              have r1f2 := r1.free 2 (by show 2 < 6; decide)
              have r1c3 := r1.range 3 _ rfl
              have r1f3 := r1.free 3 (by show 3 < 6; decide)
              have r1c4 := r1.range 4 _ rfl
              have r1f4 := r1.free 4 (by show 4 < 6; decide)
              have r1c5 := r1.range 5 _ rfl
              have r1f5 := r1.free 5 (by show 5 < 6; decide)
              simp only [Nat.zero_add] at r1c1 r1c2 r1c3 r1c4 r1c5 r1f1 r1f2 r1f3 r1f4 r1f5
              clear r1
              go_wp2
              refine bodyPost_ret (v := .tuple #[.agg #[.bool false, .int .i64 0, .int .i64 0, .slice none 0 0, .slice none 0 0, .slice none 0 0], .int .i64 1]) (by simp [results, Try.results12, go_sem, r1l, r1c0, r1c1, r1c2, r1c3, r1c4, r1c5]) rfl ?_
              have HFN := hid (Only.setCell (S := (fun i => i = g)) (Only.setCell (S := (fun i => i = g)) (Only.setCell (S := (fun i => i = g)) (Only.setCell (S := (fun i => i = g)) (Only.setCell (S := (fun i => i = g)) (Only.setCell (S := (fun i => i = g)) (Only.refl (fun i => i = g) W6) (.inl rfl) (o := 0) (.bool false)) (.inl rfl) (o := 1) (.int .i64 0)) (.inl rfl) (o := 2) (.int .i64 0)) (.inl rfl) (o := 3) (.slice none 0 0)) (.inl rfl) (o := 4) (.slice none 0 0)) (.inl rfl) (o := 5) (.slice none 0 0))
              exact ⟨⟨zImg, by rw [HE1.out]; rfl, hid ⟨RdF.nil _ _, (fun d hd => nomatch hd), RdF.nil _ _, RdF.nil _ _⟩, hid (by unfold IsGot; rw [HE1.out]; rfl)⟩, hid (Ext.only HX6.out.ew HFN.out (fun i hi => by have := HX6.out.hg; omega))⟩
            | true =>
              cases ev with
              | false =>
                have HE1 := hid (show gErr bl = 1 by rw [HER2.out, if_pos (.inr (of_decide_eq_false HEV.out))])
                refine wp_region_step (.rd 0 (.ac 1 (.rd 2 (.rd 3 (.rd 4 (.rd 6 (.rd 7 (.rd 8 (.ac 5 (.ac 9 (.rd 10 (.rd 11 .done)))))))))))) (by kernel_rfl) (by kernel_rfl) (fun _ _ d _ _ h => by cases d <;> exact h) (by simp only [Ord.map, nthOp, List.append]; rfl) ?_
                intro d0
                have HU0 := hid (Ext.grow (Ext.refl wr) d0)
                generalize Go.Proofs.Ytgldlkoohfclpaa.grow wr d0 = U0 at HU0 ⊢
                refine step_read (by rfl) (fun K hK => ?_)
                refine quiet_loadC 26 (.tmp 5) rfl (x5) (0) rfl [.bool st, .int .i64 hp, .int .i64 fl, .slice CA nc cc, .slice LA nl lc, .slice SA ns sc] _ (fun w' hw' => (by obtain ⟨dd, rfl⟩ := hw'; exact ((HX.out.ext HU0.out).ext (Ext.grow (Ext.refl _) dd)).rx.range)) Try.underlying26 rfl (by kernel_rfl) ?_
                refine hK _ ?_
                clear hK K
                simp only [Act.put, List.setIfInBounds_toArray, List.set_cons_zero, List.set_cons_succ]
                refine step_act (by rfl) (fun K hK => ?_)
                go_wp2_with (go_at_call 14; refine (HR1.out U0 HU0.out).mono ?_; rintro e U1 ⟨rfl, hx⟩)
                refine ⟨_, hx, Ext.refl _, ?_⟩
                have HU1 := hid (HU0.out.trans hx)
                have hxa1 := hx
                clear hx
                refine step_read (by rfl) (fun K hK => ?_)
                go_big_quiet_op
                refine hK _ ?_
                clear hK K
                refine step_read (by rfl) (fun K hK => ?_)
                go_big_quiet_op
                refine hK _ ?_
                clear hK K
                refine step_read (by rfl) (fun K hK => ?_)
                refine quiet_loadC 26 (.tmp 5) rfl (x5) (0) rfl [.bool st, .int .i64 hp, .int .i64 fl, .slice CA nc cc, .slice LA nl lc, .slice SA ns sc] _ (fun w' hw' => (by obtain ⟨dd, rfl⟩ := hw'; exact ((HX.out.ext HU1.out).ext (Ext.grow (Ext.refl _) dd)).rx.range)) Try.underlying26 rfl (by kernel_rfl) ?_
                refine hK _ ?_
                clear hK K
                simp only [Act.put, List.setIfInBounds_toArray, List.set_cons_zero, List.set_cons_succ]
                refine step_read (by rfl) (fun K hK => ?_)
                go_big_quiet_op
                refine hK _ ?_
                clear hK K
                refine step_read (by rfl) (fun K hK => ?_)
                go_big_quiet_op
                refine hK _ ?_
                clear hK K
                refine step_read (by rfl) (fun K hK => ?_)
                go_big_quiet_op
                refine hK _ ?_
                clear hK K
                refine step_act (by rfl) (fun K hK => ?_)
                go_wp2_with (go_at_call 32; refine (HHD.out U1 HU1.out).mono ?_; rintro e U2 ⟨A6, c6, rfl, HO6, hx6⟩; have hx := hx6.out; clear hx6)
                refine ⟨_, hx, Ext.refl _, ?_⟩
                have HU2 := hid (HU1.out.trans hx)
                have hxa5 := hx
                clear hx
                refine step_act (by rfl) (fun K hK => ?_)
                go_wp2_with (go_at_call 31; refine (equal_ A6 (some ⟨ab, ao, none⟩) H0.length fr c6 ca H0 (bl.take fr) U2 (by_rdB (ownsAt.rdF HO6.out rfl)) (by_rdB (((rdB_by HRB.out).ext (HX.out.ew.trans HU2.out)).take by_len fr)) (fun e => by have := HHL.out; rw [e] at this; cases this) (fun e => by have := HTL.out; rw [e] at this; simp at this; omega) rfl HTL.out.symm).mono ?_; rintro e U3 ⟨he, hw⟩; rw [HBEQ.out] at he; subst he; have hx : Ext U2 U3 := hw ▸ Ext.refl _; clear hw)
                refine ⟨_, hx, Ext.refl _, ?_⟩
                have HU3 := hid (HU2.out.trans hx)
                have hxa9 := hx
                clear hx
                refine step_read (by rfl) (fun K hK => ?_)
                go_big_quiet_op
                refine hK _ ?_
                clear hK K
                refine step_read (by rfl) (fun K hK => ?_)
                go_big_quiet_op
                refine hK _ ?_
                clear hK K
                refine step_nil ?_
                have HX6 := hid (HX.out.ext HU3.out)
                clear HX
                generalize U3 = W6 at HX6 ⊢
                have r1 := HX6.out.rg
                have r1l := r1.lt
                have r1c0 := r1.range 0 _ rfl
                have r1f0 := r1.free 0 (by show 0 < 6; decide)
                have r1c1 := r1.range 1 _ rfl
                have r1f1 := r1.free 1 (by show 1 < 6; decide)
                have r1c2 := r1.range 2 _ rfl
                have r1f2 := r1.free 2 (by show 2 < 6; decide)
                have r1c3 := r1.range 3 _ rfl
                have r1f3 := r1.free 3 (by show 3 < 6; decide)
                have r1c4 := r1.range 4 _ rfl
                have r1f4 := r1.free 4 (by show 4 < 6; decide)
                have r1c5 := r1.range 5 _ rfl
                have r1f5 := r1.free 5 (by show 5 < 6; decide)
                simp only [Nat.zero_add] at r1c1 r1c2 r1c3 r1c4 r1c5 r1f1 r1f2 r1f3 r1f4 r1f5
                clear r1
                go_wp2
                refine bodyPost_ret (v := .tuple #[.agg #[.bool false, .int .i64 0, .int .i64 0, .slice none 0 0, .slice none 0 0, .slice none 0 0], .int .i64 1]) (by simp [results, Try.results12, go_sem, r1l, r1c0, r1c1, r1c2, r1c3, r1c4, r1c5]) rfl ?_
                have HFN := hid (Only.setCell (S := (fun i => i = g)) (Only.setCell (S := (fun i => i = g)) (Only.setCell (S := (fun i => i = g)) (Only.setCell (S := (fun i => i = g)) (Only.setCell (S := (fun i => i = g)) (Only.setCell (S := (fun i => i = g)) (Only.refl (fun i => i = g) W6) (.inl rfl) (o := 0) (.bool false)) (.inl rfl) (o := 1) (.int .i64 0)) (.inl rfl) (o := 2) (.int .i64 0)) (.inl rfl) (o := 3) (.slice none 0 0)) (.inl rfl) (o := 4) (.slice none 0 0)) (.inl rfl) (o := 5) (.slice none 0 0))
                exact ⟨⟨zImg, by rw [HE1.out]; rfl, hid ⟨RdF.nil _ _, (fun d hd => nomatch hd), RdF.nil _ _, RdF.nil _ _⟩, hid (by unfold IsGot; rw [HE1.out]; rfl)⟩, hid (Ext.only HX6.out.ew HFN.out (fun i hi => by have := HX6.out.hg; omega))⟩
              | true =>
                have HE1 := hid (show gErr bl = if rightV (gImg (cmC bl) bl) = false then 151 else 0 by rw [HER2.out, if_neg (by simp [of_decide_eq_true HEV.out])])
                refine wp_region_step (.rd 0 (.ac 1 (.rd 2 (.rd 3 (.rd 4 (.rd 6 (.rd 7 (.rd 8 (.ac 5 (.ac 9 (.rd 10 (.rd 11 .done)))))))))))) (by kernel_rfl) (by kernel_rfl) (fun _ _ d _ _ h => by cases d <;> exact h) (by simp only [Ord.map, nthOp, List.append]; rfl) ?_
                intro d0
                have HU0 := hid (Ext.grow (Ext.refl wr) d0)
                generalize Go.Proofs.Ytgldlkoohfclpaa.grow wr d0 = U0 at HU0 ⊢
                refine step_read (by rfl) (fun K hK => ?_)
                refine quiet_loadC 26 (.tmp 5) rfl (x5) (0) rfl [.bool st, .int .i64 hp, .int .i64 fl, .slice CA nc cc, .slice LA nl lc, .slice SA ns sc] _ (fun w' hw' => (by obtain ⟨dd, rfl⟩ := hw'; exact ((HX.out.ext HU0.out).ext (Ext.grow (Ext.refl _) dd)).rx.range)) Try.underlying26 rfl (by kernel_rfl) ?_
                refine hK _ ?_
                clear hK K
                simp only [Act.put, List.setIfInBounds_toArray, List.set_cons_zero, List.set_cons_succ]
                refine step_act (by rfl) (fun K hK => ?_)
                go_wp2_with (go_at_call 14; refine (HR1.out U0 HU0.out).mono ?_; rintro e U1 ⟨rfl, hx⟩)
                refine ⟨_, hx, Ext.refl _, ?_⟩
                have HU1 := hid (HU0.out.trans hx)
                have hxa1 := hx
                clear hx
                refine step_read (by rfl) (fun K hK => ?_)
                go_big_quiet_op
                refine hK _ ?_
                clear hK K
                refine step_read (by rfl) (fun K hK => ?_)
                go_big_quiet_op
                refine hK _ ?_
                clear hK K
                refine step_read (by rfl) (fun K hK => ?_)
                refine quiet_loadC 26 (.tmp 5) rfl (x5) (0) rfl [.bool st, .int .i64 hp, .int .i64 fl, .slice CA nc cc, .slice LA nl lc, .slice SA ns sc] _ (fun w' hw' => (by obtain ⟨dd, rfl⟩ := hw'; exact ((HX.out.ext HU1.out).ext (Ext.grow (Ext.refl _) dd)).rx.range)) Try.underlying26 rfl (by kernel_rfl) ?_
                refine hK _ ?_
                clear hK K
                simp only [Act.put, List.setIfInBounds_toArray, List.set_cons_zero, List.set_cons_succ]
                refine step_read (by rfl) (fun K hK => ?_)
                go_big_quiet_op
                refine hK _ ?_
                clear hK K
                refine step_read (by rfl) (fun K hK => ?_)
                go_big_quiet_op
                refine hK _ ?_
                clear hK K
                refine step_read (by rfl) (fun K hK => ?_)
                go_big_quiet_op
                refine hK _ ?_
                clear hK K
                refine step_act (by rfl) (fun K hK => ?_)
                go_wp2_with (go_at_call 32; refine (HHD.out U1 HU1.out).mono ?_; rintro e U2 ⟨A6, c6, rfl, HO6, hx6⟩; have hx := hx6.out; clear hx6)
                refine ⟨_, hx, Ext.refl _, ?_⟩
                have HU2 := hid (HU1.out.trans hx)
                have hxa5 := hx
                clear hx
                refine step_act (by rfl) (fun K hK => ?_)
                go_wp2_with (go_at_call 31; refine (equal_ A6 (some ⟨ab, ao, none⟩) H0.length fr c6 ca H0 (bl.take fr) U2 (by_rdB (ownsAt.rdF HO6.out rfl)) (by_rdB (((rdB_by HRB.out).ext (HX.out.ew.trans HU2.out)).take by_len fr)) (fun e => by have := HHL.out; rw [e] at this; cases this) (fun e => by have := HTL.out; rw [e] at this; simp at this; omega) rfl HTL.out.symm).mono ?_; rintro e U3 ⟨he, hw⟩; rw [HBEQ.out] at he; subst he; have hx : Ext U2 U3 := hw ▸ Ext.refl _; clear hw)
                refine ⟨_, hx, Ext.refl _, ?_⟩
                have HU3 := hid (HU2.out.trans hx)
                have hxa9 := hx
                clear hx
                refine step_read (by rfl) (fun K hK => ?_)
                go_big_quiet_op
                refine hK _ ?_
                clear hK K
                refine step_read (by rfl) (fun K hK => ?_)
                go_big_quiet_op
                refine hK _ ?_
                clear hK K
                refine step_nil ?_
                have HX6 := hid (HX.out.ext HU3.out)
                clear HX
                generalize U3 = W6 at HX6 ⊢
                replace HRO := hid (HRO.out (by first | trivial | rfl))
                have HX := HX6
                clear HX6 HHD HR1 HBEQ HBT HTL HBH HHL HEV HV HER2
                go_upto_region 18 with (fail)
                have hx3 := HX.out.rx.range 3 _ rfl
                have hxl := HX.out.rx.lt
                simp only [Nat.zero_add] at hx3
                go_wp2
                clear hx3 hxl
                go_loopw [7, 77] (fun s7 i wr => ∃ (k t : Nat) (cs : List Cmp), k ≤ nc ∧ i = .int .i64 k ∧ s7 = .int .i64 (t : Int) ∧ Hid (t = fr + gSum bl k) ∧ Hid (CK bl nc k cs) ∧ Hid (GX w wr g x5 CA LA SA NA [.bool st, .int .i64 hp, .int .i64 fl, .slice CA nc cc, .slice LA nl lc, .slice SA ns sc] cs ((List.range nl).map (lk0 bl (9 + 3 * nc))) ((List.range ns).map (sh0 bl (9 + 3 * nc + 4 * nl))) ((List.range nc).map (ln0 bl)))) (fun _ i _ => nc - (intOf i).toNat)
                case atStart => exact ⟨0, fr, cs, Nat.zero_le _, rfl, rfl, hid rfl, hid (CK.start HZ.out), HX⟩
                case round =>
                  clear HX HZ HST cs
                  obtain ⟨k, t, cs, hk, rfl, rfl, HT2, HCK, HX⟩ := hrel
                  by_cases hlt : k < nc
                  · have hk1 : (k : Int) < (nc : Int) := by omega
                    have hk0 : (0 : Int) ≤ (k : Int) := by omega
                    have hkl : k < cs.length := by rw [HCK.out.1]; exact hlt
                    have hn1 : 0 < lnN bl k := Nat.lt_of_lt_of_le (by decide) (HRO.out k hlt)
                    have HGS := hid (show gSum bl (k + 1) = gSum bl k + lnN bl k from rfl)
                    have htn : t + lnN bl k ≤ bn := by have := HT.out; have := HT2.out; have := gSum_mono bl (show k + 1 ≤ nc by omega); have := HGS.out; omega
                    have hn2 := (lnN_eq HB.out k).2
                    obtain ⟨d, hd⟩ : ∃ d, cs[k]? = some d := ⟨_, List.getElem?_eq_getElem hkl⟩
                    have HD := hid hd
                    have hdm := List.mem_of_getElem? hd
                    have hdd : cs[k] = d := by have := List.getElem?_eq_getElem hkl; rw [hd] at this; exact (Option.some.inj this).symm
                    have hdl : d.bl.length = lnN bl k := by
                      have h1 := (HCK.out.2 k d hd).2 (Nat.le_refl _)
                      have h2 : d.bl = (cmZ bl k).bl := by rw [← h1]; rfl
                      rw [h2]
                      simp [cmZ]
                    obtain ⟨n, hn⟩ : ∃ y, lnN bl k = y := ⟨_, rfl⟩
                    have HN := hid hn
                    rw [hn] at hn1 HGS htn hn2 hdl
                    clear hn
                    obtain ⟨b', o', eA, hb1, hrg⟩ := (HX.out.imgAt st hp fl cc lc sc).c.elem cmp_len (k := k) hkl d hdd
                    obtain ⟨kb, hA, hkx, hdc⟩ : ∃ kb, d.A = some ⟨kb, 0, none⟩ ∧ x5 < kb ∧ d.ca = n := by
                      rcases HX.out.cd d hdm with ⟨_, e2, _⟩ | ⟨b2, e1, e2, _, e4, _⟩
                      · rw [e2] at hdl; simp at hdl; omega
                      · exact ⟨b2, e1, e2, by rw [e4, hdl]⟩
                    have e0 := hrg 0 _ rfl
                    have e1 := hrg 1 _ rfl
                    simp only [Nat.add_zero] at e0
                    rw [hA, hdl, hdc] at e0
                    have eA2 : CA = some ⟨b', o', none⟩ := eA
                    subst eA2
                    have HKB := hid (show kb < wr.heap.size by
                      rcases HX.out.cd d hdm with ⟨e1, _⟩ | ⟨b2, e1, _, e3, _⟩
                      · rw [e1] at hA; cases hA
                      · rw [e1] at hA; cases hA; exact e3.lt)
                    clear hrg eA hdd hd
                    go_upto_region 21 with (fail)
                    refine wp_gen (fun W => Hid (GX w W g x5 (some ⟨b', o', none⟩) LA SA NA [.bool st, .int .i64 hp, .int .i64 fl, .slice (some ⟨b', o', none⟩) nc cc, .slice LA nl lc, .slice SA ns sc] cs ((List.range nl).map (lk0 bl (9 + 3 * nc))) ((List.range ns).map (sh0 bl (9 + 3 * nc + 4 * nl))) ((List.range nc).map (ln0 bl))) ∧ wr.heap.size < W.heap.size ∧ W.cell? ⟨wr.heap.size, 0, none⟩ = some (.slice (some ⟨kb, 0, none⟩) n n)) ⟨hid (HX.out.ext ((Ext.refl _).alloc _)), by simp, by simp [go_sem]⟩ ?_
                    rintro W7 ⟨HX7, hel, hec⟩
                    obtain ⟨e0v, he0v⟩ : ∃ y, wr.heap.size = y := ⟨_, rfl⟩
                    have hke : kb < e0v := by have := HKB.out; omega
                    rw [he0v] at hel hec ⊢
                    clear e0 e1 he0v hb1 hdm hdc HX hkl
                    have ht0 : (0 : Int) ≤ (t : Int) := by omega
                    have htb : (t : Int) ≤ (bn : Int) := by omega
                    have htc : (t : Int) ≤ (ca : Int) := by omega
                    have htne : ¬ ca = t := by omega
                    have ht2 : (t : Int) ≤ 100000 := by have := HNB.out; omega
                    have hnz : (0 : Int) ≤ (n : Int) := by omega
                    have hn3 : (n : Int) ≤ 65535 := by omega
                    refine wp_region_only (S := (fun i => i = kb)) (.rd 0 (.rd 1 (.rd 2 (.rd 3 (.rd 4 (.rd 5 (.ac 6 (.rd 7 (.rd 8 .done))))))))) (by kernel_rfl) (by kernel_rfl) (fun _ _ d _ _ h => by cases d <;> exact h) (by simp only [Ord.map, nthOp, List.append]; rfl) ?_
                    intro d1
                    have HX5 := hid (HX7.out.ext (Ext.grow (Ext.refl W7) d1))
                    have hec := ((Ext.grow (Ext.refl W7) d1).cells e0v 0 hel).trans hec
                    have hel := Nat.lt_of_lt_of_le hel (Ext.grow (Ext.refl W7) d1).size
                    generalize Go.Proofs.Ytgldlkoohfclpaa.grow W7 d1 = W5 at HX5 hec hel ⊢
                    obtain ⟨m, hm⟩ : ∃ y, (bl.drop t).take n = y := ⟨_, rfl⟩
                    have HMM := hid hm
                    have hml : m.length = n := by rw [← hm, List.length_take, List.length_drop, HBL.out]; omega
                    have HMB := hid (show byteL m from fun z hz => HB.out z (by rw [← hm] at hz; exact List.mem_of_mem_drop (List.mem_of_mem_take hz)))
                    have HX8 := hid (HX5.out.fill HD.out hA (by rw [hml, hdl]) HMB.out)
                    have HKR := hid (show Row W5 kb 0 (rowF byF d.bl) by
                      rcases HX5.out.cd d (List.mem_of_getElem? HD.out) with ⟨e1, _⟩ | ⟨b2, e1, _, e3, _⟩
                      · rw [e1] at hA; cases hA
                      · rw [e1] at hA; cases hA; exact e3)
                    have HCP : Hid ((Builtin.copy_ #[27, 27] 3 #[.slice (some ⟨kb, 0, none⟩) n n, .slice (some ⟨ab, ao + t, none⟩) (bn - t) (ca - t)]).run Try.prog W5 = .ok (goInt n) (W5.setCells kb 0 (rowF byF m))) := hid (by
                      have h1 := run_copy_cells (P := Try.prog) W5 27 27 3 5 kb 0 n n ⟨ab, ao + t, none⟩ (bn - t) (ca - t) (rowF byF m) Try.underlying27 (by kernel_rfl) (by rw [rowF_length by_len, hml, Nat.mul_one]; exact (Nat.min_eq_right (by omega)).symm) (fun j u hj => by
                        have hrd := (((rdB_by HRB.out).ext HX5.out.ew).drop by_len t).take by_len n
                        rw [hm, Nat.mul_one] at hrd
                        obtain ⟨b2, o2, e2, _, hc2⟩ := hrd (by rw [hml]; exact hn1)
                        cases e2
                        rw [Addr.add_lit]
                        exact hc2 j u hj) (fun j hj => by rw [rowF_length by_len, hml, Nat.mul_one] at hj; rw [HKR.out.at_ j _ (List.getElem?_eq_getElem (by rw [rowF_length by_len, hdl, Nat.mul_one]; exact hj))]; rfl) (fun j hj => by rw [rowF_length by_len, hml, Nat.mul_one] at hj; exact HKR.out.free j (by rw [rowF_length by_len, hdl, Nat.mul_one]; exact hj)) (rowF_all by_one m)
                      rwa [rowF_length by_len, hml, Nat.mul_one] at h1)
                    have HS0 := hid (Only.refl (fun i => i = kb) W5)
                    clear hm hml HKR HX7 HX5
                    refine only_read (by rfl) (fun K hK => ?_)
                    go_big_quiet_op
                    refine hK _ ?_
                    clear hK K
                    refine only_read (by rfl) (fun K hK => ?_)
                    refine quiet_runD 82 rfl (.pointer (some ⟨e0v, 0, none⟩)) (fun w => by kernel_rfl) ?_
                    refine hK _ ?_
                    clear hK K
                    simp only [Act.put, List.setIfInBounds_toArray, List.set_cons_zero, List.set_cons_succ]
                    refine only_read (by rfl) (fun K hK => ?_)
                    refine quiet_load1 27 (.tmp 82) rfl (e0v) (0) rfl (.slice (some ⟨kb, 0, none⟩) n n) _ (fun w' hw' => (hw'.cells e0v 0 hel (by omega)).trans hec) Try.underlying27 rfl ?_
                    refine hK _ ?_
                    clear hK K
                    simp only [Act.put, List.setIfInBounds_toArray, List.set_cons_zero, List.set_cons_succ]
                    refine only_read (by rfl) (fun K hK => ?_)
                    go_big_quiet_op
                    refine hK _ ?_
                    clear hK K
                    refine only_read (by rfl) (fun K hK => ?_)
                    go_big_quiet_op
                    refine hK _ ?_
                    clear hK K
                    refine only_read (by rfl) (fun K hK => ?_)
                    refine quiet_runD 86 rfl (.slice (some ⟨ab, ao + t, none⟩) (bn - t) (ca - t)) (fun w => by go_simp) ?_
                    refine hK _ ?_
                    clear hK K
                    simp only [Act.put, List.setIfInBounds_toArray, List.set_cons_zero, List.set_cons_succ]
                    refine only_act (by rfl) (fun K hK => ?_)
                    refine Lib.wp_copy_run _ _ _ 27 27 rfl _ _ rfl rfl HCP.out ?_
                    refine hK _ _ ⟨_, Only.refl _ _, Only.setCells (S := (fun i => i = kb)) (.inl rfl) _ _ HS0.out, ?_⟩
                    clear hK K
                    simp only [Act.put, List.setIfInBounds_toArray, List.set_cons_zero, List.set_cons_succ, goInt_nat]
                    refine only_read (by rfl) (fun K hK => ?_)
                    refine quiet_runD 88 rfl (.int .i64 ((t : Int) + (n : Int))) (fun w => by go_simp; exact wraps_64 _ (by omega) (by omega)) ?_
                    refine hK _ ?_
                    clear hK K
                    simp only [Act.put, List.setIfInBounds_toArray, List.set_cons_zero, List.set_cons_succ]
                    refine only_read (by rfl) (fun K hK => ?_)
                    go_big_quiet_op
                    refine hK _ ?_
                    clear hK K
                    refine only_nil ?_
                    go_wp2
                    go_roundw
                    case rel => exact ⟨k + 1, t + n, _, by omega, by go_num, by rw [Int.natCast_add], hid (by have := HT2.out; have := HGS.out; omega), hid (by have := HCK.out.step HD.out; rwa [HN.out, HGF.out, ← HT2.out, HMM.out] at this), HX8⟩
                    case measure => simp [intOf]; omega
                  · obtain rfl : nc = k := by omega
                    have hk1 : ¬ (nc : Int) < (nc : Int) := by omega
                    have HST := hid (show (⟨st, hp, fl, CA, cc, cs, LA, lc, ((List.range nl).map (lk0 bl (9 + 3 * nc))), SA, sc, ((List.range ns).map (sh0 bl (9 + 3 * nc + 4 * nl)))⟩ : Img).strip = gImg (cmC bl) bl by rw [HIMG.out]; unfold Img.strip; rw [HCK.out.done])
                    obtain ⟨v2, hv2⟩ : ∃ y, rightV (gImg (cmC bl) bl) = y := ⟨_, rfl⟩
                    rw [hv2] at HE1
                    have HR2 : Hid (∀ W, Ext wr W → Calls Try.prog 14 #[.agg #[.bool st, .int .i64 hp, .int .i64 fl, .slice CA nc cc, .slice LA nl lc, .slice SA ns sc]] W fun e w' => e = .returned (.bool v2) ∧ Ext W w') := hid (fun W hx => by
                      have h1 := imRight_ (⟨st, hp, fl, CA, cc, cs, LA, lc, ((List.range nl).map (lk0 bl (9 + 3 * nc))), SA, sc, ((List.range ns).map (sh0 bl (9 + 3 * nc + 4 * nl)))⟩ : Img) W ((HX.out.ext hx).imgAt st hp fl cc lc sc) (by show cs.length ≤ _; rw [HCK.out.1]; omega) (by show ((List.range nl).map (lk0 bl (9 + 3 * nc))).length ≤ _; simp; omega) (by show ((List.range ns).map (sh0 bl (9 + 3 * nc + 4 * nl))).length ≤ _; simp; omega)
                      rw [show rightV (⟨st, hp, fl, CA, cc, cs, LA, lc, ((List.range nl).map (lk0 bl (9 + 3 * nc))), SA, sc, ((List.range ns).map (sh0 bl (9 + 3 * nc + 4 * nl)))⟩ : Img) = v2 by rw [← rightV_strip, HST.out, hv2]] at h1
                      rw [show (Value.slice CA nc cc) = .slice CA cs.length cc by rw [HCK.out.1], show (Value.slice LA nl lc) = .slice LA ((List.range nl).map (lk0 bl (9 + 3 * nc))).length lc by simp, show (Value.slice SA ns sc) = .slice SA ((List.range ns).map (sh0 bl (9 + 3 * nc + 4 * nl))).length sc by simp]
                      exact h1)
                    clear hv2
                    go_upto_region 23 with (fail)
                    have r1 := HX.out.rx
                    have r1l := r1.lt
                    have r1c0 := r1.range 0 _ rfl
                    have r1f0 := r1.free 0 (by show 0 < 6; decide)
                    have r1c1 := r1.range 1 _ rfl
                    have r1f1 := r1.free 1 (by show 1 < 6; decide)
                    have r1c2 := r1.range 2 _ rfl
                    have r1f2 := r1.free 2 (by show 2 < 6; decide)
                    have r1c3 := r1.range 3 _ rfl
                    have r1f3 := r1.free 3 (by show 3 < 6; decide)
                    have r1c4 := r1.range 4 _ rfl
                    have r1f4 := r1.free 4 (by show 4 < 6; decide)
                    have r1c5 := r1.range 5 _ rfl
                    have r1f5 := r1.free 5 (by show 5 < 6; decide)
                    simp only [Nat.zero_add] at r1c1 r1c2 r1c3 r1c4 r1c5 r1f1 r1f2 r1f3 r1f4 r1f5
                    clear r1
                    go_wp2_with fail
                    refine (HR2.out _ (Ext.refl _)).mono ?_
                    rintro e WB ⟨rfl, hy⟩
                    replace HX := hid (HX.out.ext hy)
                    clear hy HR2 r1l r1c0 r1f0 r1c1 r1f1 r1c2 r1f2 r1c3 r1f3 r1c4 r1f4 r1c5 r1f5
                    cases v2 with
                    | false =>
                      replace HE1 := hid (HE1.out.trans (if_pos rfl))
                      have r1 := HX.out.rg
                      have r1l := r1.lt
                      have r1c0 := r1.range 0 _ rfl
                      have r1f0 := r1.free 0 (by show 0 < 6; decide)
                      have r1c1 := r1.range 1 _ rfl
                      have r1f1 := r1.free 1 (by show 1 < 6; decide)
                      have r1c2 := r1.range 2 _ rfl
                      have r1f2 := r1.free 2 (by show 2 < 6; decide)
                      have r1c3 := r1.range 3 _ rfl
                      have r1f3 := r1.free 3 (by show 3 < 6; decide)
                      have r1c4 := r1.range 4 _ rfl
                      have r1f4 := r1.free 4 (by show 4 < 6; decide)
                      have r1c5 := r1.range 5 _ rfl
                      have r1f5 := r1.free 5 (by show 5 < 6; decide)
                      simp only [Nat.zero_add] at r1c1 r1c2 r1c3 r1c4 r1c5 r1f1 r1f2 r1f3 r1f4 r1f5
                      clear r1
                      go_wp2
                      refine bodyPost_ret (v := .tuple #[.agg #[.bool false, .int .i64 0, .int .i64 0, .slice none 0 0, .slice none 0 0, .slice none 0 0], .int .i64 151]) (by simp [results, Try.results12, go_sem, r1l, r1c0, r1c1, r1c2, r1c3, r1c4, r1c5]) rfl ?_
                      have HFN := hid (Only.setCell (S := (fun i => i = g)) (Only.setCell (S := (fun i => i = g)) (Only.setCell (S := (fun i => i = g)) (Only.setCell (S := (fun i => i = g)) (Only.setCell (S := (fun i => i = g)) (Only.setCell (S := (fun i => i = g)) (Only.refl (fun i => i = g) WB) (.inl rfl) (o := 0) (.bool false)) (.inl rfl) (o := 1) (.int .i64 0)) (.inl rfl) (o := 2) (.int .i64 0)) (.inl rfl) (o := 3) (.slice none 0 0)) (.inl rfl) (o := 4) (.slice none 0 0)) (.inl rfl) (o := 5) (.slice none 0 0))
                      exact ⟨⟨zImg, by rw [HE1.out]; rfl, hid ⟨RdF.nil _ _, (fun d hd => nomatch hd), RdF.nil _ _, RdF.nil _ _⟩, hid (by unfold IsGot; rw [HE1.out]; rfl)⟩, hid (Ext.only HX.out.ew HFN.out (fun i hi => by have := HX.out.hg; omega))⟩
                    | true =>
                      replace HE1 := hid (HE1.out.trans (if_neg (by decide)))
                      have r1 := HX.out.rg
                      have r1l := r1.lt
                      have r1c0 := r1.range 0 _ rfl
                      have r1f0 := r1.free 0 (by show 0 < 6; decide)
                      have r1c1 := r1.range 1 _ rfl
                      have r1f1 := r1.free 1 (by show 1 < 6; decide)
                      have r1c2 := r1.range 2 _ rfl
                      have r1f2 := r1.free 2 (by show 2 < 6; decide)
                      have r1c3 := r1.range 3 _ rfl
                      have r1f3 := r1.free 3 (by show 3 < 6; decide)
                      have r1c4 := r1.range 4 _ rfl
                      have r1f4 := r1.free 4 (by show 4 < 6; decide)
                      have r1c5 := r1.range 5 _ rfl
                      have r1f5 := r1.free 5 (by show 5 < 6; decide)
                      simp only [Nat.zero_add] at r1c1 r1c2 r1c3 r1c4 r1c5 r1f1 r1f2 r1f3 r1f4 r1f5
                      clear r1
                      have q1 := HX.out.rx
                      have q1l := q1.lt
                      have q1c0 := q1.range 0 _ rfl
                      have q1c1 := q1.range 1 _ rfl
                      have q1c2 := q1.range 2 _ rfl
                      have q1c3 := q1.range 3 _ rfl
                      have q1c4 := q1.range 4 _ rfl
                      have q1c5 := q1.range 5 _ rfl
                      simp only [Nat.zero_add] at q1c1 q1c2 q1c3 q1c4 q1c5
                      clear q1
                      go_wp2
                      refine bodyPost_ret (v := .tuple #[.agg #[.bool st, .int .i64 hp, .int .i64 fl, .slice CA nc cc, .slice LA nl lc, .slice SA ns sc], .int .i64 0]) (by simp [results, Try.results12, go_sem, r1l, r1c0, r1c1, r1c2, r1c3, r1c4, r1c5]) rfl ?_
                      have HFN := hid (Only.setCell (S := (fun i => i = g)) (Only.setCell (S := (fun i => i = g)) (Only.setCell (S := (fun i => i = g)) (Only.setCell (S := (fun i => i = g)) (Only.setCell (S := (fun i => i = g)) (Only.setCell (S := (fun i => i = g)) (Only.refl (fun i => i = g) WB) (.inl rfl) (o := 0) (.bool st)) (.inl rfl) (o := 1) (.int .i64 hp)) (.inl rfl) (o := 2) (.int .i64 fl)) (.inl rfl) (o := 3) (.slice CA nc cc)) (.inl rfl) (o := 4) (.slice LA nl lc)) (.inl rfl) (o := 5) (.slice SA ns sc))
                      have HXF := HX.out.imgAt st hp fl cc lc sc
                      have hgg := HX.out.hx
                      have hln : cs.length = nc := HCK.out.1
                      have hll : ((List.range nl).map (lk0 bl (9 + 3 * nc))).length = nl := by simp
                      have hsl : ((List.range ns).map (sh0 bl (9 + 3 * nc + 4 * nl))).length = ns := by simp
                      refine ⟨⟨(⟨st, hp, fl, CA, cc, cs, LA, lc, ((List.range nl).map (lk0 bl (9 + 3 * nc))), SA, sc, ((List.range ns).map (sh0 bl (9 + 3 * nc + 4 * nl)))⟩ : Img), ?_, hid ⟨?_, ?_, ?_, ?_⟩, hid (by unfold IsGot; rw [HE1.out, if_pos rfl]; exact HST.out)⟩, hid (Ext.only HX.out.ew HFN.out (fun i hi => by have := HX.out.hg; omega))⟩
                      · rw [HE1.out]
                        show _ = Ending.returned (.tuple #[.agg #[.bool st, .int .i64 hp, .int .i64 fl, .slice CA cs.length cc, .slice LA ((List.range nl).map (lk0 bl (9 + 3 * nc))).length lc, .slice SA ((List.range ns).map (sh0 bl (9 + 3 * nc + 4 * nl))).length sc], .int .i64 0])
                        rw [hln, hll, hsl]
                      · exact HXF.c.only HFN.out (fun b o e => by have := (HX.out.cx b o e).1; omega)
                      · intro d hd
                        refine ⟨?_, (HXF.cb d hd).2⟩
                        rcases HX.out.cd d hd with ⟨e1, e2, _⟩ | ⟨b2, e1, e2, e3, _⟩
                        · intro h0
                          rw [e2] at h0
                          exact absurd h0 (Nat.lt_irrefl _)
                        · rw [e1]
                          exact by_rdB (RdF.row0 (e3.only HFN.out (by omega)))
                      · exact HXF.l.only HFN.out (fun b o e => by have := HX.out.lg b o e; omega)
                      · exact HXF.s.only HFN.out (fun b o e => by have := HX.out.sg b o e; omega)
      · have hne : ¬ (t : Int) = (bn : Int) := by omega
        have HE1 := hid (show gErr bl = 1 by rw [HER.out, if_pos (by rw [← HT.out]; exact heq)])
        go_upto_region 9 with (fail)
        have r1 := HX.out.rg
        have r1l := r1.lt
        have r1c0 := r1.range 0 _ rfl
        have r1f0 := r1.free 0 (by show 0 < 6; decide)
        have r1c1 := r1.range 1 _ rfl
        have r1f1 := r1.free 1 (by show 1 < 6; decide)
        have r1c2 := r1.range 2 _ rfl
        have r1f2 := r1.free 2 (by show 2 < 6; decide)
        have r1c3 := r1.range 3 _ rfl
        have r1f3 := r1.free 3 (by show 3 < 6; decide)
        have r1c4 := r1.range 4 _ rfl
        have r1f4 := r1.free 4 (by show 4 < 6; decide)
        have r1c5 := r1.range 5 _ rfl
        have r1f5 := r1.free 5 (by show 5 < 6; decide)
        simp only [Nat.zero_add] at r1c1 r1c2 r1c3 r1c4 r1c5 r1f1 r1f2 r1f3 r1f4 r1f5
        clear r1
        go_wp2
        refine bodyPost_ret (v := .tuple #[.agg #[.bool false, .int .i64 0, .int .i64 0, .slice none 0 0, .slice none 0 0, .slice none 0 0], .int .i64 1]) (by simp [results, Try.results12, go_sem, r1l, r1c0, r1c1, r1c2, r1c3, r1c4, r1c5]) rfl ?_
        have HFN := hid (Only.setCell (S := (fun i => i = g)) (Only.setCell (S := (fun i => i = g)) (Only.setCell (S := (fun i => i = g)) (Only.setCell (S := (fun i => i = g)) (Only.setCell (S := (fun i => i = g)) (Only.setCell (S := (fun i => i = g)) (Only.refl (fun i => i = g) wr) (.inl rfl) (o := 0) (.bool false)) (.inl rfl) (o := 1) (.int .i64 0)) (.inl rfl) (o := 2) (.int .i64 0)) (.inl rfl) (o := 3) (.slice none 0 0)) (.inl rfl) (o := 4) (.slice none 0 0)) (.inl rfl) (o := 5) (.slice none 0 0))
        exact ⟨⟨zImg, by rw [HE1.out]; rfl, hid ⟨RdF.nil _ _, (fun d hd => nomatch hd), RdF.nil _ _, RdF.nil _ _⟩, hid (by unfold IsGot; rw [HE1.out]; rfl)⟩, hid (Ext.only HX.out.ew HFN.out (fun i hi => by have := HX.out.hg; omega))⟩

end Go.Proofs.Ytgldlkoohfclpaa
