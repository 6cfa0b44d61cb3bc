/- Layer 17: the document: form. -/
import Derived.Test.YtgldlkoohfclpaaImAG
namespace Go.Proofs.Ytgldlkoohfclpaa
set_option linter.unusedSimpArgs false
set_option linter.unusedVariables false
open Go.RowKit

def cF (d : Cmp) : Bool := !outB (d.bl.length : Int) 4 4096 && (decide (d.bl.length % 4 = 0) && !outB d.data 1 8)
def cntP (ls : List Lnk) (n : Int) (k : Nat) : Nat := (lfF (ls.take k) n).length
def lF (x : Img) (i : Nat) (l : Lnk) : Bool := !outB l.fr 0 ((x.comps.length : Int) - 1) && (!outB l.to_ 0 ((x.comps.length : Int) - 1) && (!(l.fr == l.to_) && (!decide (l.at_ < 0) && (!decide (l.at_ ≥ lenC x.comps l.to_ / 4) && !decide ((8 : Int) < (cntP x.links l.fr (i + 1) : Int))))))
def sF (m : Nat) (d : Shr) : Bool := !outB d.rd 0 (2 ^ m - 1) && (!decide (d.wr_ < 0) && (bits .and .i64 d.wr_ d.rd == d.wr_))
def formV (x : Img) : Bool := !(n5 x).any id && (x.comps.all cF && (x.links.zipIdx.all (fun p => lF x p.2 p.1) && x.shares.all (sF x.comps.length)))
theorem all_bad {α : Type} {l : List α} {p : α → Bool} {z : α} (hz : z ∈ l) (h : p z = false) : l.all p = false := List.all_eq_false.2 ⟨z, hz, by rw [h]; decide⟩
theorem all_take {α : Type} {l : List α} {p : α → Bool} {k : Nat} {z : α} (hk : k < l.length) (hz : l[k] = z) (h : (l.take k).all p = true) (h2 : p z = true) : (l.take (k + 1)).all p = true := by
  rw [List.take_succ_eq_append_getElem hk, List.all_append, h, Bool.true_and, hz]
  simp [h2]
theorem zip_get {α : Type} {l : List α} {k : Nat} (hk : k < l.length) : k < l.zipIdx.length ∧ ∀ (h : k < l.zipIdx.length), l.zipIdx[k] = (l[k], k) := by
  refine ⟨by simpa using hk, fun h => by simp⟩
attribute [local irreducible] wpStep
set_option maxRecDepth 100000 in
set_option maxHeartbeats 4000000 in
theorem form_ (x : Img) (w : World) (h : ImgAt w x) (hc : x.comps.length ≤ 100000) (hl : x.links.length ≤ 100000) (hs : x.shares.length ≤ 100000) : Calls Try.prog 33 #[.agg #[.bool x.strict, .int .i64 x.heap, .int .i64 x.full, .slice x.C x.comps.length x.cc, .slice x.L x.links.length x.lc, .slice x.S x.shares.length x.sc]] w fun e w' => e = .returned (.bool (formV x)) ∧ Ext w w' := by
  have HI := hid h
  have HVAL := hid (show formV x = (!(n5 x).any id && (x.comps.all cF && (x.links.zipIdx.all (fun p => lF x p.2 p.1) && x.shares.all (sF x.comps.length)))) from rfl)
  have HN5 := hid (show (n5 x).any id = false → _ from n5_no)
  have HAV := hid (show n5 x = [outB x.heap 1 64, outB x.full 1 4096, outB (x.comps.length : Int) 1 4, decide ((16 : Int) < (x.links.length : Int)), decide ((4 : Int) < (x.shares.length : Int))] from rfl)
  obtain ⟨m, hm⟩ : ∃ y, x.comps.length = y := ⟨_, rfl⟩
  obtain ⟨ml, hml⟩ : ∃ y, x.links.length = y := ⟨_, rfl⟩
  obtain ⟨ms, hms⟩ : ∃ y, x.shares.length = y := ⟨_, rfl⟩
  obtain ⟨Ca, hCa⟩ : ∃ y, x.C = y := ⟨_, rfl⟩
  obtain ⟨La, hLa⟩ : ∃ y, x.L = y := ⟨_, rfl⟩
  obtain ⟨Sa, hSa⟩ : ∃ y, x.S = y := ⟨_, rfl⟩
  obtain ⟨xh, hxh⟩ : ∃ y, x.heap = y := ⟨_, rfl⟩
  obtain ⟨xf, hxf⟩ : ∃ y, x.full = y := ⟨_, rfl⟩
  have HM := hid hm
  have HML := hid hml
  have HMS := hid hms
  have HRC := hid (show RdF Cmp.cells w Ca x.comps by rw [← hCa]; exact h.c)
  have HRL := hid (show RdF Lnk.cells w La x.links by rw [← hLa]; exact h.l)
  have HRS := hid (show RdF Shr.cells w Sa x.shares by rw [← hSa]; exact h.s)
  rw [hm] at hc HVAL
  rw [hml] at hl
  rw [hms] at hs
  rw [hm, hml, hms, hxh, hxf] at HAV HN5
  rw [hm, hml, hms, hCa, hLa, hSa, hxh, hxf]
  clear hm hml hms hCa hLa hSa hxh hxf h
  go_enter Try.func33, Try.ntmps33
  go_upto_region 1 with (fail)
  refine wp_gen (fun V => Hid (Ext w V) ∧ Hid (Row V w.heap.size 0 [.bool x.strict, .int .i64 xh, .int .i64 xf, .slice Ca m x.cc, .slice La ml x.lc, .slice Sa ms x.sc])) ⟨hid (by repeat (first | (with_reducible exact Ext.refl _) | (with_reducible refine Ext.undrew ?_) | (with_reducible refine Ext.grow ?_ _) | (with_reducible refine Ext.drew ?_) | (with_reducible refine Ext.drewN ?_ _) | (with_reducible refine Ext.alloc ?_ _) | (with_reducible assumption) | ((with_reducible refine Ext.setCell ?_ ?_ _); rotate_left; (first | exact Nat.le_refl _ | ((try dsimp only); (try simp only [World.size_alloc, grow_size, World.size_setCell]); omega))))), hid (Row.new w _ _)⟩ ?_
  rintro V ⟨HE, HR⟩
  obtain ⟨p, hp⟩ : ∃ y, w.heap.size = y := ⟨_, rfl⟩
  rw [hp] at HR ⊢
  clear hp
  have q := HR.out
  have ql := q.lt
  have qc0 := q.range 0 _ rfl
  have qc1 := q.range 1 _ rfl
  have qc2 := q.range 2 _ rfl
  have qc3 := q.range 3 _ rfl
  have qc4 := q.range 4 _ rfl
  have qc5 := q.range 5 _ rfl
  simp only [Nat.zero_add] at qc1 qc2 qc3 qc4 qc5
  clear q
  go_upto_region 2 with (fail)
  obtain ⟨va, vah⟩ : ∃ y, outB xh 1 64 = y := ⟨_, rfl⟩
  obtain ⟨vb, vbh⟩ : ∃ y, outB xf 1 4096 = y := ⟨_, rfl⟩
  obtain ⟨vc, vch⟩ : ∃ y, outB (m : Int) 1 4 = y := ⟨_, rfl⟩
  obtain ⟨vd, vdh⟩ : ∃ y, decide ((16 : Int) < (ml : Int)) = y := ⟨_, rfl⟩
  obtain ⟨ve, veh⟩ : ∃ y, decide ((4 : Int) < (ms : Int)) = y := ⟨_, rfl⟩
  have HWa : Hid (∀ W, Calls Try.prog 64 #[.int .i64 (xh), .int .i64 (1), .int .i64 (64)] W fun e w' => ∃ b, e = .returned (.bool b) ∧ b = (!va) ∧ Ext W w') := hid (fun W => by refine (within_ (xh) (1) (64) W).mono ?_; rintro e w' ⟨rfl, hx⟩; exact ⟨_, rfl, by rw [vah], hx⟩)
  have HWb : Hid (∀ W, Calls Try.prog 64 #[.int .i64 (xf), .int .i64 (1), .int .i64 (4096)] W fun e w' => ∃ b, e = .returned (.bool b) ∧ b = (!vb) ∧ Ext W w') := hid (fun W => by refine (within_ (xf) (1) (4096) W).mono ?_; rintro e w' ⟨rfl, hx⟩; exact ⟨_, rfl, by rw [vbh], hx⟩)
  have HWc : Hid (∀ W, Calls Try.prog 64 #[.int .i64 ((m : Int)), .int .i64 (1), .int .i64 (4)] W fun e w' => ∃ b, e = .returned (.bool b) ∧ b = (!vc) ∧ Ext W w') := hid (fun W => by refine (within_ ((m : Int)) (1) (4) W).mono ?_; rintro e w' ⟨rfl, hx⟩; exact ⟨_, rfl, by rw [vch], hx⟩)
  have HD := hid vdh
  have HE5 := hid veh
  rw [vah, vbh, vch, vdh, veh] at HAV
  have HBAD : Hid (va = true ∨ vb = true ∨ vc = true ∨ vd = true ∨ ve = true → formV x = false) := hid (fun h => by
    rw [HVAL.out, HAV.out]
    rcases h with rfl | rfl | rfl | rfl | rfl <;> simp)
  have HGOOD : Hid (va = false → vb = false → vc = false → vd = false → ve = false → formV x = (x.comps.all cF && (x.links.zipIdx.all (fun p => lF x p.2 p.1) && x.shares.all (sF m))) ∧ m ≤ 4 ∧ 1 ≤ m ∧ ml ≤ 16 ∧ ms ≤ 4) := hid (fun h1 h2 h3 h4 h5 => by
    subst h1 h2 h3 h4 h5
    rw [HVAL.out, HAV.out]
    have h6 := HN5.out (by rw [HAV.out]; rfl)
    refine ⟨by simp, ?_⟩
    have a1 := HM.out
    have a2 := HML.out
    have a3 := HMS.out
    omega)
  clear vah vbh vch vdh veh HAV HN5 HVAL
  go_wp2_with fail
  refine (HWa.out _).mono ?_
  rintro e W1 ⟨b, rfl, hb, hx⟩
  replace HE := hid (HE.out.trans hx)
  replace HR := hid (HR.out.ext hx)
  clear hx ql qc0 qc1 qc2 qc3 qc4 qc5
  have q := HR.out
  have ql := q.lt
  have qc0 := q.range 0 _ rfl
  have qc1 := q.range 1 _ rfl
  have qc2 := q.range 2 _ rfl
  have qc3 := q.range 3 _ rfl
  have qc4 := q.range 4 _ rfl
  have qc5 := q.range 5 _ rfl
  simp only [Nat.zero_add] at qc1 qc2 qc3 qc4 qc5
  clear q
  cases va with
  | true =>
    replace hb : b = false := hb
    subst hb
    dsimp only
    have HBF := hid (HBAD.out (by simp))
    go_wp2
    go_ret
    exact ⟨by rw [HBF.out]; rfl, HE.out⟩
  | false =>
    replace hb : b = true := hb
    subst hb
    dsimp only
    go_wp2_with fail
    refine (HWb.out _).mono ?_
    rintro e W2 ⟨b, rfl, hb, hx⟩
    replace HE := hid (HE.out.trans hx)
    replace HR := hid (HR.out.ext hx)
    clear hx ql qc0 qc1 qc2 qc3 qc4 qc5
    have q := HR.out
    have ql := q.lt
    have qc0 := q.range 0 _ rfl
    have qc1 := q.range 1 _ rfl
    have qc2 := q.range 2 _ rfl
    have qc3 := q.range 3 _ rfl
    have qc4 := q.range 4 _ rfl
    have qc5 := q.range 5 _ rfl
    simp only [Nat.zero_add] at qc1 qc2 qc3 qc4 qc5
    clear q
    cases vb with
    | true =>
      replace hb : b = false := hb
      subst hb
      dsimp only
      have HBF := hid (HBAD.out (by simp))
      go_wp2
      go_ret
      exact ⟨by rw [HBF.out]; rfl, HE.out⟩
    | false =>
      replace hb : b = true := hb
      subst hb
      dsimp only
      go_wp2_with fail
      refine (HWc.out _).mono ?_
      rintro e W3 ⟨b, rfl, hb, hx⟩
      replace HE := hid (HE.out.trans hx)
      replace HR := hid (HR.out.ext hx)
      clear hx ql qc0 qc1 qc2 qc3 qc4 qc5
      have q := HR.out
      have ql := q.lt
      have qc0 := q.range 0 _ rfl
      have qc1 := q.range 1 _ rfl
      have qc2 := q.range 2 _ rfl
      have qc3 := q.range 3 _ rfl
      have qc4 := q.range 4 _ rfl
      have qc5 := q.range 5 _ rfl
      simp only [Nat.zero_add] at qc1 qc2 qc3 qc4 qc5
      clear q
      cases vc with
      | true =>
        replace hb : b = false := hb
        subst hb
        dsimp only
        have HBF := hid (HBAD.out (by simp))
        go_wp2
        go_ret
        exact ⟨by rw [HBF.out]; rfl, HE.out⟩
      | false =>
        replace hb : b = true := hb
        subst hb
        dsimp only
        cases vd with
        | true =>
          have h9 := of_decide_eq_true HD.out
          have HBF := hid (HBAD.out (by simp))
          go_wp2
          go_ret
          exact ⟨by rw [HBF.out]; rfl, HE.out⟩
        | false =>
          have h9vd := of_decide_eq_false HD.out
          cases ve with
          | true =>
            have h9 := of_decide_eq_true HE5.out
            have HBF := hid (HBAD.out (by simp))
            go_wp2
            go_ret
            exact ⟨by rw [HBF.out]; rfl, HE.out⟩
          | false =>
            have h9ve := of_decide_eq_false HE5.out
            obtain ⟨HV2, m4, m1, hl16, hs4⟩ := HGOOD.out (by simp) (by simp) (by simp) (by simp) (by simp)
            replace HV2 := hid HV2
            clear HBAD HGOOD HWa HWb HWc HD HE5
            go_wp2
            clear ql qc0 qc1 qc2 qc3 qc4 qc5
            go_loopw [4] (fun i wr => ∃ (k : Nat), k ≤ m ∧ i = .int .i64 k ∧ Hid ((x.comps.take k).all cF = true) ∧ Hid (Ext w wr) ∧ Hid (Row wr p 0 [.bool x.strict, .int .i64 xh, .int .i64 xf, .slice Ca m x.cc, .slice La ml x.lc, .slice Sa ms x.sc])) (fun i _ => m - (intOf i).toNat)
            case atStart => exact ⟨0, Nat.zero_le _, rfl, hid rfl, HE, HR⟩
            case round =>
              clear HE HR
              obtain ⟨k, hk, rfl, HA, HE, HR⟩ := hrel
              by_cases hlt : k < m
              · have hk1 : (k : Int) < (m : Int) := by omega
                have hk0 : (0 : Int) ≤ (k : Int) := by omega
                have hkl : k < x.comps.length := by rw [HM.out]; exact hlt
                obtain ⟨d, hd⟩ : ∃ y, x.comps[k] = y := ⟨_, rfl⟩
                have HDM := hid (show d ∈ x.comps from hd ▸ List.getElem_mem _)
                have HKT := hid (show cF d = true → (x.comps.take (k + 1)).all cF = true from fun h2 => all_take hkl hd HA.out h2)
                obtain ⟨b', o', eA, hb1, hrg⟩ := (HRC.out.ext HE.out).elem cmp_len hkl d hd
                have e0 := hrg 0 _ rfl
                have e1 := hrg 1 _ rfl
                simp only [Nat.add_zero] at e0
                subst eA
                have HBC := hid (show cF d = false → formV x = false from fun h2 => by rw [HV2.out, all_bad HDM.out h2, Bool.false_and])
                have HCF := hid (show cF d = (!outB (d.bl.length : Int) 4 4096 && (decide (d.bl.length % 4 = 0) && !outB d.data 1 8)) from rfl)
                have hbm : d.bl.length ≤ maxLen := by have := HI.out.cb d HDM.out; omega
                obtain ⟨bn, hbn⟩ : ∃ y, d.bl.length = y := ⟨_, rfl⟩
                rw [hbn] at e0 HCF hbm
                obtain ⟨dd, hdd⟩ : ∃ y, d.data = y := ⟨_, rfl⟩
                rw [hdd] at e1 HCF
                clear hd hrg hbn hdd
                have q := HR.out
                have ql := q.lt
                have qc0 := q.range 0 _ rfl
                have qc1 := q.range 1 _ rfl
                have qc2 := q.range 2 _ rfl
                have qc3 := q.range 3 _ rfl
                have qc4 := q.range 4 _ rfl
                have qc5 := q.range 5 _ rfl
                simp only [Nat.zero_add] at qc1 qc2 qc3 qc4 qc5
                clear q
                go_upto_region 8 with (fail)
                refine wp_gen (fun W => Hid (Ext wr W) ∧ Hid (Row W wr.heap.size 0 [.slice d.A bn d.ca, .int .i64 dd])) ⟨hid (by repeat (first | (with_reducible exact Ext.refl _) | (with_reducible refine Ext.undrew ?_) | (with_reducible refine Ext.grow ?_ _) | (with_reducible refine Ext.drew ?_) | (with_reducible refine Ext.drewN ?_ _) | (with_reducible refine Ext.alloc ?_ _) | (with_reducible assumption) | ((with_reducible refine Ext.setCell ?_ ?_ _); rotate_left; (first | exact Nat.le_refl _ | ((try dsimp only); (try simp only [World.size_alloc, grow_size, World.size_setCell]); omega))))), hid (Row.new wr _ _)⟩ ?_
                rintro W4 ⟨hx, HG⟩
                replace HE := hid (HE.out.trans hx.out)
                replace HR := hid (HR.out.ext hx.out)
                obtain ⟨g, hg⟩ : ∃ y, wr.heap.size = y := ⟨_, rfl⟩
                rw [hg] at HG ⊢
                clear hg hx e0 e1 hb1 ql qc0 qc1 qc2 qc3 qc4 qc5
                have q := HR.out
                have ql := q.lt
                have qc0 := q.range 0 _ rfl
                have qc1 := q.range 1 _ rfl
                have qc2 := q.range 2 _ rfl
                have qc3 := q.range 3 _ rfl
                have qc4 := q.range 4 _ rfl
                have qc5 := q.range 5 _ rfl
                simp only [Nat.zero_add] at qc1 qc2 qc3 qc4 qc5
                clear q
                have r := HG.out
                have rl := r.lt
                have rc0 := r.range 0 _ rfl
                have rc1 := r.range 1 _ rfl
                simp only [Nat.zero_add] at rc1
                clear r
                obtain ⟨rm, hrm⟩ : ∃ y : Int, (bn : Int).tmod 4 = y := ⟨_, rfl⟩
                have hrz : decide (bn % 4 = 0) = decide (rm = 0) := by
                  rw [← hrm, Int.tmod_eq_emod_of_nonneg (by omega)]
                  exact decide_eq_decide.2 (by omega)
                obtain ⟨va, vah⟩ : ∃ y, outB (bn : Int) 4 4096 = y := ⟨_, rfl⟩
                obtain ⟨vc, vch⟩ : ∃ y, outB dd 1 8 = y := ⟨_, rfl⟩
                have HWa : Hid (∀ W, Calls Try.prog 64 #[.int .i64 ((bn : Int)), .int .i64 (4), .int .i64 (4096)] W fun e w' => ∃ b, e = .returned (.bool b) ∧ b = (!va) ∧ Ext W w') := hid (fun W => by refine (within_ ((bn : Int)) (4) (4096) W).mono ?_; rintro e w' ⟨rfl, hx⟩; exact ⟨_, rfl, by rw [vah], hx⟩)
                have HWc : Hid (∀ W, Calls Try.prog 64 #[.int .i64 (dd), .int .i64 (1), .int .i64 (8)] W fun e w' => ∃ b, e = .returned (.bool b) ∧ b = (!vc) ∧ Ext W w') := hid (fun W => by refine (within_ (dd) (1) (8) W).mono ?_; rintro e w' ⟨rfl, hx⟩; exact ⟨_, rfl, by rw [vch], hx⟩)
                rw [vah, vch, hrz] at HCF
                have HBAD := hid (show (va = true ∨ ¬ rm = 0 ∨ vc = true) → formV x = false from fun h2 => HBC.out (by rw [HCF.out]; rcases h2 with rfl | h2 | rfl <;> simp [*]))
                have HYES := hid (show va = false → rm = 0 → vc = false → (x.comps.take (k + 1)).all cF = true from fun h1 h2 h3 => HKT.out (by rw [HCF.out, h1, h2, h3]; rfl))
                clear HKT HBC HCF vah vch hrz
                go_wp2_with fail
                refine (HWa.out _).mono ?_
                rintro e W5 ⟨b, rfl, hb, hx⟩
                replace HE := hid (HE.out.trans hx)
                replace HR := hid (HR.out.ext hx)
                replace HG := hid (HG.out.ext hx)
                clear hx ql qc0 qc1 qc2 qc3 qc4 qc5 rl rc0 rc1
                have q := HR.out
                have ql := q.lt
                have qc0 := q.range 0 _ rfl
                have qc1 := q.range 1 _ rfl
                have qc2 := q.range 2 _ rfl
                have qc3 := q.range 3 _ rfl
                have qc4 := q.range 4 _ rfl
                have qc5 := q.range 5 _ rfl
                simp only [Nat.zero_add] at qc1 qc2 qc3 qc4 qc5
                clear q
                have r := HG.out
                have rl := r.lt
                have rc0 := r.range 0 _ rfl
                have rc1 := r.range 1 _ rfl
                simp only [Nat.zero_add] at rc1
                clear r
                cases va with
                | true =>
                  replace hb : b = false := hb
                  subst hb
                  dsimp only
                  have HBF := hid (HBAD.out (by simp))
                  have HFIN := HE
                  go_wp2
                  go_ret
                  exact ⟨by rw [HBF.out]; rfl, HFIN.out⟩
                | false =>
                  by_cases hr0 : rm = 0
                  · subst hr0
                    replace hb : b = true := hb
                    subst hb
                    dsimp only
                    go_wp2_with fail
                    refine (HWc.out _).mono ?_
                    rintro e W6 ⟨b, rfl, hb, hx⟩
                    replace HE := hid (HE.out.trans hx)
                    replace HR := hid (HR.out.ext hx)
                    replace HG := hid (HG.out.ext hx)
                    clear hx ql qc0 qc1 qc2 qc3 qc4 qc5 rl rc0 rc1
                    have q := HR.out
                    have ql := q.lt
                    have qc0 := q.range 0 _ rfl
                    have qc1 := q.range 1 _ rfl
                    have qc2 := q.range 2 _ rfl
                    have qc3 := q.range 3 _ rfl
                    have qc4 := q.range 4 _ rfl
                    have qc5 := q.range 5 _ rfl
                    simp only [Nat.zero_add] at qc1 qc2 qc3 qc4 qc5
                    clear q
                    have r := HG.out
                    have rl := r.lt
                    have rc0 := r.range 0 _ rfl
                    have rc1 := r.range 1 _ rfl
                    simp only [Nat.zero_add] at rc1
                    clear r
                    cases vc with
                    | true =>
                      replace hb : b = false := hb
                      subst hb
                      dsimp only
                      have HBF := hid (HBAD.out (by simp))
                      have HFIN := HE
                      go_wp2
                      go_ret
                      exact ⟨by rw [HBF.out]; rfl, HFIN.out⟩
                    | false =>
                      have HY := hid (HYES.out (by simp) (by simp) (by simp))
                      replace hb : b = true := hb
                      subst hb
                      dsimp only
                      go_wp2
                      go_roundw
                      case rel => exact ⟨k + 1, by omega, by go_num, HY, HE, HR⟩
                      case measure => simp [intOf]; omega
                  · have HBF := hid (HBAD.out (.inr (.inl hr0)))
                    have HFIN := HE
                    replace hb : b = true := hb
                    subst hb
                    dsimp only
                    go_wp2
                    go_ret
                    exact ⟨by rw [HBF.out]; rfl, HFIN.out⟩
              · obtain rfl : m = k := by omega
                have hk1 : ¬ (m : Int) < (m : Int) := by omega
                replace HV2 := hid (show formV x = (x.links.zipIdx.all (fun p => lF x p.2 p.1) && x.shares.all (sF m)) by
                  rw [List.take_of_length_le (by rw [HM.out]; exact Nat.le_refl _)] at HA
                  rw [HV2.out, HA.out, Bool.true_and])
                clear HA
                have q := HR.out
                have ql := q.lt
                have qc0 := q.range 0 _ rfl
                have qc1 := q.range 1 _ rfl
                have qc2 := q.range 2 _ rfl
                have qc3 := q.range 3 _ rfl
                have qc4 := q.range 4 _ rfl
                have qc5 := q.range 5 _ rfl
                simp only [Nat.zero_add] at qc1 qc2 qc3 qc4 qc5
                clear q
                go_wp2
                clear ql qc0 qc1 qc2 qc3 qc4 qc5
                go_loopw [6] (fun i wr => ∃ (k : Nat), k ≤ ml ∧ i = .int .i64 k ∧ Hid ((x.links.zipIdx.take k).all (fun p => lF x p.2 p.1) = true) ∧ Hid (Ext w wr) ∧ Hid (Row wr p 0 [.bool x.strict, .int .i64 xh, .int .i64 xf, .slice Ca m x.cc, .slice La ml x.lc, .slice Sa ms x.sc])) (fun i _ => ml - (intOf i).toNat)
                case atStart => exact ⟨0, Nat.zero_le _, rfl, hid rfl, HE, HR⟩
                case round =>
                  clear HE HR
                  obtain ⟨i, hi, rfl, HA, HE, HR⟩ := hrel
                  by_cases hlt : i < ml
                  · have hi1 : (i : Int) < (ml : Int) := by omega
                    have hi0 : (0 : Int) ≤ (i : Int) := by omega
                    have hil : i < x.links.length := by rw [HML.out]; exact hlt
                    obtain ⟨l, hl9⟩ : ∃ y, x.links[i] = y := ⟨_, rfl⟩
                    have hzl := (zip_get hil).1
                    have hzz : x.links.zipIdx[i] = (l, i) := by rw [(zip_get hil).2, hl9]
                    have HKT := hid (show lF x i l = true → (x.links.zipIdx.take (i + 1)).all (fun p => lF x p.2 p.1) = true from fun h2 => all_take hzl hzz HA.out h2)
                    have HBC := hid (show lF x i l = false → formV x = false from fun h2 => by rw [HV2.out, all_bad (z := (l, i)) (hzz ▸ List.getElem_mem _) h2, Bool.false_and])
                    obtain ⟨b', o', eA, hb1, hrg⟩ := (HRL.out.ext HE.out).elem lnk_len hil l hl9
                    have e0 := hrg 0 _ rfl
                    have e1 := hrg 1 _ rfl
                    have e2 := hrg 2 _ rfl
                    simp only [Nat.add_zero] at e0
                    subst eA
                    clear hl9 hzl hzz hrg
                    have q := HR.out
                    have ql := q.lt
                    have qc0 := q.range 0 _ rfl
                    have qc1 := q.range 1 _ rfl
                    have qc2 := q.range 2 _ rfl
                    have qc3 := q.range 3 _ rfl
                    have qc4 := q.range 4 _ rfl
                    have qc5 := q.range 5 _ rfl
                    simp only [Nat.zero_add] at qc1 qc2 qc3 qc4 qc5
                    clear q
                    go_upto_region 14 with (fail)
                    refine wp_gen (fun W => Hid (Ext wr W) ∧ Hid (Row W wr.heap.size 0 [.int .i64 l.fr, .int .i64 l.to_, .int .i64 l.at_])) ⟨hid (by repeat (first | (with_reducible exact Ext.refl _) | (with_reducible refine Ext.undrew ?_) | (with_reducible refine Ext.grow ?_ _) | (with_reducible refine Ext.drew ?_) | (with_reducible refine Ext.drewN ?_ _) | (with_reducible refine Ext.alloc ?_ _) | (with_reducible assumption) | ((with_reducible refine Ext.setCell ?_ ?_ _); rotate_left; (first | exact Nat.le_refl _ | ((try dsimp only); (try simp only [World.size_alloc, grow_size, World.size_setCell]); omega))))), hid (Row.new wr _ _)⟩ ?_
                    rintro W7 ⟨hx, HG⟩
                    replace HE := hid (HE.out.trans hx.out)
                    replace HR := hid (HR.out.ext hx.out)
                    obtain ⟨g, hg⟩ : ∃ y, wr.heap.size = y := ⟨_, rfl⟩
                    rw [hg] at HG ⊢
                    clear hg hx e0 e1 e2 hb1 ql qc0 qc1 qc2 qc3 qc4 qc5
                    have q := HR.out
                    have ql := q.lt
                    have qc0 := q.range 0 _ rfl
                    have qc1 := q.range 1 _ rfl
                    have qc2 := q.range 2 _ rfl
                    have qc3 := q.range 3 _ rfl
                    have qc4 := q.range 4 _ rfl
                    have qc5 := q.range 5 _ rfl
                    simp only [Nat.zero_add] at qc1 qc2 qc3 qc4 qc5
                    clear q
                    have r := HG.out
                    have rl := r.lt
                    have rc0 := r.range 0 _ rfl
                    have rc1 := r.range 1 _ rfl
                    have rc2 := r.range 2 _ rfl
                    simp only [Nat.zero_add] at rc1 rc2
                    clear r
                    obtain ⟨va, vah⟩ : ∃ y, outB l.fr 0 ((m : Int) - 1) = y := ⟨_, rfl⟩
                    obtain ⟨vb, vbh⟩ : ∃ y, outB l.to_ 0 ((m : Int) - 1) = y := ⟨_, rfl⟩
                    obtain ⟨vc, vch⟩ : ∃ y, (l.fr == l.to_) = y := ⟨_, rfl⟩
                    obtain ⟨vd, vdh⟩ : ∃ y, decide (l.at_ < 0) = y := ⟨_, rfl⟩
                    obtain ⟨ve, veh⟩ : ∃ y, decide (l.at_ ≥ lenC x.comps l.to_ / 4) = y := ⟨_, rfl⟩
                    have HWa : Hid (∀ W, Calls Try.prog 64 #[.int .i64 (l.fr), .int .i64 (0), .int .i64 ((m : Int) - 1)] W fun e w' => ∃ b, e = .returned (.bool b) ∧ b = (!va) ∧ Ext W w') := hid (fun W => by refine (within_ (l.fr) (0) ((m : Int) - 1) W).mono ?_; rintro e w' ⟨rfl, hx⟩; exact ⟨_, rfl, by rw [vah], hx⟩)
                    have HWb : Hid (∀ W, Calls Try.prog 64 #[.int .i64 (l.to_), .int .i64 (0), .int .i64 ((m : Int) - 1)] W fun e w' => ∃ b, e = .returned (.bool b) ∧ b = (!vb) ∧ Ext W w') := hid (fun W => by refine (within_ (l.to_) (0) ((m : Int) - 1) W).mono ?_; rintro e w' ⟨rfl, hx⟩; exact ⟨_, rfl, by rw [vbh], hx⟩)
                    have HC := hid vch
                    have HD := hid vdh
                    have HVE := hid veh
                    have HVL := hid (show lF x i l = (!outB l.fr 0 ((m : Int) - 1) && (!outB l.to_ 0 ((m : Int) - 1) && (!(l.fr == l.to_) && (!decide (l.at_ < 0) && (!decide (l.at_ ≥ lenC x.comps l.to_ / 4) && !decide ((8 : Int) < (cntP x.links l.fr (i + 1) : Int))))))) by unfold lF; rw [HM.out])
                    have HIN := hid (show va = false → vb = false → 0 ≤ l.to_ ∧ l.to_ < (m : Int) from fun h1 h2 => by
                      rw [← vbh] at h2
                      unfold outB at h2
                      simp only [Bool.or_eq_false_iff, decide_eq_false_iff_not] at h2
                      omega)
                    rw [vah, vbh, vch, vdh, veh] at HVL
                    have HVF := hid (show (va = true ∨ vb = true ∨ vc = true ∨ vd = true ∨ ve = true ∨ decide ((8 : Int) < (cntP x.links l.fr (i + 1) : Int)) = true) → lF x i l = false from fun h2 => by rw [HVL.out]; rcases h2 with h2 | h2 | h2 | h2 | h2 | h2 <;> simp [h2])
                    have HYS := hid (show va = false → vb = false → vc = false → vd = false → ve = false → decide ((8 : Int) < (cntP x.links l.fr (i + 1) : Int)) = false → lF x i l = true from fun h1 h2 h3 h4 h5 h6 => by rw [HVL.out, h1, h2, h3, h4, h5, h6]; rfl)
                    clear vah vbh vch vdh veh HVL
                    cases va with
                    | true =>
                      refine wp_region_step (.rd 0 (.rd 1 (.rd 2 (.rd 3 (.ac 4 (.rd 5 (.rd 6 (.rd 7 (.rd 8 (.rd 9 (.rd 10 (.ac 11 (.rd 12 (.rd 13 (.rd 14 (.rd 15 (.rd 16 (.rd 17 (.rd 18 (.rd 19 (.rd 20 (.rd 21 (.rd 22 (.rd 23 (.rd 24 (.rd 25 (.rd 26 (.rd 27 (.rd 28 (.rd 29 (.rd 30 (.rd 31 (.rd 32 (.rd 33 (.rd 34 (.rd 35 (.rd 36 (.rd 37 (.rd 38 (.rd 39 .done)))))))))))))))))))))))))))))))))))))))) (by kernel_rfl) (by kernel_rfl) (fun _ _ d _ _ h => by cases d <;> exact h) (by simp only [Ord.map, nthOp, List.append]; rfl) ?_
                      intro d0
                      have HU0 := hid (Ext.grow (Ext.refl W7) d0)
                      generalize Go.Proofs.Ytgldlkoohfclpaa.grow W7 d0 = U0 at HU0 ⊢
                      have hbp := Nat.lt_of_lt_of_le ql HU0.out.size
                      have hb0 := (HU0.out.cells _ _ ql).trans qc0
                      have hb1 := (HU0.out.cells _ _ ql).trans qc1
                      have hb2 := (HU0.out.cells _ _ ql).trans qc2
                      have hb3 := (HU0.out.cells _ _ ql).trans qc3
                      have hb4 := (HU0.out.cells _ _ ql).trans qc4
                      have hb5 := (HU0.out.cells _ _ ql).trans qc5
                      have hgl := Nat.lt_of_lt_of_le rl HU0.out.size
                      have hg0 := (HU0.out.cells _ _ rl).trans rc0
                      have hg1 := (HU0.out.cells _ _ rl).trans rc1
                      have hg2 := (HU0.out.cells _ _ rl).trans rc2
                      refine step_read (by rfl) (fun K hK => ?_)
                      go_big_quiet_op
                      refine hK _ ?_
                      clear hK K
                      refine step_read (by rfl) (fun K hK => ?_)
                      go_big_quiet_op
                      refine hK _ ?_
                      clear hK K
                      refine step_read (by rfl) (fun K hK => ?_)
                      go_big_quiet_op
                      refine hK _ ?_
                      clear hK K
                      refine step_read (by rfl) (fun K hK => ?_)
                      go_big_quiet_op
                      refine hK _ ?_
                      clear hK K
                      refine step_act (by rfl) (fun K hK => ?_)
                      go_wp2_with (go_at_call 64; refine (HWa.out U0).mono ?_; rintro e U1 ⟨b, rfl, hb, hx⟩; replace hb : b = false := hb; subst hb)
                      refine ⟨_, hx, Ext.refl _, ?_⟩
                      have HU1 := hid (HU0.out.trans hx)
                      have hxa4 := hx
                      clear hx
                      replace hg0 := (hxa4.cells _ _ hgl).trans hg0
                      replace hg1 := (hxa4.cells _ _ hgl).trans hg1
                      replace hg2 := (hxa4.cells _ _ hgl).trans hg2
                      replace hgl := Nat.lt_of_lt_of_le hgl hxa4.size
                      replace hb0 := (hxa4.cells _ _ hbp).trans hb0
                      replace hb1 := (hxa4.cells _ _ hbp).trans hb1
                      replace hb2 := (hxa4.cells _ _ hbp).trans hb2
                      replace hb3 := (hxa4.cells _ _ hbp).trans hb3
                      replace hb4 := (hxa4.cells _ _ hbp).trans hb4
                      replace hb5 := (hxa4.cells _ _ hbp).trans hb5
                      replace hbp := Nat.lt_of_lt_of_le hbp hxa4.size
                      refine step_read (by rfl) (fun K hK => ?_)
                      go_big_quiet_op
                      refine hK _ ?_
                      clear hK K
                      refine step_read (by rfl) (fun K hK => ?_)
                      go_big_quiet_op
                      refine hK _ ?_
                      clear hK K
                      refine step_skip (by rfl) ?_
                      simp only [Act.put, List.setIfInBounds_toArray, List.set_cons_zero, List.set_cons_succ]
                      refine step_skip (by rfl) ?_
                      simp only [Act.put, List.setIfInBounds_toArray, List.set_cons_zero, List.set_cons_succ]
                      refine step_skip (by rfl) ?_
                      simp only [Act.put, List.setIfInBounds_toArray, List.set_cons_zero, List.set_cons_succ]
                      refine step_skip (by rfl) ?_
                      simp only [Act.put, List.setIfInBounds_toArray, List.set_cons_zero, List.set_cons_succ]
                      refine step_idle (by rfl) ?_
                      simp only [Act.put, List.setIfInBounds_toArray, List.set_cons_zero, List.set_cons_succ]
                      refine step_skip (by rfl) ?_
                      simp only [Act.put, List.setIfInBounds_toArray, List.set_cons_zero, List.set_cons_succ]
                      refine step_read (by rfl) (fun K hK => ?_)
                      go_big_quiet_op
                      refine hK _ ?_
                      clear hK K
                      refine step_read (by rfl) (fun K hK => ?_)
                      go_big_quiet_op
                      refine hK _ ?_
                      clear hK K
                      refine step_skip (by rfl) ?_
                      simp only [Act.put, List.setIfInBounds_toArray, List.set_cons_zero, List.set_cons_succ]
                      refine step_skip (by rfl) ?_
                      simp only [Act.put, List.setIfInBounds_toArray, List.set_cons_zero, List.set_cons_succ]
                      refine step_skip (by rfl) ?_
                      simp only [Act.put, List.setIfInBounds_toArray, List.set_cons_zero, List.set_cons_succ]
                      refine step_skip (by rfl) ?_
                      simp only [Act.put, List.setIfInBounds_toArray, List.set_cons_zero, List.set_cons_succ]
                      refine step_skip (by rfl) ?_
                      simp only [Act.put, List.setIfInBounds_toArray, List.set_cons_zero, List.set_cons_succ]
                      refine step_read (by rfl) (fun K hK => ?_)
                      go_big_quiet_op
                      refine hK _ ?_
                      clear hK K
                      refine step_read (by rfl) (fun K hK => ?_)
                      go_big_quiet_op
                      refine hK _ ?_
                      clear hK K
                      refine step_skip (by rfl) ?_
                      simp only [Act.put, List.setIfInBounds_toArray, List.set_cons_zero, List.set_cons_succ]
                      refine step_skip (by rfl) ?_
                      simp only [Act.put, List.setIfInBounds_toArray, List.set_cons_zero, List.set_cons_succ]
                      refine step_skip (by rfl) ?_
                      simp only [Act.put, List.setIfInBounds_toArray, List.set_cons_zero, List.set_cons_succ]
                      refine step_read (by rfl) (fun K hK => ?_)
                      go_big_quiet_op
                      refine hK _ ?_
                      clear hK K
                      refine step_read (by rfl) (fun K hK => ?_)
                      go_big_quiet_op
                      refine hK _ ?_
                      clear hK K
                      refine step_skip (by rfl) ?_
                      simp only [Act.put, List.setIfInBounds_toArray, List.set_cons_zero, List.set_cons_succ]
                      refine step_skip (by rfl) ?_
                      simp only [Act.put, List.setIfInBounds_toArray, List.set_cons_zero, List.set_cons_succ]
                      refine step_skip (by rfl) ?_
                      simp only [Act.put, List.setIfInBounds_toArray, List.set_cons_zero, List.set_cons_succ]
                      refine step_skip (by rfl) ?_
                      simp only [Act.put, List.setIfInBounds_toArray, List.set_cons_zero, List.set_cons_succ]
                      refine step_skip (by rfl) ?_
                      simp only [Act.put, List.setIfInBounds_toArray, List.set_cons_zero, List.set_cons_succ]
                      refine step_skip (by rfl) ?_
                      simp only [Act.put, List.setIfInBounds_toArray, List.set_cons_zero, List.set_cons_succ]
                      refine step_skip (by rfl) ?_
                      simp only [Act.put, List.setIfInBounds_toArray, List.set_cons_zero, List.set_cons_succ]
                      refine step_skip (by rfl) ?_
                      simp only [Act.put, List.setIfInBounds_toArray, List.set_cons_zero, List.set_cons_succ]
                      refine step_skip (by rfl) ?_
                      simp only [Act.put, List.setIfInBounds_toArray, List.set_cons_zero, List.set_cons_succ]
                      refine step_skip (by rfl) ?_
                      simp only [Act.put, List.setIfInBounds_toArray, List.set_cons_zero, List.set_cons_succ]
                      refine step_skip (by rfl) ?_
                      simp only [Act.put, List.setIfInBounds_toArray, List.set_cons_zero, List.set_cons_succ]
                      refine step_skip (by rfl) ?_
                      simp only [Act.put, List.setIfInBounds_toArray, List.set_cons_zero, List.set_cons_succ]
                      refine step_read (by rfl) (fun K hK => ?_)
                      go_big_quiet_op
                      refine hK _ ?_
                      clear hK K
                      refine step_nil ?_
                      have HFIN := hid ((HE.out).trans HU1.out)
                      have HBF := hid (HBC.out (HVF.out (by simp)))
                      go_wp2
                      go_ret
                      exact ⟨by rw [HBF.out]; rfl, HFIN.out⟩
                    | false =>
                      cases vb with
                      | true =>
                        refine wp_region_step (.rd 0 (.rd 1 (.rd 2 (.rd 3 (.ac 4 (.rd 5 (.rd 6 (.rd 7 (.rd 8 (.rd 9 (.rd 10 (.ac 11 (.rd 12 (.rd 13 (.rd 14 (.rd 15 (.rd 16 (.rd 17 (.rd 18 (.rd 19 (.rd 20 (.rd 21 (.rd 22 (.rd 23 (.rd 24 (.rd 25 (.rd 26 (.rd 27 (.rd 28 (.rd 29 (.rd 30 (.rd 31 (.rd 32 (.rd 33 (.rd 34 (.rd 35 (.rd 36 (.rd 37 (.rd 38 (.rd 39 .done)))))))))))))))))))))))))))))))))))))))) (by kernel_rfl) (by kernel_rfl) (fun _ _ d _ _ h => by cases d <;> exact h) (by simp only [Ord.map, nthOp, List.append]; rfl) ?_
                        intro d0
                        have HU0 := hid (Ext.grow (Ext.refl W7) d0)
                        generalize Go.Proofs.Ytgldlkoohfclpaa.grow W7 d0 = U0 at HU0 ⊢
                        have hbp := Nat.lt_of_lt_of_le ql HU0.out.size
                        have hb0 := (HU0.out.cells _ _ ql).trans qc0
                        have hb1 := (HU0.out.cells _ _ ql).trans qc1
                        have hb2 := (HU0.out.cells _ _ ql).trans qc2
                        have hb3 := (HU0.out.cells _ _ ql).trans qc3
                        have hb4 := (HU0.out.cells _ _ ql).trans qc4
                        have hb5 := (HU0.out.cells _ _ ql).trans qc5
                        have hgl := Nat.lt_of_lt_of_le rl HU0.out.size
                        have hg0 := (HU0.out.cells _ _ rl).trans rc0
                        have hg1 := (HU0.out.cells _ _ rl).trans rc1
                        have hg2 := (HU0.out.cells _ _ rl).trans rc2
                        refine step_read (by rfl) (fun K hK => ?_)
                        go_big_quiet_op
                        refine hK _ ?_
                        clear hK K
                        refine step_read (by rfl) (fun K hK => ?_)
                        go_big_quiet_op
                        refine hK _ ?_
                        clear hK K
                        refine step_read (by rfl) (fun K hK => ?_)
                        go_big_quiet_op
                        refine hK _ ?_
                        clear hK K
                        refine step_read (by rfl) (fun K hK => ?_)
                        go_big_quiet_op
                        refine hK _ ?_
                        clear hK K
                        refine step_act (by rfl) (fun K hK => ?_)
                        go_wp2_with (go_at_call 64; refine (HWa.out U0).mono ?_; rintro e U1 ⟨b, rfl, hb, hx⟩; replace hb : b = true := hb; subst hb)
                        refine ⟨_, hx, Ext.refl _, ?_⟩
                        have HU1 := hid (HU0.out.trans hx)
                        have hxa4 := hx
                        clear hx
                        replace hg0 := (hxa4.cells _ _ hgl).trans hg0
                        replace hg1 := (hxa4.cells _ _ hgl).trans hg1
                        replace hg2 := (hxa4.cells _ _ hgl).trans hg2
                        replace hgl := Nat.lt_of_lt_of_le hgl hxa4.size
                        replace hb0 := (hxa4.cells _ _ hbp).trans hb0
                        replace hb1 := (hxa4.cells _ _ hbp).trans hb1
                        replace hb2 := (hxa4.cells _ _ hbp).trans hb2
                        replace hb3 := (hxa4.cells _ _ hbp).trans hb3
                        replace hb4 := (hxa4.cells _ _ hbp).trans hb4
                        replace hb5 := (hxa4.cells _ _ hbp).trans hb5
                        replace hbp := Nat.lt_of_lt_of_le hbp hxa4.size
                        refine step_read (by rfl) (fun K hK => ?_)
                        go_big_quiet_op
                        refine hK _ ?_
                        clear hK K
                        refine step_read (by rfl) (fun K hK => ?_)
                        go_big_quiet_op
                        refine hK _ ?_
                        clear hK K
                        refine step_read (by rfl) (fun K hK => ?_)
                        go_big_quiet_op
                        refine hK _ ?_
                        clear hK K
                        refine step_read (by rfl) (fun K hK => ?_)
                        go_big_quiet_op
                        refine hK _ ?_
                        clear hK K
                        refine step_read (by rfl) (fun K hK => ?_)
                        go_big_quiet_op
                        refine hK _ ?_
                        clear hK K
                        refine step_read (by rfl) (fun K hK => ?_)
                        go_big_quiet_op
                        refine hK _ ?_
                        clear hK K
                        refine step_act (by rfl) (fun K hK => ?_)
                        go_wp2_with (go_at_call 64; refine (HWb.out U1).mono ?_; rintro e U2 ⟨b, rfl, hb, hx⟩; replace hb : b = false := hb; subst hb)
                        refine ⟨_, hx, Ext.refl _, ?_⟩
                        have HU2 := hid (HU1.out.trans hx)
                        have hxa11 := hx
                        clear hx
                        replace hg0 := (hxa11.cells _ _ hgl).trans hg0
                        replace hg1 := (hxa11.cells _ _ hgl).trans hg1
                        replace hg2 := (hxa11.cells _ _ hgl).trans hg2
                        replace hgl := Nat.lt_of_lt_of_le hgl hxa11.size
                        replace hb0 := (hxa11.cells _ _ hbp).trans hb0
                        replace hb1 := (hxa11.cells _ _ hbp).trans hb1
                        replace hb2 := (hxa11.cells _ _ hbp).trans hb2
                        replace hb3 := (hxa11.cells _ _ hbp).trans hb3
                        replace hb4 := (hxa11.cells _ _ hbp).trans hb4
                        replace hb5 := (hxa11.cells _ _ hbp).trans hb5
                        replace hbp := Nat.lt_of_lt_of_le hbp hxa11.size
                        refine step_read (by rfl) (fun K hK => ?_)
                        go_big_quiet_op
                        refine hK _ ?_
                        clear hK K
                        refine step_read (by rfl) (fun K hK => ?_)
                        go_big_quiet_op
                        refine hK _ ?_
                        clear hK K
                        refine step_read (by rfl) (fun K hK => ?_)
                        go_big_quiet_op
                        refine hK _ ?_
                        clear hK K
                        refine step_skip (by rfl) ?_
                        simp only [Act.put, List.setIfInBounds_toArray, List.set_cons_zero, List.set_cons_succ]
                        refine step_skip (by rfl) ?_
                        simp only [Act.put, List.setIfInBounds_toArray, List.set_cons_zero, List.set_cons_succ]
                        refine step_skip (by rfl) ?_
                        simp only [Act.put, List.setIfInBounds_toArray, List.set_cons_zero, List.set_cons_succ]
                        refine step_skip (by rfl) ?_
                        simp only [Act.put, List.setIfInBounds_toArray, List.set_cons_zero, List.set_cons_succ]
                        refine step_skip (by rfl) ?_
                        simp only [Act.put, List.setIfInBounds_toArray, List.set_cons_zero, List.set_cons_succ]
                        refine step_read (by rfl) (fun K hK => ?_)
                        go_big_quiet_op
                        refine hK _ ?_
                        clear hK K
                        refine step_read (by rfl) (fun K hK => ?_)
                        go_big_quiet_op
                        refine hK _ ?_
                        clear hK K
                        refine step_skip (by rfl) ?_
                        simp only [Act.put, List.setIfInBounds_toArray, List.set_cons_zero, List.set_cons_succ]
                        refine step_skip (by rfl) ?_
                        simp only [Act.put, List.setIfInBounds_toArray, List.set_cons_zero, List.set_cons_succ]
                        refine step_skip (by rfl) ?_
                        simp only [Act.put, List.setIfInBounds_toArray, List.set_cons_zero, List.set_cons_succ]
                        refine step_read (by rfl) (fun K hK => ?_)
                        go_big_quiet_op
                        refine hK _ ?_
                        clear hK K
                        refine step_read (by rfl) (fun K hK => ?_)
                        go_big_quiet_op
                        refine hK _ ?_
                        clear hK K
                        refine step_skip (by rfl) ?_
                        simp only [Act.put, List.setIfInBounds_toArray, List.set_cons_zero, List.set_cons_succ]
                        refine step_skip (by rfl) ?_
                        simp only [Act.put, List.setIfInBounds_toArray, List.set_cons_zero, List.set_cons_succ]
                        refine step_skip (by rfl) ?_
                        simp only [Act.put, List.setIfInBounds_toArray, List.set_cons_zero, List.set_cons_succ]
                        refine step_skip (by rfl) ?_
                        simp only [Act.put, List.setIfInBounds_toArray, List.set_cons_zero, List.set_cons_succ]
                        refine step_skip (by rfl) ?_
                        simp only [Act.put, List.setIfInBounds_toArray, List.set_cons_zero, List.set_cons_succ]
                        refine step_skip (by rfl) ?_
                        simp only [Act.put, List.setIfInBounds_toArray, List.set_cons_zero, List.set_cons_succ]
                        refine step_skip (by rfl) ?_
                        simp only [Act.put, List.setIfInBounds_toArray, List.set_cons_zero, List.set_cons_succ]
                        refine step_skip (by rfl) ?_
                        simp only [Act.put, List.setIfInBounds_toArray, List.set_cons_zero, List.set_cons_succ]
                        refine step_skip (by rfl) ?_
                        simp only [Act.put, List.setIfInBounds_toArray, List.set_cons_zero, List.set_cons_succ]
                        refine step_skip (by rfl) ?_
                        simp only [Act.put, List.setIfInBounds_toArray, List.set_cons_zero, List.set_cons_succ]
                        refine step_skip (by rfl) ?_
                        simp only [Act.put, List.setIfInBounds_toArray, List.set_cons_zero, List.set_cons_succ]
                        refine step_skip (by rfl) ?_
                        simp only [Act.put, List.setIfInBounds_toArray, List.set_cons_zero, List.set_cons_succ]
                        refine step_read (by rfl) (fun K hK => ?_)
                        go_big_quiet_op
                        refine hK _ ?_
                        clear hK K
                        refine step_nil ?_
                        have HFIN := hid ((HE.out).trans HU2.out)
                        have HBF := hid (HBC.out (HVF.out (by simp)))
                        go_wp2
                        go_ret
                        exact ⟨by rw [HBF.out]; rfl, HFIN.out⟩
                      | false =>
                        cases vc with
                        | true =>
                          refine wp_region_step (.rd 0 (.rd 1 (.rd 2 (.rd 3 (.ac 4 (.rd 5 (.rd 6 (.rd 7 (.rd 8 (.rd 9 (.rd 10 (.ac 11 (.rd 12 (.rd 13 (.rd 14 (.rd 15 (.rd 16 (.rd 17 (.rd 18 (.rd 19 (.rd 20 (.rd 21 (.rd 22 (.rd 23 (.rd 24 (.rd 25 (.rd 26 (.rd 27 (.rd 28 (.rd 29 (.rd 30 (.rd 31 (.rd 32 (.rd 33 (.rd 34 (.rd 35 (.rd 36 (.rd 37 (.rd 38 (.rd 39 .done)))))))))))))))))))))))))))))))))))))))) (by kernel_rfl) (by kernel_rfl) (fun _ _ d _ _ h => by cases d <;> exact h) (by simp only [Ord.map, nthOp, List.append]; rfl) ?_
                          intro d0
                          have HU0 := hid (Ext.grow (Ext.refl W7) d0)
                          generalize Go.Proofs.Ytgldlkoohfclpaa.grow W7 d0 = U0 at HU0 ⊢
                          have hbp := Nat.lt_of_lt_of_le ql HU0.out.size
                          have hb0 := (HU0.out.cells _ _ ql).trans qc0
                          have hb1 := (HU0.out.cells _ _ ql).trans qc1
                          have hb2 := (HU0.out.cells _ _ ql).trans qc2
                          have hb3 := (HU0.out.cells _ _ ql).trans qc3
                          have hb4 := (HU0.out.cells _ _ ql).trans qc4
                          have hb5 := (HU0.out.cells _ _ ql).trans qc5
                          have hgl := Nat.lt_of_lt_of_le rl HU0.out.size
                          have hg0 := (HU0.out.cells _ _ rl).trans rc0
                          have hg1 := (HU0.out.cells _ _ rl).trans rc1
                          have hg2 := (HU0.out.cells _ _ rl).trans rc2
                          refine step_read (by rfl) (fun K hK => ?_)
                          go_big_quiet_op
                          refine hK _ ?_
                          clear hK K
                          refine step_read (by rfl) (fun K hK => ?_)
                          go_big_quiet_op
                          refine hK _ ?_
                          clear hK K
                          refine step_read (by rfl) (fun K hK => ?_)
                          go_big_quiet_op
                          refine hK _ ?_
                          clear hK K
                          refine step_read (by rfl) (fun K hK => ?_)
                          go_big_quiet_op
                          refine hK _ ?_
                          clear hK K
                          refine step_act (by rfl) (fun K hK => ?_)
                          go_wp2_with (go_at_call 64; refine (HWa.out U0).mono ?_; rintro e U1 ⟨b, rfl, hb, hx⟩; replace hb : b = true := hb; subst hb)
                          refine ⟨_, hx, Ext.refl _, ?_⟩
                          have HU1 := hid (HU0.out.trans hx)
                          have hxa4 := hx
                          clear hx
                          replace hg0 := (hxa4.cells _ _ hgl).trans hg0
                          replace hg1 := (hxa4.cells _ _ hgl).trans hg1
                          replace hg2 := (hxa4.cells _ _ hgl).trans hg2
                          replace hgl := Nat.lt_of_lt_of_le hgl hxa4.size
                          replace hb0 := (hxa4.cells _ _ hbp).trans hb0
                          replace hb1 := (hxa4.cells _ _ hbp).trans hb1
                          replace hb2 := (hxa4.cells _ _ hbp).trans hb2
                          replace hb3 := (hxa4.cells _ _ hbp).trans hb3
                          replace hb4 := (hxa4.cells _ _ hbp).trans hb4
                          replace hb5 := (hxa4.cells _ _ hbp).trans hb5
                          replace hbp := Nat.lt_of_lt_of_le hbp hxa4.size
                          refine step_read (by rfl) (fun K hK => ?_)
                          go_big_quiet_op
                          refine hK _ ?_
                          clear hK K
                          refine step_read (by rfl) (fun K hK => ?_)
                          go_big_quiet_op
                          refine hK _ ?_
                          clear hK K
                          refine step_read (by rfl) (fun K hK => ?_)
                          go_big_quiet_op
                          refine hK _ ?_
                          clear hK K
                          refine step_read (by rfl) (fun K hK => ?_)
                          go_big_quiet_op
                          refine hK _ ?_
                          clear hK K
                          refine step_read (by rfl) (fun K hK => ?_)
                          go_big_quiet_op
                          refine hK _ ?_
                          clear hK K
                          refine step_read (by rfl) (fun K hK => ?_)
                          go_big_quiet_op
                          refine hK _ ?_
                          clear hK K
                          refine step_act (by rfl) (fun K hK => ?_)
                          go_wp2_with (go_at_call 64; refine (HWb.out U1).mono ?_; rintro e U2 ⟨b, rfl, hb, hx⟩; replace hb : b = true := hb; subst hb)
                          refine ⟨_, hx, Ext.refl _, ?_⟩
                          have HU2 := hid (HU1.out.trans hx)
                          have hxa11 := hx
                          clear hx
                          replace hg0 := (hxa11.cells _ _ hgl).trans hg0
                          replace hg1 := (hxa11.cells _ _ hgl).trans hg1
                          replace hg2 := (hxa11.cells _ _ hgl).trans hg2
                          replace hgl := Nat.lt_of_lt_of_le hgl hxa11.size
                          replace hb0 := (hxa11.cells _ _ hbp).trans hb0
                          replace hb1 := (hxa11.cells _ _ hbp).trans hb1
                          replace hb2 := (hxa11.cells _ _ hbp).trans hb2
                          replace hb3 := (hxa11.cells _ _ hbp).trans hb3
                          replace hb4 := (hxa11.cells _ _ hbp).trans hb4
                          replace hb5 := (hxa11.cells _ _ hbp).trans hb5
                          replace hbp := Nat.lt_of_lt_of_le hbp hxa11.size
                          refine step_read (by rfl) (fun K hK => ?_)
                          go_big_quiet_op
                          refine hK _ ?_
                          clear hK K
                          refine step_read (by rfl) (fun K hK => ?_)
                          go_big_quiet_op
                          refine hK _ ?_
                          clear hK K
                          refine step_read (by rfl) (fun K hK => ?_)
                          go_big_quiet_op
                          refine hK _ ?_
                          clear hK K
                          refine step_read (by rfl) (fun K hK => ?_)
                          go_big_quiet_op
                          refine hK _ ?_
                          clear hK K
                          refine step_read (by rfl) (fun K hK => ?_)
                          go_big_quiet_op
                          refine hK _ ?_
                          clear hK K
                          refine step_read (by rfl) (fun K hK => ?_)
                          go_big_quiet_op
                          refine hK _ ?_
                          clear hK K
                          refine step_read (by rfl) (fun K hK => ?_)
                          go_big_quiet_op
                          refine hK _ ?_
                          clear hK K
                          refine step_read (by rfl) (fun K hK => ?_)
                          refine quiet_runD 101 rfl (.bool true) (fun w => by go_simp; first | exact HC.out | (have h9 := HC.out; simpa using h9)) ?_
                          refine hK _ ?_
                          clear hK K
                          simp only [Act.put, List.setIfInBounds_toArray, List.set_cons_zero, List.set_cons_succ]
                          refine step_read (by rfl) (fun K hK => ?_)
                          go_big_quiet_op
                          refine hK _ ?_
                          clear hK K
                          refine step_read (by rfl) (fun K hK => ?_)
                          go_big_quiet_op
                          refine hK _ ?_
                          clear hK K
                          refine step_skip (by rfl) ?_
                          simp only [Act.put, List.setIfInBounds_toArray, List.set_cons_zero, List.set_cons_succ]
                          refine step_skip (by rfl) ?_
                          simp only [Act.put, List.setIfInBounds_toArray, List.set_cons_zero, List.set_cons_succ]
                          refine step_skip (by rfl) ?_
                          simp only [Act.put, List.setIfInBounds_toArray, List.set_cons_zero, List.set_cons_succ]
                          refine step_read (by rfl) (fun K hK => ?_)
                          go_big_quiet_op
                          refine hK _ ?_
                          clear hK K
                          refine step_read (by rfl) (fun K hK => ?_)
                          go_big_quiet_op
                          refine hK _ ?_
                          clear hK K
                          refine step_skip (by rfl) ?_
                          simp only [Act.put, List.setIfInBounds_toArray, List.set_cons_zero, List.set_cons_succ]
                          refine step_skip (by rfl) ?_
                          simp only [Act.put, List.setIfInBounds_toArray, List.set_cons_zero, List.set_cons_succ]
                          refine step_skip (by rfl) ?_
                          simp only [Act.put, List.setIfInBounds_toArray, List.set_cons_zero, List.set_cons_succ]
                          refine step_skip (by rfl) ?_
                          simp only [Act.put, List.setIfInBounds_toArray, List.set_cons_zero, List.set_cons_succ]
                          refine step_skip (by rfl) ?_
                          simp only [Act.put, List.setIfInBounds_toArray, List.set_cons_zero, List.set_cons_succ]
                          refine step_skip (by rfl) ?_
                          simp only [Act.put, List.setIfInBounds_toArray, List.set_cons_zero, List.set_cons_succ]
                          refine step_skip (by rfl) ?_
                          simp only [Act.put, List.setIfInBounds_toArray, List.set_cons_zero, List.set_cons_succ]
                          refine step_skip (by rfl) ?_
                          simp only [Act.put, List.setIfInBounds_toArray, List.set_cons_zero, List.set_cons_succ]
                          refine step_skip (by rfl) ?_
                          simp only [Act.put, List.setIfInBounds_toArray, List.set_cons_zero, List.set_cons_succ]
                          refine step_skip (by rfl) ?_
                          simp only [Act.put, List.setIfInBounds_toArray, List.set_cons_zero, List.set_cons_succ]
                          refine step_skip (by rfl) ?_
                          simp only [Act.put, List.setIfInBounds_toArray, List.set_cons_zero, List.set_cons_succ]
                          refine step_skip (by rfl) ?_
                          simp only [Act.put, List.setIfInBounds_toArray, List.set_cons_zero, List.set_cons_succ]
                          refine step_read (by rfl) (fun K hK => ?_)
                          go_big_quiet_op
                          refine hK _ ?_
                          clear hK K
                          refine step_nil ?_
                          have HFIN := hid ((HE.out).trans HU2.out)
                          have HBF := hid (HBC.out (HVF.out (by simp)))
                          go_wp2
                          go_ret
                          exact ⟨by rw [HBF.out]; rfl, HFIN.out⟩
                        | false =>
                          cases vd with
                          | true =>
                            refine wp_region_step (.rd 0 (.rd 1 (.rd 2 (.rd 3 (.ac 4 (.rd 5 (.rd 6 (.rd 7 (.rd 8 (.rd 9 (.rd 10 (.ac 11 (.rd 12 (.rd 13 (.rd 14 (.rd 15 (.rd 16 (.rd 17 (.rd 18 (.rd 19 (.rd 20 (.rd 21 (.rd 22 (.rd 23 (.rd 24 (.rd 25 (.rd 26 (.rd 27 (.rd 28 (.rd 29 (.rd 30 (.rd 31 (.rd 32 (.rd 33 (.rd 34 (.rd 35 (.rd 36 (.rd 37 (.rd 38 (.rd 39 .done)))))))))))))))))))))))))))))))))))))))) (by kernel_rfl) (by kernel_rfl) (fun _ _ d _ _ h => by cases d <;> exact h) (by simp only [Ord.map, nthOp, List.append]; rfl) ?_
                            intro d0
                            have HU0 := hid (Ext.grow (Ext.refl W7) d0)
                            generalize Go.Proofs.Ytgldlkoohfclpaa.grow W7 d0 = U0 at HU0 ⊢
                            have hbp := Nat.lt_of_lt_of_le ql HU0.out.size
                            have hb0 := (HU0.out.cells _ _ ql).trans qc0
                            have hb1 := (HU0.out.cells _ _ ql).trans qc1
                            have hb2 := (HU0.out.cells _ _ ql).trans qc2
                            have hb3 := (HU0.out.cells _ _ ql).trans qc3
                            have hb4 := (HU0.out.cells _ _ ql).trans qc4
                            have hb5 := (HU0.out.cells _ _ ql).trans qc5
                            have hgl := Nat.lt_of_lt_of_le rl HU0.out.size
                            have hg0 := (HU0.out.cells _ _ rl).trans rc0
                            have hg1 := (HU0.out.cells _ _ rl).trans rc1
                            have hg2 := (HU0.out.cells _ _ rl).trans rc2
                            refine step_read (by rfl) (fun K hK => ?_)
                            go_big_quiet_op
                            refine hK _ ?_
                            clear hK K
                            refine step_read (by rfl) (fun K hK => ?_)
                            go_big_quiet_op
                            refine hK _ ?_
                            clear hK K
                            refine step_read (by rfl) (fun K hK => ?_)
                            go_big_quiet_op
                            refine hK _ ?_
                            clear hK K
                            refine step_read (by rfl) (fun K hK => ?_)
                            go_big_quiet_op
                            refine hK _ ?_
                            clear hK K
                            refine step_act (by rfl) (fun K hK => ?_)
                            go_wp2_with (go_at_call 64; refine (HWa.out U0).mono ?_; rintro e U1 ⟨b, rfl, hb, hx⟩; replace hb : b = true := hb; subst hb)
                            refine ⟨_, hx, Ext.refl _, ?_⟩
                            have HU1 := hid (HU0.out.trans hx)
                            have hxa4 := hx
                            clear hx
                            replace hg0 := (hxa4.cells _ _ hgl).trans hg0
                            replace hg1 := (hxa4.cells _ _ hgl).trans hg1
                            replace hg2 := (hxa4.cells _ _ hgl).trans hg2
                            replace hgl := Nat.lt_of_lt_of_le hgl hxa4.size
                            replace hb0 := (hxa4.cells _ _ hbp).trans hb0
                            replace hb1 := (hxa4.cells _ _ hbp).trans hb1
                            replace hb2 := (hxa4.cells _ _ hbp).trans hb2
                            replace hb3 := (hxa4.cells _ _ hbp).trans hb3
                            replace hb4 := (hxa4.cells _ _ hbp).trans hb4
                            replace hb5 := (hxa4.cells _ _ hbp).trans hb5
                            replace hbp := Nat.lt_of_lt_of_le hbp hxa4.size
                            refine step_read (by rfl) (fun K hK => ?_)
                            go_big_quiet_op
                            refine hK _ ?_
                            clear hK K
                            refine step_read (by rfl) (fun K hK => ?_)
                            go_big_quiet_op
                            refine hK _ ?_
                            clear hK K
                            refine step_read (by rfl) (fun K hK => ?_)
                            go_big_quiet_op
                            refine hK _ ?_
                            clear hK K
                            refine step_read (by rfl) (fun K hK => ?_)
                            go_big_quiet_op
                            refine hK _ ?_
                            clear hK K
                            refine step_read (by rfl) (fun K hK => ?_)
                            go_big_quiet_op
                            refine hK _ ?_
                            clear hK K
                            refine step_read (by rfl) (fun K hK => ?_)
                            go_big_quiet_op
                            refine hK _ ?_
                            clear hK K
                            refine step_act (by rfl) (fun K hK => ?_)
                            go_wp2_with (go_at_call 64; refine (HWb.out U1).mono ?_; rintro e U2 ⟨b, rfl, hb, hx⟩; replace hb : b = true := hb; subst hb)
                            refine ⟨_, hx, Ext.refl _, ?_⟩
                            have HU2 := hid (HU1.out.trans hx)
                            have hxa11 := hx
                            clear hx
                            replace hg0 := (hxa11.cells _ _ hgl).trans hg0
                            replace hg1 := (hxa11.cells _ _ hgl).trans hg1
                            replace hg2 := (hxa11.cells _ _ hgl).trans hg2
                            replace hgl := Nat.lt_of_lt_of_le hgl hxa11.size
                            replace hb0 := (hxa11.cells _ _ hbp).trans hb0
                            replace hb1 := (hxa11.cells _ _ hbp).trans hb1
                            replace hb2 := (hxa11.cells _ _ hbp).trans hb2
                            replace hb3 := (hxa11.cells _ _ hbp).trans hb3
                            replace hb4 := (hxa11.cells _ _ hbp).trans hb4
                            replace hb5 := (hxa11.cells _ _ hbp).trans hb5
                            replace hbp := Nat.lt_of_lt_of_le hbp hxa11.size
                            refine step_read (by rfl) (fun K hK => ?_)
                            go_big_quiet_op
                            refine hK _ ?_
                            clear hK K
                            refine step_read (by rfl) (fun K hK => ?_)
                            go_big_quiet_op
                            refine hK _ ?_
                            clear hK K
                            refine step_read (by rfl) (fun K hK => ?_)
                            go_big_quiet_op
                            refine hK _ ?_
                            clear hK K
                            refine step_read (by rfl) (fun K hK => ?_)
                            go_big_quiet_op
                            refine hK _ ?_
                            clear hK K
                            refine step_read (by rfl) (fun K hK => ?_)
                            go_big_quiet_op
                            refine hK _ ?_
                            clear hK K
                            refine step_read (by rfl) (fun K hK => ?_)
                            go_big_quiet_op
                            refine hK _ ?_
                            clear hK K
                            refine step_read (by rfl) (fun K hK => ?_)
                            go_big_quiet_op
                            refine hK _ ?_
                            clear hK K
                            refine step_read (by rfl) (fun K hK => ?_)
                            refine quiet_runD 101 rfl (.bool false) (fun w => by go_simp; first | exact HC.out | (have h9 := HC.out; simpa using h9)) ?_
                            refine hK _ ?_
                            clear hK K
                            simp only [Act.put, List.setIfInBounds_toArray, List.set_cons_zero, List.set_cons_succ]
                            refine step_read (by rfl) (fun K hK => ?_)
                            go_big_quiet_op
                            refine hK _ ?_
                            clear hK K
                            refine step_read (by rfl) (fun K hK => ?_)
                            go_big_quiet_op
                            refine hK _ ?_
                            clear hK K
                            refine step_read (by rfl) (fun K hK => ?_)
                            go_big_quiet_op
                            refine hK _ ?_
                            clear hK K
                            refine step_read (by rfl) (fun K hK => ?_)
                            go_big_quiet_op
                            refine hK _ ?_
                            clear hK K
                            refine step_read (by rfl) (fun K hK => ?_)
                            refine quiet_runD 106 rfl (.bool true) (fun w => by go_simp; first | exact HD.out | (have h9 := HD.out; simpa using h9)) ?_
                            refine hK _ ?_
                            clear hK K
                            simp only [Act.put, List.setIfInBounds_toArray, List.set_cons_zero, List.set_cons_succ]
                            refine step_read (by rfl) (fun K hK => ?_)
                            go_big_quiet_op
                            refine hK _ ?_
                            clear hK K
                            refine step_read (by rfl) (fun K hK => ?_)
                            go_big_quiet_op
                            refine hK _ ?_
                            clear hK K
                            refine step_skip (by rfl) ?_
                            simp only [Act.put, List.setIfInBounds_toArray, List.set_cons_zero, List.set_cons_succ]
                            refine step_skip (by rfl) ?_
                            simp only [Act.put, List.setIfInBounds_toArray, List.set_cons_zero, List.set_cons_succ]
                            refine step_skip (by rfl) ?_
                            simp only [Act.put, List.setIfInBounds_toArray, List.set_cons_zero, List.set_cons_succ]
                            refine step_skip (by rfl) ?_
                            simp only [Act.put, List.setIfInBounds_toArray, List.set_cons_zero, List.set_cons_succ]
                            refine step_skip (by rfl) ?_
                            simp only [Act.put, List.setIfInBounds_toArray, List.set_cons_zero, List.set_cons_succ]
                            refine step_skip (by rfl) ?_
                            simp only [Act.put, List.setIfInBounds_toArray, List.set_cons_zero, List.set_cons_succ]
                            refine step_skip (by rfl) ?_
                            simp only [Act.put, List.setIfInBounds_toArray, List.set_cons_zero, List.set_cons_succ]
                            refine step_skip (by rfl) ?_
                            simp only [Act.put, List.setIfInBounds_toArray, List.set_cons_zero, List.set_cons_succ]
                            refine step_skip (by rfl) ?_
                            simp only [Act.put, List.setIfInBounds_toArray, List.set_cons_zero, List.set_cons_succ]
                            refine step_skip (by rfl) ?_
                            simp only [Act.put, List.setIfInBounds_toArray, List.set_cons_zero, List.set_cons_succ]
                            refine step_skip (by rfl) ?_
                            simp only [Act.put, List.setIfInBounds_toArray, List.set_cons_zero, List.set_cons_succ]
                            refine step_skip (by rfl) ?_
                            simp only [Act.put, List.setIfInBounds_toArray, List.set_cons_zero, List.set_cons_succ]
                            refine step_read (by rfl) (fun K hK => ?_)
                            go_big_quiet_op
                            refine hK _ ?_
                            clear hK K
                            refine step_nil ?_
                            have HFIN := hid ((HE.out).trans HU2.out)
                            have HBF := hid (HBC.out (HVF.out (by simp)))
                            go_wp2
                            go_ret
                            exact ⟨by rw [HBF.out]; rfl, HFIN.out⟩
                          | false =>
                            obtain ⟨tn, htn⟩ := Int.eq_ofNat_of_zero_le (HIN.out (by simp) (by simp)).1
                            have htl : tn < x.comps.length := by have h1 := HM.out; have h2 := (HIN.out (by simp) (by simp)).2; omega
                            have htm : (tn : Int) < (m : Int) := by have h2 := (HIN.out (by simp) (by simp)).2; omega
                            have htz : (0 : Int) ≤ (tn : Int) := by omega
                            obtain ⟨d, hd⟩ : ∃ y, x.comps[tn] = y := ⟨_, rfl⟩
                            have HLC := hid (show lenC x.comps l.to_ = (d.bl.length : Int) by
                              unfold lenC
                              rw [htn, Int.toNat_natCast, List.getElem?_eq_getElem htl, hd]
                              rfl)
                            have hdm : d.bl.length ≤ maxLen := by have := HI.out.cb d (hd ▸ List.getElem_mem _); omega
                            obtain ⟨cb, co, eC, hcb, hrc⟩ := (HRC.out.ext HE.out).elem cmp_len htl d hd
                            have c0 := hrc 0 _ rfl
                            simp only [Nat.add_zero] at c0
                            rw [htn] at rc1 HWb HC
                            subst eC
                            obtain ⟨dl, hdl⟩ : ∃ y, d.bl.length = y := ⟨_, rfl⟩
                            rw [hdl] at c0 HLC hdm
                            obtain ⟨qd, hqd⟩ : ∃ y : Int, (dl : Int) / 4 = y := ⟨_, rfl⟩
                            have ht : (dl : Int).tdiv 4 = qd := by rw [Int.tdiv_eq_ediv_of_nonneg (by omega)]; exact hqd
                            have hw : wrap64 qd = qd := by have h1 := hdm; unfold maxLen at h1; unfold wrap64; omega
                            rw [HLC.out, hqd] at HVE
                            have HE9 := hid (show decide (l.at_ ≥ qd) = ve from HVE.out)
                            clear hd hrc hdl hqd HLC hdm htl HVE htn
                            refine wp_region_step (.rd 0 (.rd 1 (.rd 2 (.rd 3 (.ac 4 (.rd 5 (.rd 6 (.rd 7 (.rd 8 (.rd 9 (.rd 10 (.ac 11 (.rd 12 (.rd 13 (.rd 14 (.rd 15 (.rd 16 (.rd 17 (.rd 18 (.rd 19 (.rd 20 (.rd 21 (.rd 22 (.rd 23 (.rd 24 (.rd 25 (.rd 26 (.rd 27 (.rd 28 (.rd 29 (.rd 30 (.rd 31 (.rd 32 (.rd 33 (.rd 34 (.rd 35 (.rd 36 (.rd 37 (.rd 38 (.rd 39 .done)))))))))))))))))))))))))))))))))))))))) (by kernel_rfl) (by kernel_rfl) (fun _ _ d _ _ h => by cases d <;> exact h) (by simp only [Ord.map, nthOp, List.append]; rfl) ?_
                            intro d0
                            have HU0 := hid (Ext.grow (Ext.refl W7) d0)
                            generalize Go.Proofs.Ytgldlkoohfclpaa.grow W7 d0 = U0 at HU0 ⊢
                            have hbp := Nat.lt_of_lt_of_le ql HU0.out.size
                            have hb0 := (HU0.out.cells _ _ ql).trans qc0
                            have hb1 := (HU0.out.cells _ _ ql).trans qc1
                            have hb2 := (HU0.out.cells _ _ ql).trans qc2
                            have hb3 := (HU0.out.cells _ _ ql).trans qc3
                            have hb4 := (HU0.out.cells _ _ ql).trans qc4
                            have hb5 := (HU0.out.cells _ _ ql).trans qc5
                            have hgl := Nat.lt_of_lt_of_le rl HU0.out.size
                            have hg0 := (HU0.out.cells _ _ rl).trans rc0
                            have hg1 := (HU0.out.cells _ _ rl).trans rc1
                            have hg2 := (HU0.out.cells _ _ rl).trans rc2
                            have hbc := Nat.lt_of_lt_of_le hcb HU0.out.size
                            have hbs := (HU0.out.cells _ _ hcb).trans c0
                            refine step_read (by rfl) (fun K hK => ?_)
                            go_big_quiet_op
                            refine hK _ ?_
                            clear hK K
                            refine step_read (by rfl) (fun K hK => ?_)
                            go_big_quiet_op
                            refine hK _ ?_
                            clear hK K
                            refine step_read (by rfl) (fun K hK => ?_)
                            go_big_quiet_op
                            refine hK _ ?_
                            clear hK K
                            refine step_read (by rfl) (fun K hK => ?_)
                            go_big_quiet_op
                            refine hK _ ?_
                            clear hK K
                            refine step_act (by rfl) (fun K hK => ?_)
                            go_wp2_with (go_at_call 64; refine (HWa.out U0).mono ?_; rintro e U1 ⟨b, rfl, hb, hx⟩; replace hb : b = true := hb; subst hb)
                            refine ⟨_, hx, Ext.refl _, ?_⟩
                            have HU1 := hid (HU0.out.trans hx)
                            have hxa4 := hx
                            clear hx
                            replace hg0 := (hxa4.cells _ _ hgl).trans hg0
                            replace hg1 := (hxa4.cells _ _ hgl).trans hg1
                            replace hg2 := (hxa4.cells _ _ hgl).trans hg2
                            replace hgl := Nat.lt_of_lt_of_le hgl hxa4.size
                            replace hb0 := (hxa4.cells _ _ hbp).trans hb0
                            replace hb1 := (hxa4.cells _ _ hbp).trans hb1
                            replace hb2 := (hxa4.cells _ _ hbp).trans hb2
                            replace hb3 := (hxa4.cells _ _ hbp).trans hb3
                            replace hb4 := (hxa4.cells _ _ hbp).trans hb4
                            replace hb5 := (hxa4.cells _ _ hbp).trans hb5
                            replace hbp := Nat.lt_of_lt_of_le hbp hxa4.size
                            replace hbs := (hxa4.cells _ _ hbc).trans hbs
                            replace hbc := Nat.lt_of_lt_of_le hbc hxa4.size
                            refine step_read (by rfl) (fun K hK => ?_)
                            go_big_quiet_op
                            refine hK _ ?_
                            clear hK K
                            refine step_read (by rfl) (fun K hK => ?_)
                            go_big_quiet_op
                            refine hK _ ?_
                            clear hK K
                            refine step_read (by rfl) (fun K hK => ?_)
                            go_big_quiet_op
                            refine hK _ ?_
                            clear hK K
                            refine step_read (by rfl) (fun K hK => ?_)
                            go_big_quiet_op
                            refine hK _ ?_
                            clear hK K
                            refine step_read (by rfl) (fun K hK => ?_)
                            go_big_quiet_op
                            refine hK _ ?_
                            clear hK K
                            refine step_read (by rfl) (fun K hK => ?_)
                            go_big_quiet_op
                            refine hK _ ?_
                            clear hK K
                            refine step_act (by rfl) (fun K hK => ?_)
                            go_wp2_with (go_at_call 64; refine (HWb.out U1).mono ?_; rintro e U2 ⟨b, rfl, hb, hx⟩; replace hb : b = true := hb; subst hb)
                            refine ⟨_, hx, Ext.refl _, ?_⟩
                            have HU2 := hid (HU1.out.trans hx)
                            have hxa11 := hx
                            clear hx
                            replace hg0 := (hxa11.cells _ _ hgl).trans hg0
                            replace hg1 := (hxa11.cells _ _ hgl).trans hg1
                            replace hg2 := (hxa11.cells _ _ hgl).trans hg2
                            replace hgl := Nat.lt_of_lt_of_le hgl hxa11.size
                            replace hb0 := (hxa11.cells _ _ hbp).trans hb0
                            replace hb1 := (hxa11.cells _ _ hbp).trans hb1
                            replace hb2 := (hxa11.cells _ _ hbp).trans hb2
                            replace hb3 := (hxa11.cells _ _ hbp).trans hb3
                            replace hb4 := (hxa11.cells _ _ hbp).trans hb4
                            replace hb5 := (hxa11.cells _ _ hbp).trans hb5
                            replace hbp := Nat.lt_of_lt_of_le hbp hxa11.size
                            replace hbs := (hxa11.cells _ _ hbc).trans hbs
                            replace hbc := Nat.lt_of_lt_of_le hbc hxa11.size
                            refine step_read (by rfl) (fun K hK => ?_)
                            go_big_quiet_op
                            refine hK _ ?_
                            clear hK K
                            refine step_read (by rfl) (fun K hK => ?_)
                            go_big_quiet_op
                            refine hK _ ?_
                            clear hK K
                            refine step_read (by rfl) (fun K hK => ?_)
                            go_big_quiet_op
                            refine hK _ ?_
                            clear hK K
                            refine step_read (by rfl) (fun K hK => ?_)
                            go_big_quiet_op
                            refine hK _ ?_
                            clear hK K
                            refine step_read (by rfl) (fun K hK => ?_)
                            go_big_quiet_op
                            refine hK _ ?_
                            clear hK K
                            refine step_read (by rfl) (fun K hK => ?_)
                            go_big_quiet_op
                            refine hK _ ?_
                            clear hK K
                            refine step_read (by rfl) (fun K hK => ?_)
                            go_big_quiet_op
                            refine hK _ ?_
                            clear hK K
                            refine step_read (by rfl) (fun K hK => ?_)
                            refine quiet_runD 101 rfl (.bool false) (fun w => by go_simp; first | exact HC.out | (have h9 := HC.out; simpa using h9)) ?_
                            refine hK _ ?_
                            clear hK K
                            simp only [Act.put, List.setIfInBounds_toArray, List.set_cons_zero, List.set_cons_succ]
                            refine step_read (by rfl) (fun K hK => ?_)
                            go_big_quiet_op
                            refine hK _ ?_
                            clear hK K
                            refine step_read (by rfl) (fun K hK => ?_)
                            go_big_quiet_op
                            refine hK _ ?_
                            clear hK K
                            refine step_read (by rfl) (fun K hK => ?_)
                            go_big_quiet_op
                            refine hK _ ?_
                            clear hK K
                            refine step_read (by rfl) (fun K hK => ?_)
                            go_big_quiet_op
                            refine hK _ ?_
                            clear hK K
                            refine step_read (by rfl) (fun K hK => ?_)
                            refine quiet_runD 106 rfl (.bool false) (fun w => by go_simp; first | exact HD.out | (have h9 := HD.out; simpa using h9)) ?_
                            refine hK _ ?_
                            clear hK K
                            simp only [Act.put, List.setIfInBounds_toArray, List.set_cons_zero, List.set_cons_succ]
                            refine step_read (by rfl) (fun K hK => ?_)
                            go_big_quiet_op
                            refine hK _ ?_
                            clear hK K
                            refine step_read (by rfl) (fun K hK => ?_)
                            go_big_quiet_op
                            refine hK _ ?_
                            clear hK K
                            refine step_read (by rfl) (fun K hK => ?_)
                            go_big_quiet_op
                            refine hK _ ?_
                            clear hK K
                            refine step_read (by rfl) (fun K hK => ?_)
                            go_big_quiet_op
                            refine hK _ ?_
                            clear hK K
                            refine step_read (by rfl) (fun K hK => ?_)
                            go_big_quiet_op
                            refine hK _ ?_
                            clear hK K
                            refine step_read (by rfl) (fun K hK => ?_)
                            go_big_quiet_op
                            refine hK _ ?_
                            clear hK K
                            refine step_read (by rfl) (fun K hK => ?_)
                            go_big_quiet_op
                            refine hK _ ?_
                            clear hK K
                            refine step_read (by rfl) (fun K hK => ?_)
                            go_big_quiet_op
                            refine hK _ ?_
                            clear hK K
                            refine step_read (by rfl) (fun K hK => ?_)
                            refine quiet_runD 115 rfl (.pointer (some ⟨cb, co + tn * 2, none⟩)) (fun w => by go_simp) ?_
                            refine hK _ ?_
                            clear hK K
                            simp only [Act.put, List.setIfInBounds_toArray, List.set_cons_zero, List.set_cons_succ]
                            refine step_read (by rfl) (fun K hK => ?_)
                            go_big_quiet_op
                            refine hK _ ?_
                            clear hK K
                            refine step_read (by rfl) (fun K hK => ?_)
                            go_big_quiet_op
                            refine hK _ ?_
                            clear hK K
                            refine step_read (by rfl) (fun K hK => ?_)
                            go_big_quiet_op
                            refine hK _ ?_
                            clear hK K
                            refine step_read (by rfl) (fun K hK => ?_)
                            go_big_quiet_op
                            refine hK _ ?_
                            clear hK K
                            refine step_read (by rfl) (fun K hK => ?_)
                            refine quiet_runD 120 rfl (.bool ve) (fun w => by go_simp; first | exact HE9.out | (have h9 := HE9.out; simpa using h9)) ?_
                            refine hK _ ?_
                            clear hK K
                            simp only [Act.put, List.setIfInBounds_toArray, List.set_cons_zero, List.set_cons_succ]
                            refine step_read (by rfl) (fun K hK => ?_)
                            go_big_quiet_op
                            refine hK _ ?_
                            clear hK K
                            refine step_nil ?_
                            have HFIN := hid ((HE.out).trans HU2.out)
                            have HXU := HU2
                            cases ve with
                            | true =>
                              have HBF := hid (HBC.out (HVF.out (by simp)))
                              go_wp2
                              go_ret
                              exact ⟨by rw [HBF.out]; rfl, HFIN.out⟩
                            | false =>
                              replace HE := HFIN
                              replace HR := hid (HR.out.ext HXU.out)
                              replace HG := hid (HG.out.ext HXU.out)
                              go_wp2
                              clear ql qc0 qc1 qc2 qc3 qc4 qc5
                              clear rl rc0 rc1 rc2
                              go_loopw [8, 9] (fun c j wr => ∃ (jj : Nat), jj ≤ i + 1 ∧ j = .int .i64 jj ∧ c = .int .i64 (cntP x.links l.fr jj) ∧ Hid (Ext w wr) ∧ Hid (Row wr p 0 [.bool x.strict, .int .i64 xh, .int .i64 xf, .slice (some ⟨cb, co, none⟩) m x.cc, .slice (some ⟨b', o', none⟩) ml x.lc, .slice Sa ms x.sc]) ∧ Hid (Row wr g 0 [.int .i64 l.fr, .int .i64 l.to_, .int .i64 l.at_])) (fun _ j _ => (i + 1) - (intOf j).toNat)
                              case atStart => exact ⟨0, Nat.zero_le _, rfl, rfl, HE, HR, HG⟩
                              case round =>
                                clear HE HR HG
                                obtain ⟨jj, hjj, rfl, rfl, HE, HR, HG⟩ := hrel
                                have hcn : cntP x.links l.fr jj ≤ 100 := by have := lf_len (x.links.take jj) l.fr; rw [List.length_take] at this; unfold cntP; omega
                                by_cases hlj : jj ≤ i
                                · have hj1 : (jj : Int) ≤ (i : Int) := by omega
                                  have hj0 : (0 : Int) ≤ (jj : Int) := by omega
                                  have hjm : (jj : Int) < (ml : Int) := by omega
                                  have hjl : jj < x.links.length := by rw [HML.out]; omega
                                  obtain ⟨l2, hl2⟩ : ∃ y, x.links[jj] = y := ⟨_, rfl⟩
                                  have HT0 := hid (show cntP x.links l.fr (jj + 1) = if (l2.fr == l.fr) = true then cntP x.links l.fr jj + 1 else cntP x.links l.fr jj by
                                    unfold cntP
                                    rw [List.take_succ_eq_append_getElem hjl, hl2, lf_snoc]
                                    split
                                    · rw [List.length_append]; rfl
                                    · rfl)
                                  obtain ⟨zb, zo, eZ, hz1, hzr⟩ := (HRL.out.ext HE.out).elem lnk_len hjl l2 hl2
                                  cases eZ
                                  have z0 := hzr 0 _ rfl
                                  simp only [Nat.add_zero] at z0
                                  obtain ⟨cn, hcn2⟩ : ∃ y, cntP x.links l.fr jj = y := ⟨_, rfl⟩
                                  rw [hcn2] at hcn HT0 ⊢
                                  clear hl2 hzr hcn2
                                  have q := HR.out
                                  have ql := q.lt
                                  have qc0 := q.range 0 _ rfl
                                  have qc1 := q.range 1 _ rfl
                                  have qc2 := q.range 2 _ rfl
                                  have qc3 := q.range 3 _ rfl
                                  have qc4 := q.range 4 _ rfl
                                  have qc5 := q.range 5 _ rfl
                                  simp only [Nat.zero_add] at qc1 qc2 qc3 qc4 qc5
                                  clear q
                                  have r := HG.out
                                  have rl := r.lt
                                  have rc0 := r.range 0 _ rfl
                                  have rc1 := r.range 1 _ rfl
                                  have rc2 := r.range 2 _ rfl
                                  simp only [Nat.zero_add] at rc1 rc2
                                  clear r
                                  go_upto_region 20 with (fail)
                                  cases hq : (l2.fr == l.fr) with
                                  | true =>
                                    have HQ := hid hq
                                    have HT := hid (show cntP x.links l.fr (jj + 1) = cn + 1 by rw [HT0.out, if_pos hq])
                                    clear hq
                                    refine wp_region_step (.rd 0 (.rd 1 (.rd 2 (.rd 3 (.rd 4 (.rd 5 (.rd 6 (.rd 7 (.rd 8 .done))))))))) (by kernel_rfl) (by kernel_rfl) (fun _ _ d _ _ h => by cases d <;> exact h) (by simp only [Ord.map, nthOp, List.append]; rfl) ?_
                                    intro d0
                                    have HU0 := hid (Ext.grow (Ext.refl wr) d0)
                                    generalize Go.Proofs.Ytgldlkoohfclpaa.grow wr d0 = U0 at HU0 ⊢
                                    have hbp := Nat.lt_of_lt_of_le ql HU0.out.size
                                    have hb0 := (HU0.out.cells _ _ ql).trans qc0
                                    have hb1 := (HU0.out.cells _ _ ql).trans qc1
                                    have hb2 := (HU0.out.cells _ _ ql).trans qc2
                                    have hb3 := (HU0.out.cells _ _ ql).trans qc3
                                    have hb4 := (HU0.out.cells _ _ ql).trans qc4
                                    have hb5 := (HU0.out.cells _ _ ql).trans qc5
                                    have hgl := Nat.lt_of_lt_of_le rl HU0.out.size
                                    have hg0 := (HU0.out.cells _ _ rl).trans rc0
                                    have hg1 := (HU0.out.cells _ _ rl).trans rc1
                                    have hg2 := (HU0.out.cells _ _ rl).trans rc2
                                    have hzl := Nat.lt_of_lt_of_le hz1 HU0.out.size
                                    have hz0 := (HU0.out.cells _ _ hz1).trans z0
                                    refine step_read (by rfl) (fun K hK => ?_)
                                    go_big_quiet_op
                                    refine hK _ ?_
                                    clear hK K
                                    refine step_read (by rfl) (fun K hK => ?_)
                                    go_big_quiet_op
                                    refine hK _ ?_
                                    clear hK K
                                    refine step_read (by rfl) (fun K hK => ?_)
                                    go_big_quiet_op
                                    refine hK _ ?_
                                    clear hK K
                                    refine step_read (by rfl) (fun K hK => ?_)
                                    go_big_quiet_op
                                    refine hK _ ?_
                                    clear hK K
                                    refine step_read (by rfl) (fun K hK => ?_)
                                    go_big_quiet_op
                                    refine hK _ ?_
                                    clear hK K
                                    refine step_read (by rfl) (fun K hK => ?_)
                                    go_big_quiet_op
                                    refine hK _ ?_
                                    clear hK K
                                    refine step_read (by rfl) (fun K hK => ?_)
                                    go_big_quiet_op
                                    refine hK _ ?_
                                    clear hK K
                                    refine step_read (by rfl) (fun K hK => ?_)
                                    go_big_quiet_op
                                    refine hK _ ?_
                                    clear hK K
                                    refine step_read (by rfl) (fun K hK => ?_)
                                    refine quiet_runD 135 rfl (.bool true) (fun w => by go_simp; first | exact HQ.out | (have h9 := HQ.out; simpa using h9)) ?_
                                    refine hK _ ?_
                                    clear hK K
                                    simp only [Act.put, List.setIfInBounds_toArray, List.set_cons_zero, List.set_cons_succ]
                                    refine step_nil ?_
                                    replace HE := hid (HE.out.trans HU0.out)
                                    replace HR := hid (HR.out.ext HU0.out)
                                    replace HG := hid (HG.out.ext HU0.out)
                                    go_wp2
                                    go_roundw
                                    case rel => exact ⟨jj + 1, by omega, by go_num, by rw [HT.out]; go_num, HE, HR, HG⟩
                                    case measure => simp [intOf]; omega
                                  | false =>
                                    have HQ := hid hq
                                    have HT := hid (show cntP x.links l.fr (jj + 1) = cn by rw [HT0.out, hq]; rfl)
                                    clear hq
                                    refine wp_region_step (.rd 0 (.rd 1 (.rd 2 (.rd 3 (.rd 4 (.rd 5 (.rd 6 (.rd 7 (.rd 8 .done))))))))) (by kernel_rfl) (by kernel_rfl) (fun _ _ d _ _ h => by cases d <;> exact h) (by simp only [Ord.map, nthOp, List.append]; rfl) ?_
                                    intro d0
                                    have HU0 := hid (Ext.grow (Ext.refl wr) d0)
                                    generalize Go.Proofs.Ytgldlkoohfclpaa.grow wr d0 = U0 at HU0 ⊢
                                    have hbp := Nat.lt_of_lt_of_le ql HU0.out.size
                                    have hb0 := (HU0.out.cells _ _ ql).trans qc0
                                    have hb1 := (HU0.out.cells _ _ ql).trans qc1
                                    have hb2 := (HU0.out.cells _ _ ql).trans qc2
                                    have hb3 := (HU0.out.cells _ _ ql).trans qc3
                                    have hb4 := (HU0.out.cells _ _ ql).trans qc4
                                    have hb5 := (HU0.out.cells _ _ ql).trans qc5
                                    have hgl := Nat.lt_of_lt_of_le rl HU0.out.size
                                    have hg0 := (HU0.out.cells _ _ rl).trans rc0
                                    have hg1 := (HU0.out.cells _ _ rl).trans rc1
                                    have hg2 := (HU0.out.cells _ _ rl).trans rc2
                                    have hzl := Nat.lt_of_lt_of_le hz1 HU0.out.size
                                    have hz0 := (HU0.out.cells _ _ hz1).trans z0
                                    refine step_read (by rfl) (fun K hK => ?_)
                                    go_big_quiet_op
                                    refine hK _ ?_
                                    clear hK K
                                    refine step_read (by rfl) (fun K hK => ?_)
                                    go_big_quiet_op
                                    refine hK _ ?_
                                    clear hK K
                                    refine step_read (by rfl) (fun K hK => ?_)
                                    go_big_quiet_op
                                    refine hK _ ?_
                                    clear hK K
                                    refine step_read (by rfl) (fun K hK => ?_)
                                    go_big_quiet_op
                                    refine hK _ ?_
                                    clear hK K
                                    refine step_read (by rfl) (fun K hK => ?_)
                                    go_big_quiet_op
                                    refine hK _ ?_
                                    clear hK K
                                    refine step_read (by rfl) (fun K hK => ?_)
                                    go_big_quiet_op
                                    refine hK _ ?_
                                    clear hK K
                                    refine step_read (by rfl) (fun K hK => ?_)
                                    go_big_quiet_op
                                    refine hK _ ?_
                                    clear hK K
                                    refine step_read (by rfl) (fun K hK => ?_)
                                    go_big_quiet_op
                                    refine hK _ ?_
                                    clear hK K
                                    refine step_read (by rfl) (fun K hK => ?_)
                                    refine quiet_runD 135 rfl (.bool false) (fun w => by go_simp; first | exact HQ.out | (have h9 := HQ.out; simpa using h9)) ?_
                                    refine hK _ ?_
                                    clear hK K
                                    simp only [Act.put, List.setIfInBounds_toArray, List.set_cons_zero, List.set_cons_succ]
                                    refine step_nil ?_
                                    replace HE := hid (HE.out.trans HU0.out)
                                    replace HR := hid (HR.out.ext HU0.out)
                                    replace HG := hid (HG.out.ext HU0.out)
                                    go_wp2
                                    go_roundw
                                    case rel => exact ⟨jj + 1, by omega, by go_num, by rw [HT.out], HE, HR, HG⟩
                                    case measure => simp [intOf]; omega
                                · obtain rfl : jj = i + 1 := by omega
                                  have hj1 : ¬ (((i + 1 : Nat) : Int) ≤ (i : Int)) := by omega
                                  have HLT := hid (show decide ((8 : Int) < ((cntP x.links l.fr (i + 1) : Nat) : Int)) = true → lF x i l = false from fun h => HVF.out (.inr (.inr (.inr (.inr (.inr h))))))
                                  have HLY := hid (show decide ((8 : Int) < ((cntP x.links l.fr (i + 1) : Nat) : Int)) = false → lF x i l = true from fun h => HYS.out (by simp) (by simp) (by simp) (by simp) (by simp) h)
                                  obtain ⟨cn, hcn2⟩ : ∃ y, cntP x.links l.fr (i + 1) = y := ⟨_, rfl⟩
                                  rw [hcn2] at hcn HLT HLY ⊢
                                  clear hcn2
                                  by_cases h8 : (8 : Int) < (cn : Int)
                                  · have HBF := hid (HBC.out (HLT.out (decide_eq_true h8)))
                                    have HFIN := HE
                                    clear HLT HLY
                                    go_wp2
                                    go_ret
                                    exact ⟨by rw [HBF.out]; rfl, HFIN.out⟩
                                  · have HY := hid (HKT.out (HLY.out (decide_eq_false h8)))
                                    clear HLT HLY
                                    go_wp2
                                    go_roundw
                                    case rel => exact ⟨i + 1, by omega, by go_num, HY, HE, HR⟩
                                    case measure => simp [intOf]; omega
                  · obtain rfl : ml = i := by omega
                    have hi1 : ¬ (ml : Int) < (ml : Int) := by omega
                    replace HV2 := hid (show formV x = x.shares.all (sF m) by
                      rw [List.take_of_length_le (by rw [List.length_zipIdx, HML.out]; exact Nat.le_refl _)] at HA
                      rw [HV2.out, HA.out, Bool.true_and])
                    clear HA
                    have q := HR.out
                    have ql := q.lt
                    have qc0 := q.range 0 _ rfl
                    have qc1 := q.range 1 _ rfl
                    have qc2 := q.range 2 _ rfl
                    have qc3 := q.range 3 _ rfl
                    have qc4 := q.range 4 _ rfl
                    have qc5 := q.range 5 _ rfl
                    simp only [Nat.zero_add] at qc1 qc2 qc3 qc4 qc5
                    clear q
                    go_wp2
                    clear ql qc0 qc1 qc2 qc3 qc4 qc5
                    go_loopw [10] (fun i wr => ∃ (k : Nat), k ≤ ms ∧ i = .int .i64 k ∧ Hid ((x.shares.take k).all (sF m) = true) ∧ Hid (Ext w wr) ∧ Hid (Row wr p 0 [.bool x.strict, .int .i64 xh, .int .i64 xf, .slice Ca m x.cc, .slice La ml x.lc, .slice Sa ms x.sc])) (fun i _ => ms - (intOf i).toNat)
                    case atStart => exact ⟨0, Nat.zero_le _, rfl, hid rfl, HE, HR⟩
                    case round =>
                      clear HE HR
                      obtain ⟨j, hj, rfl, HA, HE, HR⟩ := hrel
                      by_cases hlt : j < ms
                      · have hj1 : (j : Int) < (ms : Int) := by omega
                        have hj0 : (0 : Int) ≤ (j : Int) := by omega
                        have hjl : j < x.shares.length := by rw [HMS.out]; exact hlt
                        obtain ⟨d, hd⟩ : ∃ y, x.shares[j] = y := ⟨_, rfl⟩
                        have HKT := hid (show sF m d = true → (x.shares.take (j + 1)).all (sF m) = true from fun h2 => all_take hjl hd HA.out h2)
                        have HBC := hid (show sF m d = false → formV x = false from fun h2 => by rw [HV2.out, all_bad (hd ▸ List.getElem_mem _) h2])
                        obtain ⟨b', o', eA, hb1, hrg⟩ := (HRS.out.ext HE.out).elem shr_len hjl d hd
                        have e0 := hrg 0 _ rfl
                        have e1 := hrg 1 _ rfl
                        simp only [Nat.add_zero] at e0
                        subst eA
                        clear hd hrg
                        have q := HR.out
                        have ql := q.lt
                        have qc0 := q.range 0 _ rfl
                        have qc1 := q.range 1 _ rfl
                        have qc2 := q.range 2 _ rfl
                        have qc3 := q.range 3 _ rfl
                        have qc4 := q.range 4 _ rfl
                        have qc5 := q.range 5 _ rfl
                        simp only [Nat.zero_add] at qc1 qc2 qc3 qc4 qc5
                        clear q
                        go_upto_region 28 with (fail)
                        refine wp_gen (fun W => Hid (Ext wr W) ∧ Hid (Row W wr.heap.size 0 [.int .i64 d.rd, .int .i64 d.wr_])) ⟨hid (by repeat (first | (with_reducible exact Ext.refl _) | (with_reducible refine Ext.undrew ?_) | (with_reducible refine Ext.grow ?_ _) | (with_reducible refine Ext.drew ?_) | (with_reducible refine Ext.drewN ?_ _) | (with_reducible refine Ext.alloc ?_ _) | (with_reducible assumption) | ((with_reducible refine Ext.setCell ?_ ?_ _); rotate_left; (first | exact Nat.le_refl _ | ((try dsimp only); (try simp only [World.size_alloc, grow_size, World.size_setCell]); omega))))), hid (Row.new wr _ _)⟩ ?_
                        rintro W8 ⟨hx, HG⟩
                        replace HE := hid (HE.out.trans hx.out)
                        replace HR := hid (HR.out.ext hx.out)
                        obtain ⟨g, hg⟩ : ∃ y, wr.heap.size = y := ⟨_, rfl⟩
                        rw [hg] at HG ⊢
                        clear hg hx e0 e1 hb1 ql qc0 qc1 qc2 qc3 qc4 qc5
                        have q := HR.out
                        have ql := q.lt
                        have qc0 := q.range 0 _ rfl
                        have qc1 := q.range 1 _ rfl
                        have qc2 := q.range 2 _ rfl
                        have qc3 := q.range 3 _ rfl
                        have qc4 := q.range 4 _ rfl
                        have qc5 := q.range 5 _ rfl
                        simp only [Nat.zero_add] at qc1 qc2 qc3 qc4 qc5
                        clear q
                        have r := HG.out
                        have rl := r.lt
                        have rc0 := r.range 0 _ rfl
                        have rc1 := r.range 1 _ rfl
                        simp only [Nat.zero_add] at rc1
                        clear r
                        obtain ⟨P, hP⟩ : ∃ y : Int, (2 : Int) ^ m = y := ⟨_, rfl⟩
                        have HM4 := hid (show (m = 1 ∧ P = 2) ∨ (m = 2 ∧ P = 4) ∨ (m = 3 ∧ P = 8) ∨ (m = 4 ∧ P = 16) by
                          rcases (show m = 1 ∨ m = 2 ∨ m = 3 ∨ m = 4 by omega) with rfl | rfl | rfl | rfl <;> simp [← hP])
                        have hP1 : 0 < P := by have := HM4.out; omega
                        have hP2 : P ≤ 16 := by have := HM4.out; omega
                        obtain ⟨z, hz⟩ : ∃ y, bits .and .i64 d.wr_ d.rd = y := ⟨_, rfl⟩
                        have HZ := hid hz
                        obtain ⟨va, vah⟩ : ∃ y, outB d.rd 0 (P - 1) = y := ⟨_, rfl⟩
                        obtain ⟨vb, vbh⟩ : ∃ y, decide (d.wr_ < 0) = y := ⟨_, rfl⟩
                        obtain ⟨vc, vch⟩ : ∃ y, (!(z == d.wr_)) = y := ⟨_, rfl⟩
                        have HWa : Hid (∀ W, Calls Try.prog 64 #[.int .i64 (d.rd), .int .i64 (0), .int .i64 (P - 1)] W fun e w' => ∃ b, e = .returned (.bool b) ∧ b = (!va) ∧ Ext W w') := hid (fun W => by refine (within_ (d.rd) (0) (P - 1) W).mono ?_; rintro e w' ⟨rfl, hx⟩; exact ⟨_, rfl, by rw [vah], hx⟩)
                        have HC := hid vch
                        have HD := hid vbh
                        have HVL := hid (show sF m d = (!outB d.rd 0 (P - 1) && (!decide (d.wr_ < 0) && !!(z == d.wr_))) by unfold sF; rw [hP, hz, Bool.not_not])
                        rw [vah, vbh, vch] at HVL
                        have HVF := hid (show (va = true ∨ vb = true ∨ vc = true) → sF m d = false from fun h2 => by rw [HVL.out]; rcases h2 with h2 | h2 | h2 <;> simp [h2])
                        have HYS := hid (show va = false → vb = false → vc = false → sF m d = true from fun h1 h2 h3 => by rw [HVL.out, h1, h2, h3]; rfl)
                        clear vah vbh vch HVL hP hz
                        cases va with
                        | true =>
                          refine wp_region_step (.rd 0 (.rd 1 (.rd 2 (.rd 3 (.rd 4 (.ac 5 (.rd 6 (.rd 7 (.rd 8 (.rd 9 (.rd 10 (.rd 11 (.rd 12 (.rd 13 (.rd 14 (.rd 15 (.rd 16 (.rd 17 (.rd 18 (.rd 19 (.rd 20 (.rd 21 .done)))))))))))))))))))))) (by kernel_rfl) (by kernel_rfl) (fun _ _ d _ _ h => by cases d <;> exact h) (by simp only [Ord.map, nthOp, List.append]; rfl) ?_
                          intro d0
                          have HU0 := hid (Ext.grow (Ext.refl W8) d0)
                          generalize Go.Proofs.Ytgldlkoohfclpaa.grow W8 d0 = U0 at HU0 ⊢
                          have hbp := Nat.lt_of_lt_of_le ql HU0.out.size
                          have hb0 := (HU0.out.cells _ _ ql).trans qc0
                          have hb1 := (HU0.out.cells _ _ ql).trans qc1
                          have hb2 := (HU0.out.cells _ _ ql).trans qc2
                          have hb3 := (HU0.out.cells _ _ ql).trans qc3
                          have hb4 := (HU0.out.cells _ _ ql).trans qc4
                          have hb5 := (HU0.out.cells _ _ ql).trans qc5
                          have hgl := Nat.lt_of_lt_of_le rl HU0.out.size
                          have hg0 := (HU0.out.cells _ _ rl).trans rc0
                          have hg1 := (HU0.out.cells _ _ rl).trans rc1
                          refine step_read (by rfl) (fun K hK => ?_)
                          go_big_quiet_op
                          refine hK _ ?_
                          clear hK K
                          refine step_read (by rfl) (fun K hK => ?_)
                          go_big_quiet_op
                          refine hK _ ?_
                          clear hK K
                          refine step_read (by rfl) (fun K hK => ?_)
                          go_big_quiet_op
                          refine hK _ ?_
                          clear hK K
                          refine step_read (by rfl) (fun K hK => ?_)
                          refine quiet_runD 155 rfl (.int .i64 P) (fun w => by rcases HM4.out with ⟨rfl, rfl⟩ | ⟨rfl, rfl⟩ | ⟨rfl, rfl⟩ | ⟨rfl, rfl⟩ <;> first | (go_simp; done) | (go_simp; decide) | rfl) ?_
                          refine hK _ ?_
                          clear hK K
                          simp only [Act.put, List.setIfInBounds_toArray, List.set_cons_zero, List.set_cons_succ]
                          refine step_read (by rfl) (fun K hK => ?_)
                          go_big_quiet_op
                          refine hK _ ?_
                          clear hK K
                          refine step_act (by rfl) (fun K hK => ?_)
                          go_wp2_with (go_at_call 64; refine (HWa.out U0).mono ?_; rintro e U1 ⟨b, rfl, hb, hx⟩; replace hb : b = false := hb; subst hb)
                          refine ⟨_, hx, Ext.refl _, ?_⟩
                          have HU1 := hid (HU0.out.trans hx)
                          have hxa5 := hx
                          clear hx
                          replace hg0 := (hxa5.cells _ _ hgl).trans hg0
                          replace hg1 := (hxa5.cells _ _ hgl).trans hg1
                          replace hgl := Nat.lt_of_lt_of_le hgl hxa5.size
                          refine step_read (by rfl) (fun K hK => ?_)
                          go_big_quiet_op
                          refine hK _ ?_
                          clear hK K
                          refine step_read (by rfl) (fun K hK => ?_)
                          go_big_quiet_op
                          refine hK _ ?_
                          clear hK K
                          refine step_skip (by rfl) ?_
                          simp only [Act.put, List.setIfInBounds_toArray, List.set_cons_zero, List.set_cons_succ]
                          refine step_skip (by rfl) ?_
                          simp only [Act.put, List.setIfInBounds_toArray, List.set_cons_zero, List.set_cons_succ]
                          refine step_skip (by rfl) ?_
                          simp only [Act.put, List.setIfInBounds_toArray, List.set_cons_zero, List.set_cons_succ]
                          refine step_read (by rfl) (fun K hK => ?_)
                          go_big_quiet_op
                          refine hK _ ?_
                          clear hK K
                          refine step_read (by rfl) (fun K hK => ?_)
                          go_big_quiet_op
                          refine hK _ ?_
                          clear hK K
                          refine step_skip (by rfl) ?_
                          simp only [Act.put, List.setIfInBounds_toArray, List.set_cons_zero, List.set_cons_succ]
                          refine step_skip (by rfl) ?_
                          simp only [Act.put, List.setIfInBounds_toArray, List.set_cons_zero, List.set_cons_succ]
                          refine step_skip (by rfl) ?_
                          simp only [Act.put, List.setIfInBounds_toArray, List.set_cons_zero, List.set_cons_succ]
                          refine step_skip (by rfl) ?_
                          simp only [Act.put, List.setIfInBounds_toArray, List.set_cons_zero, List.set_cons_succ]
                          refine step_skip (by rfl) ?_
                          simp only [Act.put, List.setIfInBounds_toArray, List.set_cons_zero, List.set_cons_succ]
                          refine step_skip (by rfl) ?_
                          simp only [Act.put, List.setIfInBounds_toArray, List.set_cons_zero, List.set_cons_succ]
                          refine step_skip (by rfl) ?_
                          simp only [Act.put, List.setIfInBounds_toArray, List.set_cons_zero, List.set_cons_succ]
                          refine step_skip (by rfl) ?_
                          simp only [Act.put, List.setIfInBounds_toArray, List.set_cons_zero, List.set_cons_succ]
                          refine step_read (by rfl) (fun K hK => ?_)
                          go_big_quiet_op
                          refine hK _ ?_
                          clear hK K
                          refine step_nil ?_
                          have HFIN := hid ((HE.out).trans HU1.out)
                          have HBF := hid (HBC.out (HVF.out (by simp)))
                          go_wp2
                          go_ret
                          exact ⟨by rw [HBF.out]; rfl, HFIN.out⟩
                        | false =>
                          cases vb with
                          | true =>
                            refine wp_region_step (.rd 0 (.rd 1 (.rd 2 (.rd 3 (.rd 4 (.ac 5 (.rd 6 (.rd 7 (.rd 8 (.rd 9 (.rd 10 (.rd 11 (.rd 12 (.rd 13 (.rd 14 (.rd 15 (.rd 16 (.rd 17 (.rd 18 (.rd 19 (.rd 20 (.rd 21 .done)))))))))))))))))))))) (by kernel_rfl) (by kernel_rfl) (fun _ _ d _ _ h => by cases d <;> exact h) (by simp only [Ord.map, nthOp, List.append]; rfl) ?_
                            intro d0
                            have HU0 := hid (Ext.grow (Ext.refl W8) d0)
                            generalize Go.Proofs.Ytgldlkoohfclpaa.grow W8 d0 = U0 at HU0 ⊢
                            have hbp := Nat.lt_of_lt_of_le ql HU0.out.size
                            have hb0 := (HU0.out.cells _ _ ql).trans qc0
                            have hb1 := (HU0.out.cells _ _ ql).trans qc1
                            have hb2 := (HU0.out.cells _ _ ql).trans qc2
                            have hb3 := (HU0.out.cells _ _ ql).trans qc3
                            have hb4 := (HU0.out.cells _ _ ql).trans qc4
                            have hb5 := (HU0.out.cells _ _ ql).trans qc5
                            have hgl := Nat.lt_of_lt_of_le rl HU0.out.size
                            have hg0 := (HU0.out.cells _ _ rl).trans rc0
                            have hg1 := (HU0.out.cells _ _ rl).trans rc1
                            refine step_read (by rfl) (fun K hK => ?_)
                            go_big_quiet_op
                            refine hK _ ?_
                            clear hK K
                            refine step_read (by rfl) (fun K hK => ?_)
                            go_big_quiet_op
                            refine hK _ ?_
                            clear hK K
                            refine step_read (by rfl) (fun K hK => ?_)
                            go_big_quiet_op
                            refine hK _ ?_
                            clear hK K
                            refine step_read (by rfl) (fun K hK => ?_)
                            refine quiet_runD 155 rfl (.int .i64 P) (fun w => by rcases HM4.out with ⟨rfl, rfl⟩ | ⟨rfl, rfl⟩ | ⟨rfl, rfl⟩ | ⟨rfl, rfl⟩ <;> first | (go_simp; done) | (go_simp; decide) | rfl) ?_
                            refine hK _ ?_
                            clear hK K
                            simp only [Act.put, List.setIfInBounds_toArray, List.set_cons_zero, List.set_cons_succ]
                            refine step_read (by rfl) (fun K hK => ?_)
                            go_big_quiet_op
                            refine hK _ ?_
                            clear hK K
                            refine step_act (by rfl) (fun K hK => ?_)
                            go_wp2_with (go_at_call 64; refine (HWa.out U0).mono ?_; rintro e U1 ⟨b, rfl, hb, hx⟩; replace hb : b = true := hb; subst hb)
                            refine ⟨_, hx, Ext.refl _, ?_⟩
                            have HU1 := hid (HU0.out.trans hx)
                            have hxa5 := hx
                            clear hx
                            replace hg0 := (hxa5.cells _ _ hgl).trans hg0
                            replace hg1 := (hxa5.cells _ _ hgl).trans hg1
                            replace hgl := Nat.lt_of_lt_of_le hgl hxa5.size
                            refine step_read (by rfl) (fun K hK => ?_)
                            go_big_quiet_op
                            refine hK _ ?_
                            clear hK K
                            refine step_read (by rfl) (fun K hK => ?_)
                            go_big_quiet_op
                            refine hK _ ?_
                            clear hK K
                            refine step_read (by rfl) (fun K hK => ?_)
                            go_big_quiet_op
                            refine hK _ ?_
                            clear hK K
                            refine step_read (by rfl) (fun K hK => ?_)
                            go_big_quiet_op
                            refine hK _ ?_
                            clear hK K
                            refine step_read (by rfl) (fun K hK => ?_)
                            refine quiet_runD 162 rfl (.bool true) (fun w => by go_simp; first | exact HD.out | (have h9 := HD.out; simpa using h9)) ?_
                            refine hK _ ?_
                            clear hK K
                            simp only [Act.put, List.setIfInBounds_toArray, List.set_cons_zero, List.set_cons_succ]
                            refine step_read (by rfl) (fun K hK => ?_)
                            go_big_quiet_op
                            refine hK _ ?_
                            clear hK K
                            refine step_read (by rfl) (fun K hK => ?_)
                            go_big_quiet_op
                            refine hK _ ?_
                            clear hK K
                            refine step_skip (by rfl) ?_
                            simp only [Act.put, List.setIfInBounds_toArray, List.set_cons_zero, List.set_cons_succ]
                            refine step_skip (by rfl) ?_
                            simp only [Act.put, List.setIfInBounds_toArray, List.set_cons_zero, List.set_cons_succ]
                            refine step_skip (by rfl) ?_
                            simp only [Act.put, List.setIfInBounds_toArray, List.set_cons_zero, List.set_cons_succ]
                            refine step_skip (by rfl) ?_
                            simp only [Act.put, List.setIfInBounds_toArray, List.set_cons_zero, List.set_cons_succ]
                            refine step_skip (by rfl) ?_
                            simp only [Act.put, List.setIfInBounds_toArray, List.set_cons_zero, List.set_cons_succ]
                            refine step_skip (by rfl) ?_
                            simp only [Act.put, List.setIfInBounds_toArray, List.set_cons_zero, List.set_cons_succ]
                            refine step_skip (by rfl) ?_
                            simp only [Act.put, List.setIfInBounds_toArray, List.set_cons_zero, List.set_cons_succ]
                            refine step_skip (by rfl) ?_
                            simp only [Act.put, List.setIfInBounds_toArray, List.set_cons_zero, List.set_cons_succ]
                            refine step_read (by rfl) (fun K hK => ?_)
                            go_big_quiet_op
                            refine hK _ ?_
                            clear hK K
                            refine step_nil ?_
                            have HFIN := hid ((HE.out).trans HU1.out)
                            have HBF := hid (HBC.out (HVF.out (by simp)))
                            go_wp2
                            go_ret
                            exact ⟨by rw [HBF.out]; rfl, HFIN.out⟩
                          | false =>
                            refine wp_region_step (.rd 0 (.rd 1 (.rd 2 (.rd 3 (.rd 4 (.ac 5 (.rd 6 (.rd 7 (.rd 8 (.rd 9 (.rd 10 (.rd 11 (.rd 12 (.rd 13 (.rd 14 (.rd 15 (.rd 16 (.rd 17 (.rd 18 (.rd 19 (.rd 20 (.rd 21 .done)))))))))))))))))))))) (by kernel_rfl) (by kernel_rfl) (fun _ _ d _ _ h => by cases d <;> exact h) (by simp only [Ord.map, nthOp, List.append]; rfl) ?_
                            intro d0
                            have HU0 := hid (Ext.grow (Ext.refl W8) d0)
                            generalize Go.Proofs.Ytgldlkoohfclpaa.grow W8 d0 = U0 at HU0 ⊢
                            have hbp := Nat.lt_of_lt_of_le ql HU0.out.size
                            have hb0 := (HU0.out.cells _ _ ql).trans qc0
                            have hb1 := (HU0.out.cells _ _ ql).trans qc1
                            have hb2 := (HU0.out.cells _ _ ql).trans qc2
                            have hb3 := (HU0.out.cells _ _ ql).trans qc3
                            have hb4 := (HU0.out.cells _ _ ql).trans qc4
                            have hb5 := (HU0.out.cells _ _ ql).trans qc5
                            have hgl := Nat.lt_of_lt_of_le rl HU0.out.size
                            have hg0 := (HU0.out.cells _ _ rl).trans rc0
                            have hg1 := (HU0.out.cells _ _ rl).trans rc1
                            refine step_read (by rfl) (fun K hK => ?_)
                            go_big_quiet_op
                            refine hK _ ?_
                            clear hK K
                            refine step_read (by rfl) (fun K hK => ?_)
                            go_big_quiet_op
                            refine hK _ ?_
                            clear hK K
                            refine step_read (by rfl) (fun K hK => ?_)
                            go_big_quiet_op
                            refine hK _ ?_
                            clear hK K
                            refine step_read (by rfl) (fun K hK => ?_)
                            refine quiet_runD 155 rfl (.int .i64 P) (fun w => by rcases HM4.out with ⟨rfl, rfl⟩ | ⟨rfl, rfl⟩ | ⟨rfl, rfl⟩ | ⟨rfl, rfl⟩ <;> first | (go_simp; done) | (go_simp; decide) | rfl) ?_
                            refine hK _ ?_
                            clear hK K
                            simp only [Act.put, List.setIfInBounds_toArray, List.set_cons_zero, List.set_cons_succ]
                            refine step_read (by rfl) (fun K hK => ?_)
                            go_big_quiet_op
                            refine hK _ ?_
                            clear hK K
                            refine step_act (by rfl) (fun K hK => ?_)
                            go_wp2_with (go_at_call 64; refine (HWa.out U0).mono ?_; rintro e U1 ⟨b, rfl, hb, hx⟩; replace hb : b = true := hb; subst hb)
                            refine ⟨_, hx, Ext.refl _, ?_⟩
                            have HU1 := hid (HU0.out.trans hx)
                            have hxa5 := hx
                            clear hx
                            replace hg0 := (hxa5.cells _ _ hgl).trans hg0
                            replace hg1 := (hxa5.cells _ _ hgl).trans hg1
                            replace hgl := Nat.lt_of_lt_of_le hgl hxa5.size
                            refine step_read (by rfl) (fun K hK => ?_)
                            go_big_quiet_op
                            refine hK _ ?_
                            clear hK K
                            refine step_read (by rfl) (fun K hK => ?_)
                            go_big_quiet_op
                            refine hK _ ?_
                            clear hK K
                            refine step_read (by rfl) (fun K hK => ?_)
                            go_big_quiet_op
                            refine hK _ ?_
                            clear hK K
                            refine step_read (by rfl) (fun K hK => ?_)
                            go_big_quiet_op
                            refine hK _ ?_
                            clear hK K
                            refine step_read (by rfl) (fun K hK => ?_)
                            refine quiet_runD 162 rfl (.bool false) (fun w => by go_simp; first | exact HD.out | (have h9 := HD.out; simpa using h9)) ?_
                            refine hK _ ?_
                            clear hK K
                            simp only [Act.put, List.setIfInBounds_toArray, List.set_cons_zero, List.set_cons_succ]
                            refine step_read (by rfl) (fun K hK => ?_)
                            go_big_quiet_op
                            refine hK _ ?_
                            clear hK K
                            refine step_read (by rfl) (fun K hK => ?_)
                            go_big_quiet_op
                            refine hK _ ?_
                            clear hK K
                            refine step_read (by rfl) (fun K hK => ?_)
                            go_big_quiet_op
                            refine hK _ ?_
                            clear hK K
                            refine step_read (by rfl) (fun K hK => ?_)
                            go_big_quiet_op
                            refine hK _ ?_
                            clear hK K
                            refine step_read (by rfl) (fun K hK => ?_)
                            go_big_quiet_op
                            refine hK _ ?_
                            clear hK K
                            refine step_read (by rfl) (fun K hK => ?_)
                            go_big_quiet_op
                            refine hK _ ?_
                            clear hK K
                            refine step_read (by rfl) (fun K hK => ?_)
                            refine quiet_runD 169 rfl (.int .i64 z) (fun w => by go_simp; exact HZ.out) ?_
                            refine hK _ ?_
                            clear hK K
                            simp only [Act.put, List.setIfInBounds_toArray, List.set_cons_zero, List.set_cons_succ]
                            refine step_read (by rfl) (fun K hK => ?_)
                            go_big_quiet_op
                            refine hK _ ?_
                            clear hK K
                            refine step_read (by rfl) (fun K hK => ?_)
                            go_big_quiet_op
                            refine hK _ ?_
                            clear hK K
                            refine step_read (by rfl) (fun K hK => ?_)
                            refine quiet_runD 172 rfl (.bool vc) (fun w => by go_simp; first | exact HC.out | (have h9 := HC.out; simpa using h9)) ?_
                            refine hK _ ?_
                            clear hK K
                            simp only [Act.put, List.setIfInBounds_toArray, List.set_cons_zero, List.set_cons_succ]
                            refine step_read (by rfl) (fun K hK => ?_)
                            go_big_quiet_op
                            refine hK _ ?_
                            clear hK K
                            refine step_nil ?_
                            have HFIN := hid ((HE.out).trans HU1.out)
                            have HXU := HU1
                            cases vc with
                            | true =>
                              have HBF := hid (HBC.out (HVF.out (by simp)))
                              go_wp2
                              go_ret
                              exact ⟨by rw [HBF.out]; rfl, HFIN.out⟩
                            | false =>
                              have HY := hid (HKT.out (HYS.out (by simp) (by simp) (by simp)))
                              replace HE := HFIN
                              replace HR := hid (HR.out.ext HXU.out)
                              go_wp2
                              go_roundw
                              case rel => exact ⟨j + 1, by omega, by go_num, HY, HE, HR⟩
                              case measure => simp [intOf]; omega
                      · obtain rfl : ms = j := by omega
                        have hj1 : ¬ (ms : Int) < (ms : Int) := by omega
                        have HFV := hid (show formV x = true by
                          rw [List.take_of_length_le (by rw [HMS.out]; exact Nat.le_refl _)] at HA
                          rw [HV2.out, HA.out])
                        have q := HR.out
                        have ql := q.lt
                        have qc0 := q.range 0 _ rfl
                        have qc1 := q.range 1 _ rfl
                        have qc2 := q.range 2 _ rfl
                        have qc3 := q.range 3 _ rfl
                        have qc4 := q.range 4 _ rfl
                        have qc5 := q.range 5 _ rfl
                        simp only [Nat.zero_add] at qc1 qc2 qc3 qc4 qc5
                        clear q
                        go_wp2
                        go_ret
                        exact ⟨by rw [HFV.out]; rfl, HE.out⟩

end Go.Proofs.Ytgldlkoohfclpaa
