/- Layer 17: Great; strict. -/
import Derived.Test.YtgldlkoohfclpaaImZ
namespace Go.Proofs.Ytgldlkoohfclpaa
set_option linter.unusedSimpArgs false
set_option linter.unusedVariables false
open Go.RowKit

def GreatIs (x : Img) (e : Ending) : Prop := ∃ b : Bool, e = .returned (.bool b) ∧ (b = false → x.comps.length ≤ 900 ∧ x.links.length < 20000 ∧ x.shares.length < 20000 ∧ ∀ d ∈ x.comps, d.bl.length < 20000)
set_option maxRecDepth 100000 in
set_option maxHeartbeats 4000000 in
theorem great17_ (x : Img) (w : World) (h : ImgAt w x) (hc : x.comps.length ≤ 140737488351232) (hl : x.links.length ≤ 140737488351232) (hs : x.shares.length ≤ 140737488351232) : Calls Try.prog 11 #[.agg #[.bool x.strict, .int .i64 x.heap, .int .i64 x.full, .slice x.C x.comps.length x.cc, .slice x.L x.links.length x.lc, .slice x.S x.shares.length x.sc]] w fun e w' => GreatIs x e ∧ Hid (Ext w w') := by
  obtain ⟨nc, hm⟩ : ∃ y, x.comps.length = y := ⟨_, rfl⟩
  obtain ⟨nl, hml⟩ : ∃ y, x.links.length = y := ⟨_, rfl⟩
  obtain ⟨ns, hms⟩ : ∃ y, x.shares.length = y := ⟨_, rfl⟩
  obtain ⟨Ca, hCa⟩ : ∃ y, x.C = y := ⟨_, rfl⟩
  obtain ⟨La, hLa⟩ : ∃ y, x.L = y := ⟨_, rfl⟩
  obtain ⟨Sa, hSa⟩ : ∃ y, x.S = y := ⟨_, rfl⟩
  have HC := hid (show RdF Cmp.cells w Ca x.comps by rw [← hCa]; exact h.c)
  have HM := hid hm
  have HML := hid hml
  have HMS := hid hms
  rw [hm] at hc
  rw [hml] at hl
  rw [hms] at hs
  rw [hm, hml, hms, hCa, hLa, hSa]
  clear hm hml hms hCa hLa hSa h
  go_enter Try.func11, Try.ntmps11
  go_upto_region 1 with (fail)
  refine wp_gen (fun V => Hid (Ext w V) ∧ Hid (Row V w.heap.size 0 [.bool x.strict, .int .i64 x.heap, .int .i64 x.full, .slice Ca nc x.cc, .slice La nl x.lc, .slice Sa ns x.sc])) ⟨hid (by repeat (first | (with_reducible exact Ext.refl _) | (with_reducible refine Ext.undrew ?_) | (with_reducible refine Ext.grow ?_ _) | (with_reducible refine Ext.drew ?_) | (with_reducible refine Ext.drewN ?_ _) | (with_reducible refine Ext.alloc ?_ _) | (with_reducible assumption) | ((with_reducible refine Ext.setCell ?_ ?_ _); rotate_left; (first | exact Nat.le_refl _ | ((try dsimp only); (try simp only [World.size_alloc, grow_size, World.size_setCell]); omega))))), hid (Row.new w _ _)⟩ ?_
  rintro V ⟨HV, HR⟩
  obtain ⟨p, hp⟩ : ∃ y, w.heap.size = y := ⟨_, rfl⟩
  rw [hp] at HR ⊢
  clear hp
  have hc0 : (nc : Int) ≤ 140737488351232 := by omega
  have hl0 : (nl : Int) ≤ 140737488351232 := by omega
  have hs0 : (ns : Int) ≤ 140737488351232 := by omega
  have hc1 : (0 : Int) ≤ (nc : Int) := by omega
  have hl1 : (0 : Int) ≤ (nl : Int) := by omega
  have hs1 : (0 : Int) ≤ (ns : Int) := by omega
  have q := HR.out
  have ql := q.lt
  have qc0 := q.range 0 _ rfl
  have qc1 := q.range 1 _ rfl
  have qc2 := q.range 2 _ rfl
  have qc3 := q.range 3 _ rfl
  have qc4 := q.range 4 _ rfl
  have qc5 := q.range 5 _ rfl
  simp only [Nat.zero_add] at qc1 qc2 qc3 qc4 qc5
  clear q
  go_wp2
  clear ql qc0 qc1 qc2 qc3 qc4 qc5
  go_loopw [3, 4] (fun s i wr => ∃ (k t : Nat), k ≤ nc ∧ i = .int .i64 k ∧ s = .int .i64 (t : Int) ∧ Hid (nl + ns ≤ t) ∧ Hid (t ≤ 500000000000000) ∧ Hid (∀ d ∈ x.comps.take k, min d.bl.length 20000 ≤ t) ∧ Hid (Ext V wr)) (fun _ i _ => nc - (intOf i).toNat)
  case atStart => exact ⟨0, nc + nl + ns, Nat.zero_le _, rfl, by rw [Int.natCast_add, Int.natCast_add], hid (by omega), hid (by omega), hid (fun d hd => by simp at hd), hid (Ext.refl _)⟩
  case round =>
    obtain ⟨k, t, hk, rfl, rfl, HLB, HTB, HMN, HW⟩ := hrel
    have ht0 : (0 : Int) ≤ (t : Int) := by omega
    have ht1 : (t : Int) ≤ 500000000000000 := by have := HTB.out; omega
    have q := HR.out.ext HW.out
    have ql := q.lt
    have qc0 := q.range 0 _ rfl
    have qc1 := q.range 1 _ rfl
    have qc2 := q.range 2 _ rfl
    have qc3 := q.range 3 _ rfl
    have qc4 := q.range 4 _ rfl
    have qc5 := q.range 5 _ rfl
    simp only [Nat.zero_add] at qc1 qc2 qc3 qc4 qc5
    clear q
    by_cases hlt : k < nc
    · have hk1 : (k : Int) < (nc : Int) := by omega
      have hk0 : (0 : Int) ≤ (k : Int) := by omega
      by_cases hlt2 : t < 20000
      · have ht2 : (t : Int) < 20000 := by omega
        have hkl : k < x.comps.length := by rw [HM.out]; exact hlt
        obtain ⟨d, hd⟩ : ∃ y, x.comps[k] = y := ⟨_, rfl⟩
        obtain ⟨b', o', eA, hb1, hrg⟩ := (HC.out.ext (HV.out.trans HW.out)).elem cmp_len hkl d hd
        have e0 := hrg 0 _ rfl
        simp only [Nat.add_zero] at e0
        subst eA
        obtain ⟨bn, hbn⟩ : ∃ y, d.bl.length = y := ⟨_, rfl⟩
        have HBN := hid hbn
        rw [hbn] at e0
        clear hrg hbn
        have hn0 : (0 : Int) ≤ (bn : Int) := by omega
        by_cases hmn : bn ≤ 20000
        · have hm1 : (bn : Int) ≤ 20000 := by omega
          have hm2 : min (bn : Int) 20000 = (bn : Int) := by omega
          go_wp2
          go_roundw
          case rel => exact ⟨k + 1, t + bn, by omega, by go_num, by first | (rw [Int.natCast_add]; done) | (rw [Int.natCast_add]; rfl), hid (by have := HLB.out; omega), hid (by omega), hid (by
            intro d2 hd2
            rw [List.take_succ_eq_append_getElem hkl, hd] at hd2
            rcases List.mem_append.1 hd2 with h | h
            · have := HMN.out d2 h; omega
            · simp only [List.mem_cons, List.not_mem_nil, or_false] at h
              subst h
              rw [HBN.out]
              omega), HW⟩
          case measure => simp [intOf]; omega
        · have hm1 : ¬ (bn : Int) ≤ 20000 := by omega
          have hm2 : min (bn : Int) 20000 = 20000 := by omega
          go_wp2
          go_roundw
          case rel => exact ⟨k + 1, t + 20000, by omega, by go_num, by first | (rw [Int.natCast_add]; done) | (rw [Int.natCast_add]; rfl), hid (by have := HLB.out; omega), hid (by omega), hid (by
            intro d2 hd2
            rw [List.take_succ_eq_append_getElem hkl, hd] at hd2
            rcases List.mem_append.1 hd2 with h | h
            · have := HMN.out d2 h; omega
            · simp only [List.mem_cons, List.not_mem_nil, or_false] at h
              subst h
              rw [HBN.out]
              omega), HW⟩
          case measure => simp [intOf]; omega
      · have ht2 : ¬ (t : Int) < 20000 := by omega
        have ht3 : (20000 : Int) ≤ (t : Int) := by omega
        go_wp2
        go_ret
        exact ⟨⟨true, rfl, fun h => by cases h⟩, hid (HV.out.trans HW.out)⟩
    · obtain rfl : nc = k := by omega
      have hk1 : ¬ (nc : Int) < (nc : Int) := by omega
      by_cases hlt2 : t < 20000
      · have ht2 : (t : Int) < 20000 := by omega
        have ht3 : ¬ (20000 : Int) ≤ (t : Int) := by omega
        have HAL := hid (show x.links.length = x.links.length from rfl)
        go_wp2
        go_ret
        refine ⟨⟨_, rfl, fun h => ?_⟩, hid (HV.out.trans HW.out)⟩
        have h2 := HLB.out
        have h3 := of_decide_eq_false h
        refine ⟨by rw [HM.out]; omega, by rw [HML.out]; omega, by rw [HMS.out]; omega, fun d hd => ?_⟩
        have := HMN.out d (by rw [List.take_of_length_le (by rw [HM.out]; exact Nat.le_refl _)]; exact hd)
        omega
      · have ht2 : ¬ (t : Int) < 20000 := by omega
        have ht3 : (20000 : Int) ≤ (t : Int) := by omega
        go_wp2
        go_ret
        exact ⟨⟨true, rfl, fun h => by cases h⟩, hid (HV.out.trans HW.out)⟩
def Img.withS (x : Img) (b : Bool) : Img := { x with strict := b }
theorem ImgAt.withS {w : World} {x : Img} (h : ImgAt w x) (b : Bool) : ImgAt w (x.withS b) := ⟨h.c, h.cb, h.l, h.s⟩
theorem all_and {α : Type} (l : List α) (f g : α → Bool) : (l.all fun d => f d && !g d) = (l.all f && !l.any g) := by
  induction l with
  | nil => rfl
  | cons a l ih =>
    rw [List.all_cons, List.all_cons, List.any_cons, ih]
    cases f a <;> cases g a <;> cases l.all f <;> cases l.any g <;> rfl
theorem rightV_strict (x : Img) : rightV (x.withS true) = (rightV (x.withS false) && !x.comps.any (fun d => asksB d.bl)) := by
  have h1 : n5 (x.withS true) = n5 (x.withS false) := rfl
  have h2 : lnkOk (x.withS true) = lnkOk (x.withS false) := rfl
  have h3 : x.comps.all (cmOk true) = (x.comps.all (cmOk false) && !x.comps.any (fun d => asksB d.bl)) := by
    rw [← all_and]
    congr 1
    funext d
    unfold cmOk crB
    cases ([outB (d.bl.length : Int) 4 4096, outB d.data 1 8].any id) <;> cases codeOk d.bl <;> cases asksB d.bl <;> rfl
  unfold rightV
  show (!(n5 (x.withS true)).any id && x.comps.all (cmOk true) && x.links.all (lnkOk (x.withS true)) && x.shares.all (shOk x.comps.length)) = (!(n5 (x.withS false)).any id && x.comps.all (cmOk false) && x.links.all (lnkOk (x.withS false)) && x.shares.all (shOk x.comps.length) && !x.comps.any (fun d => asksB d.bl))
  rw [h1, h2, h3]
  cases (n5 (x.withS false)).any id <;> cases x.comps.all (cmOk false) <;> cases x.comps.any (fun d => asksB d.bl) <;> cases x.links.all (lnkOk (x.withS false)) <;> cases x.shares.all (shOk x.comps.length) <;> rfl

end Go.Proofs.Ytgldlkoohfclpaa
