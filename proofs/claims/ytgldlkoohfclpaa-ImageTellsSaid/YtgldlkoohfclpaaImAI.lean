/- Layer 17: the document: Right. -/
import Derived.Test.YtgldlkoohfclpaaImAH
namespace Go.Proofs.Ytgldlkoohfclpaa
set_option linter.unusedSimpArgs false
set_option linter.unusedVariables false
open Go.RowKit

theorem all_cg {α : Type} {l : List α} {p q : α → Bool} (h : ∀ a ∈ l, p a = q a) : l.all p = l.all q := by
  induction l with
  | nil => rfl
  | cons a l ih => rw [List.all_cons, List.all_cons, h a (by simp), ih fun b hb => h b (by simp [hb])]
theorem all_and' {α : Type} (l : List α) (p q : α → Bool) : (l.all p && l.all q) = l.all fun a => p a && q a := by
  induction l with
  | nil => rfl
  | cons a l ih => rw [List.all_cons, List.all_cons, List.all_cons, ← ih]; cases p a <;> cases q a <;> cases l.all p <;> rfl
theorem cnt_le (ls : List Lnk) (n : Int) (k : Nat) : cntP ls n k ≤ (lfF ls n).length := by
  unfold cntP
  have h : lfF ls n = lfF (ls.take k) n ++ lfF (ls.drop k) n := by
    unfold lfF
    rw [← List.filter_append, List.take_append_drop]
  rw [h, List.length_append]
  omega
theorem cnt_last (n : Int) : ∀ ls : List Lnk, lfF ls n = [] ∨ ∃ i, ∃ h : i < ls.length, ls[i].fr = n ∧ cntP ls n (i + 1) = (lfF ls n).length := by
  intro ls
  refine List.reverseRecOn' (p := fun ls => lfF ls n = [] ∨ ∃ i, ∃ h : i < ls.length, ls[i].fr = n ∧ cntP ls n (i + 1) = (lfF ls n).length) ls (.inl rfl) ?_
  intro ls a ih
  by_cases ha : a.fr = n
  · refine .inr ⟨ls.length, by simp, by simp [ha], ?_⟩
    unfold cntP
    rw [List.take_of_length_le (by simp)]
  · have h0 : lfF (ls ++ [a]) n = lfF ls n := by rw [lf_snoc, if_neg (by simpa using ha)]
    rw [h0]
    rcases ih with h | ⟨i, hi, h1, h2⟩
    · exact .inl h
    · refine .inr ⟨i, by rw [List.length_append]; omega, by rw [List.getElem_append_left hi]; exact h1, ?_⟩
      unfold cntP at h2 ⊢
      rw [List.take_append_of_le_length (by omega)]
      exact h2
theorem links_eq (ls : List Lnk) (p : Lnk → Bool) : (ls.zipIdx.all fun q => p q.1 && !decide ((8 : Int) < (cntP ls q.1.fr (q.2 + 1) : Int))) = ls.all fun l => p l && !decide ((8 : Int) < ((lfF ls l.fr).length : Int)) := by
  rw [Bool.eq_iff_iff, List.all_eq_true, List.all_eq_true]
  constructor
  · intro h l hl
    obtain ⟨i, hi, rfl⟩ := List.getElem_of_mem hl
    have h1 := h (ls[i], i) (by rw [List.mem_zipIdx_iff_getElem?]; exact List.getElem?_eq_getElem hi)
    simp only [Bool.and_eq_true] at h1 ⊢
    refine ⟨h1.1, ?_⟩
    rcases cnt_last ls[i].fr ls with h2 | ⟨j, hj, h2, h3⟩
    · rw [h2]; decide
    · have h4 := h (ls[j], j) (by rw [List.mem_zipIdx_iff_getElem?]; exact List.getElem?_eq_getElem hj)
      simp only [Bool.and_eq_true] at h4
      rw [h2, h3] at h4
      exact h4.2
  · intro h q hq
    obtain ⟨l, i⟩ := q
    rw [List.mem_zipIdx_iff_getElem?] at hq
    obtain ⟨hi, hl⟩ := List.getElem?_eq_some_iff.1 hq
    dsimp only at hi hl
    have h1 := h l (hl ▸ List.getElem_mem _)
    simp only [Bool.and_eq_true, Bool.not_eq_true', decide_eq_false_iff_not] at h1 ⊢
    refine ⟨h1.1, ?_⟩
    have := cnt_le ls l.fr (i + 1)
    omega
theorem wr_eq {a b : Int} (ha : -9223372036854775808 ≤ a ∧ a ≤ 9223372036854775807) (hb : 0 ≤ b ∧ b ≤ 15) : (!(!bits .andNot .i64 a b == 0)) = (!decide (a < 0) && (bits .and .i64 a b == a)) := by
  by_cases h0 : 0 ≤ a ∧ a ≤ 15
  · obtain ⟨n, rfl⟩ := Int.eq_ofNat_of_zero_le h0.1
    obtain ⟨k, rfl⟩ := Int.eq_ofNat_of_zero_le hb.1
    have hn : n < 16 := by omega
    have hk : k < 16 := by omega
    have key : ∀ n : Fin 16, ∀ k : Fin 16, (!(!bits .andNot .i64 ((n : Nat) : Int) ((k : Nat) : Int) == 0)) = (!decide (((n : Nat) : Int) < 0) && (bits .and .i64 ((n : Nat) : Int) ((k : Nat) : Int) == ((n : Nat) : Int))) := by decide +kernel
    exact key ⟨n, hn⟩ ⟨k, hk⟩
  · have h1 : ¬ bits .andNot .i64 a b = 0 := fun h => h0 (andNot_le ha hb h)
    have h2 : decide (a < 0) = true ∨ ¬ bits .and .i64 a b = a := by
      by_cases h3 : a < 0
      · exact .inl (decide_eq_true h3)
      · refine .inr fun h => h0 ⟨by omega, ?_⟩
        have h4 : IntKind.i64.wrap ((BitVec.ofInt 64 a &&& BitVec.ofInt 64 b).toNat : Int) = a := h
        have h5 : (BitVec.ofInt 64 a &&& BitVec.ofInt 64 b).toNat ≤ 15 := by
          rw [BitVec.toNat_and]
          refine Nat.le_trans Nat.and_le_right ?_
          rw [BitVec.toNat_ofInt]
          omega
        rw [IntKind.wrap_i64] at h4
        omega
    rw [show (bits .andNot .i64 a b == 0) = false by simpa using h1]
    rcases h2 with h2 | h2
    · rw [h2]; rfl
    · rw [show (bits .and .i64 a b == a) = false by simpa using h2, Bool.and_false]; rfl
theorem right_form {x : Img} (hw : ∀ d ∈ x.shares, -9223372036854775808 ≤ d.wr_ ∧ d.wr_ ≤ 9223372036854775807) : rightV x = (formV x && x.comps.all fun d => crB d.bl x.strict) := by
  unfold rightV formV
  cases h5 : (n5 x).any id with
  | true => rfl
  | false =>
    have hn := n5_no h5
    have hc : (x.comps.all (cmOk x.strict)) = (x.comps.all cF && x.comps.all fun d => crB d.bl x.strict) := by
      rw [all_and']
      refine all_cg fun d hd => ?_
      unfold cmOk cF crB codeOk
      simp only [List.any_cons, List.any_nil, id, Bool.or_false]
      cases outB (d.bl.length : Int) 4 4096 <;> cases outB d.data 1 8 <;> cases decide (d.bl.length % 4 = 0) <;> simp
    have hl : x.links.all (lnkOk x) = x.links.zipIdx.all fun p => lF x p.2 p.1 := by
      refine Eq.trans ?_ ((links_eq x.links (fun l => !(lkA x.comps.length l).any id && (!decide (l.at_ < 0) && !decide (l.at_ ≥ lenC x.comps l.to_ / 4)))).symm.trans ?_)
      · refine all_cg fun l hl => ?_
        unfold lnkOk lkB
        simp only [List.any_cons, List.any_nil, id, Bool.or_false]
        cases (lkA x.comps.length l).any id <;> cases decide (l.at_ < 0) <;> cases decide (l.at_ ≥ lenC x.comps l.to_ / 4) <;> simp
      · refine all_cg fun q hq => ?_
        unfold lF lkA
        simp only [List.any_cons, List.any_nil, id, Bool.or_false]
        cases outB q.1.fr 0 ((x.comps.length : Int) - 1) <;> cases outB q.1.to_ 0 ((x.comps.length : Int) - 1) <;> cases (q.1.fr == q.1.to_) <;> cases decide (q.1.at_ < 0) <;> cases decide (q.1.at_ ≥ lenC x.comps q.1.to_ / 4) <;> simp
    have hs : x.shares.all (shOk x.comps.length) = x.shares.all (sF x.comps.length) := by
      refine all_cg fun d hd => ?_
      unfold shOk sF
      simp only [List.any_cons, List.any_nil, id, Bool.or_false]
      cases ho : outB d.rd 0 (2 ^ x.comps.length - 1) with
      | true => rfl
      | false =>
        have hp : (2 : Int) ^ x.comps.length ≤ 16 := by
          rcases (show x.comps.length = 1 ∨ x.comps.length = 2 ∨ x.comps.length = 3 ∨ x.comps.length = 4 by omega) with h | h | h | h <;> rw [h] <;> decide
        have ho2 := outB_no ho
        rw [← wr_eq (hw d hd) ⟨ho2.1, by omega⟩]
        rfl
    rw [hc, hl, hs]
    cases x.comps.all cF <;> cases (x.comps.all fun d => crB d.bl x.strict) <;> cases (x.links.zipIdx.all fun p => lF x p.2 p.1) <;> cases x.shares.all (sF x.comps.length) <;> rfl
theorem form_len {x : Img} (h : formV x = true) : (∀ d ∈ x.comps, d.bl.length ≤ 4096) ∧ x.comps.length ≤ 4 ∧ x.links.length ≤ 16 ∧ x.shares.length ≤ 4 := by
  unfold formV at h
  rw [Bool.and_eq_true, Bool.and_eq_true] at h
  have hn := n5_no (by simpa using h.1)
  refine ⟨fun d hd => ?_, by omega, by omega, by omega⟩
  have h2 := List.all_eq_true.1 h.2.1 d hd
  unfold cF at h2
  rw [Bool.and_eq_true, Bool.not_eq_true'] at h2
  have := outB_no h2.1
  omega
set_option maxRecDepth 100000 in
set_option maxHeartbeats 4000000 in
theorem rright_ (x : Img) (w : World) (h : ImgAt w x) (hc : x.comps.length ≤ 100000) (hl : x.links.length ≤ 100000) (hs : x.shares.length ≤ 100000) (hw : ∀ d ∈ x.shares, -9223372036854775808 ≤ d.wr_ ∧ d.wr_ ≤ 9223372036854775807) : Calls Try.prog 15 #[.agg #[.bool x.strict, .int .i64 x.heap, .int .i64 x.full, .slice x.C x.comps.length x.cc, .slice x.L x.links.length x.lc, .slice x.S x.shares.length x.sc]] w fun e w' => e = .returned (.bool (rightV x)) ∧ Ext w w' := by
  have HF := hid (show ∀ W, Ext w W → Calls Try.prog 33 #[.agg #[.bool x.strict, .int .i64 x.heap, .int .i64 x.full, .slice x.C x.comps.length x.cc, .slice x.L x.links.length x.lc, .slice x.S x.shares.length x.sc]] W fun e w' => e = .returned (.bool (formV x)) ∧ Ext W w' from fun W hx => form_ x W (h.ext hx) hc hl hs)
  have HVAL := hid (right_form hw)
  have HLN := hid (show formV x = true → _ from fun h2 => form_len h2)
  have HCB := hid h.cb
  obtain ⟨m, hm⟩ : ∃ y, x.comps.length = y := ⟨_, rfl⟩
  obtain ⟨ml, hml⟩ : ∃ y, x.links.length = y := ⟨_, rfl⟩
  obtain ⟨ms, hms⟩ : ∃ y, x.shares.length = y := ⟨_, rfl⟩
  obtain ⟨Ca, hCa⟩ : ∃ y, x.C = y := ⟨_, rfl⟩
  obtain ⟨La, hLa⟩ : ∃ y, x.L = y := ⟨_, rfl⟩
  obtain ⟨Sa, hSa⟩ : ∃ y, x.S = y := ⟨_, rfl⟩
  obtain ⟨st, hst⟩ : ∃ y, x.strict = y := ⟨_, rfl⟩
  have HM := hid hm
  have HRC := hid (show RdF Cmp.cells w Ca x.comps by rw [← hCa]; exact h.c)
  rw [hm, hml, hms, hCa, hLa, hSa, hst] at HF
  rw [hm, hml, hms] at HLN
  rw [hst] at HVAL
  rw [hm, hml, hms, hCa, hLa, hSa, hst]
  clear hm hml hms hCa hLa hSa hst h hw hc hl hs
  go_enter Try.func15, Try.ntmps15
  go_upto_region 1 with (fail)
  refine wp_gen (fun V => Hid (Ext w V) ∧ Hid (Row V w.heap.size 0 [.bool st, .int .i64 x.heap, .int .i64 x.full, .slice Ca m x.cc, .slice La ml x.lc, .slice Sa ms x.sc])) ⟨hid (by repeat (first | (with_reducible exact Ext.refl _) | (with_reducible refine Ext.undrew ?_) | (with_reducible refine Ext.grow ?_ _) | (with_reducible refine Ext.drew ?_) | (with_reducible refine Ext.drewN ?_ _) | (with_reducible refine Ext.alloc ?_ _) | (with_reducible assumption) | ((with_reducible refine Ext.setCell ?_ ?_ _); rotate_left; (first | exact Nat.le_refl _ | ((try dsimp only); (try simp only [World.size_alloc, grow_size, World.size_setCell]); omega))))), hid (Row.new w _ _)⟩ ?_
  rintro V ⟨HE, HR⟩
  obtain ⟨p, hp⟩ : ∃ y, w.heap.size = y := ⟨_, rfl⟩
  rw [hp] at HR ⊢
  clear hp
  have q := HR.out
  have ql := q.lt
  have qc0 := q.range 0 _ rfl
  have qc1 := q.range 1 _ rfl
  have qc2 := q.range 2 _ rfl
  have qc3 := q.range 3 _ rfl
  have qc4 := q.range 4 _ rfl
  have qc5 := q.range 5 _ rfl
  simp only [Nat.zero_add] at qc1 qc2 qc3 qc4 qc5
  clear q
  go_wp2_with fail
  refine (HF.out V HE.out).mono ?_
  rintro e W1 ⟨rfl, hx⟩
  replace HE := hid (HE.out.trans hx)
  replace HR := hid (HR.out.ext hx)
  clear hx HF ql qc0 qc1 qc2 qc3 qc4 qc5
  obtain ⟨fv, hfv⟩ : ∃ y, formV x = y := ⟨_, rfl⟩
  rw [hfv] at HVAL HLN ⊢
  clear hfv
  cases fv with
  | false =>
    have HBF := hid (show rightV x = false by rw [HVAL.out]; rfl)
    go_wp2
    go_ret
    exact ⟨by rw [HBF.out]; rfl, HE.out⟩
  | true =>
    obtain ⟨n1, n2, n3, n4⟩ := HLN.out rfl
    replace HLN := hid n1
    replace HVAL := hid (HVAL.out.trans (Bool.true_and _))
    clear n1
    have q := HR.out
    have ql := q.lt
    have qc0 := q.range 0 _ rfl
    have qc1 := q.range 1 _ rfl
    have qc2 := q.range 2 _ rfl
    have qc3 := q.range 3 _ rfl
    have qc4 := q.range 4 _ rfl
    have qc5 := q.range 5 _ rfl
    simp only [Nat.zero_add] at qc1 qc2 qc3 qc4 qc5
    clear q
    go_wp2
    clear ql qc0 qc1 qc2 qc3 qc4 qc5
    go_loopw [3] (fun i wr => ∃ (k : Nat), k ≤ m ∧ i = .int .i64 k ∧ Hid ((x.comps.take k).all (fun d => crB d.bl st) = true) ∧ Hid (Ext w wr) ∧ Hid (Row wr p 0 [.bool st, .int .i64 x.heap, .int .i64 x.full, .slice Ca m x.cc, .slice La ml x.lc, .slice Sa ms x.sc])) (fun i _ => m - (intOf i).toNat)
    case atStart => exact ⟨0, Nat.zero_le _, rfl, hid rfl, HE, HR⟩
    case round =>
      clear HE HR
      obtain ⟨k, hk, rfl, HA, HE, HR⟩ := hrel
      by_cases hlt : k < m
      · have hk1 : (k : Int) < (m : Int) := by omega
        have hk0 : (0 : Int) ≤ (k : Int) := by omega
        have hkl : k < x.comps.length := by rw [HM.out]; exact hlt
        obtain ⟨d, hd⟩ : ∃ y, x.comps[k] = y := ⟨_, rfl⟩
        have hdm : d ∈ x.comps := hd ▸ List.getElem_mem _
        have HKT := hid (show crB d.bl st = true → (x.comps.take (k + 1)).all (fun d => crB d.bl st) = true from fun h2 => all_take hkl hd HA.out h2)
        have HBC := hid (show crB d.bl st = false → rightV x = false from fun h2 => by rw [HVAL.out]; exact all_bad hdm h2)
        have hcb := HCB.out d hdm
        have hbm := HLN.out d hdm
        have HAL := hid (show ∀ W, Ext w W → Calls Try.prog 45 #[.slice d.A d.bl.length d.ca] W fun e w' => AllPost d.bl W e w' from fun W hx => rall d.A d.ca d.bl W (hcb.1.ext hx) hcb.2.1 hcb.2.2.1 hcb.2.2.2 (by omega))
        obtain ⟨b', o', eA, hb1, hrg⟩ := (HRC.out.ext HE.out).elem cmp_len hkl d hd
        have e0 := hrg 0 _ rfl
        simp only [Nat.add_zero] at e0
        subst eA
        clear hd hrg hcb hdm
        obtain ⟨bn, hbn⟩ : ∃ y, d.bl.length = y := ⟨_, rfl⟩
        have HBN := hid hbn
        rw [hbn] at e0 HAL hbm
        clear hbn
        have q := HR.out
        have ql := q.lt
        have qc0 := q.range 0 _ rfl
        have qc1 := q.range 1 _ rfl
        have qc2 := q.range 2 _ rfl
        have qc3 := q.range 3 _ rfl
        have qc4 := q.range 4 _ rfl
        have qc5 := q.range 5 _ rfl
        simp only [Nat.zero_add] at qc1 qc2 qc3 qc4 qc5
        clear q
        go_wp2_with fail
        refine (HAL.out wr HE.out).mono ?_
        rintro e W2 ⟨hx, K, hall, hk4, hcase⟩
        replace HE := hid (HE.out.trans hx)
        replace HR := hid (HR.out.ext hx)
        have HAK := hid hall
        rw [HBN.out] at hk4
        unfold AllPost at *
        clear hx hall HAL e0 hb1 ql qc0 qc1 qc2 qc3 qc4 qc5
        rcases hcase with ⟨hke, A1, c1, rfl, hrow⟩ | ⟨hke, hbad, rfl⟩ | ⟨hke, hk2, rfl⟩
        · have HCR := hid (show crB d.bl st = !(st && asksB d.bl) by
            unfold crB
            rw [show codeOk d.bl = true by
              unfold codeOk
              rw [decide_eq_true (by omega), Bool.true_and]
              exact List.all_eq_true.2 fun j hj => HAK.out j (by have := List.mem_range.1 hj; omega), Bool.true_and])
          have HRI := hid hrow.rdF
          have HK4 := hid hke
          have hkb : K ≤ 2000 := by rw [HBN.out] at hke; omega
          rw [HBN.out]
          clear hke hrow hk4
          have q := HR.out
          have ql := q.lt
          have qc0 := q.range 0 _ rfl
          have qc1 := q.range 1 _ rfl
          have qc2 := q.range 2 _ rfl
          have qc3 := q.range 3 _ rfl
          have qc4 := q.range 4 _ rfl
          have qc5 := q.range 5 _ rfl
          simp only [Nat.zero_add] at qc1 qc2 qc3 qc4 qc5
          clear q
          go_wp2
          clear ql qc0 qc1 qc2 qc3 qc4 qc5
          go_loopw [7] (fun i wr => ∃ (j : Nat), j ≤ K ∧ i = .int .i64 j ∧ Hid ((st && (List.range j).any fun q => (insK d.bl q).op == 28) = false) ∧ Hid (Ext w wr) ∧ Hid (Row wr p 0 [.bool st, .int .i64 x.heap, .int .i64 x.full, .slice (some ⟨b', o', none⟩) m x.cc, .slice La ml x.lc, .slice Sa ms x.sc]) ∧ Hid (RdF I4.cells wr A1 ((List.range K).map (insK d.bl)))) (fun i _ => K - (intOf i).toNat)
          case atStart => exact ⟨0, Nat.zero_le _, rfl, hid (by simp), HE, HR, HRI⟩
          case round =>
            clear HE HR HRI
            obtain ⟨j, hj, rfl, HN, HE, HR, HRI⟩ := hrel
            by_cases hlj : j < K
            · have hj1 : (j : Int) < (K : Int) := by omega
              have hj0 : (0 : Int) ≤ (j : Int) := by omega
              have HJ := hid hlj
              obtain ⟨y, hy⟩ : ∃ y, insK d.bl j = y := ⟨_, rfl⟩
              obtain ⟨b2, o2, eB, hb2, hr2⟩ := HRI.out.elem I4.len (k := j) (by simpa using hlj) y (by simpa using hy)
              have z0 := hr2 0 _ rfl
              simp only [Nat.add_zero] at z0
              subst eB
              have HT := hid (show (st && (List.range (j + 1)).any fun q => (insK d.bl q).op == 28) = (st && (y.op == 28)) by
                rw [List.range_succ, List.any_append, List.any_cons, List.any_nil, hy, Bool.or_false]
                have := HN.out
                cases st
                · rfl
                · rw [Bool.true_and] at this ⊢; rw [this]; rfl)
              have HTB := hid (show y.op = 28 → asksB d.bl = true from fun h9 => by
                unfold asksB
                refine List.any_eq_true.2 ⟨j, List.mem_range.2 (by have := HK4.out; have := HJ.out; omega), ?_⟩
                rw [hy, h9]; rfl)
              clear hy hr2 HN
              have q := HR.out
              have ql := q.lt
              have qc0 := q.range 0 _ rfl
              have qc1 := q.range 1 _ rfl
              have qc2 := q.range 2 _ rfl
              have qc3 := q.range 3 _ rfl
              have qc4 := q.range 4 _ rfl
              have qc5 := q.range 5 _ rfl
              simp only [Nat.zero_add] at qc1 qc2 qc3 qc4 qc5
              clear q
              cases st with
              | false =>
                go_wp2
                go_roundw
                case rel => exact ⟨j + 1, by omega, by go_num, by rw [HT.out]; exact hid rfl, HE, HR, HRI⟩
                case measure => simp [intOf]; omega
              | true =>
                by_cases h28 : y.op = 28
                · have HBF := hid (HBC.out (by rw [HCR.out, HTB.out h28]; rfl))
                  go_wp2
                  go_ret
                  exact ⟨by rw [HBF.out]; rfl, HE.out⟩
                · have HT2 := hid (HT.out.trans (show (true && (y.op == 28)) = false by simpa using h28))
                  go_wp2
                  go_roundw
                  case rel => exact ⟨j + 1, by omega, by go_num, by rw [HT2.out]; exact hid rfl, HE, HR, HRI⟩
                  case measure => simp [intOf]; omega
            · obtain rfl : K = j := by omega
              have hj1 : ¬ (K : Int) < (K : Int) := by omega
              have HY := hid (HKT.out (by
                rw [HCR.out]
                have h9 := HN.out
                rw [show asksB d.bl = (List.range K).any (fun q => (insK d.bl q).op == 28) by unfold asksB; rw [← HK4.out]; congr 2; omega]
                rw [h9]; rfl))
              go_wp2
              go_roundw
              case rel => exact ⟨k + 1, by omega, by go_num, HY, HE, HR⟩
              case measure => simp [intOf]; omega
        · have HBF := hid (HBC.out (by
            unfold crB codeOk
            rw [show (List.range (d.bl.length / 4)).all (okK d.bl) = false from List.all_eq_false.2 ⟨K, List.mem_range.2 (by omega), by rw [hbad]; decide⟩, Bool.and_false, Bool.false_and]))
          clear hke hbad
          go_wp2
          go_ret
          exact ⟨by rw [HBF.out]; rfl, HE.out⟩
        · have HBF := hid (HBC.out (by
            unfold crB codeOk
            rw [decide_eq_false (by omega), Bool.false_and, Bool.false_and]))
          clear hke hk2
          go_wp2
          go_ret
          exact ⟨by rw [HBF.out]; rfl, HE.out⟩
      · obtain rfl : m = k := by omega
        have hk1 : ¬ (m : Int) < (m : Int) := by omega
        have HFV := hid (show rightV x = true by
          rw [List.take_of_length_le (by rw [HM.out]; exact Nat.le_refl _)] at HA
          rw [HVAL.out, HA.out])
        have q := HR.out
        have ql := q.lt
        have qc0 := q.range 0 _ rfl
        have qc1 := q.range 1 _ rfl
        have qc2 := q.range 2 _ rfl
        have qc3 := q.range 3 _ rfl
        have qc4 := q.range 4 _ rfl
        have qc5 := q.range 5 _ rfl
        simp only [Nat.zero_add] at qc1 qc2 qc3 qc4 qc5
        clear q
        go_wp2
        go_ret
        exact ⟨by rw [HFV.out]; rfl, HE.out⟩

end Go.Proofs.Ytgldlkoohfclpaa
