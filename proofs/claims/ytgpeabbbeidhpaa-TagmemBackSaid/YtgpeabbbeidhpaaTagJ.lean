/- Layer 7: tagged's walk. -/
import Derived.Test.YtgpeabbbeidhpaaTagI
import Derived.Deep.MidRow
namespace Go.Proofs.Ytgpeabbbeidhpaa
set_option linter.unusedSimpArgs false
set_option linter.unusedVariables false
open Go.RowKit

attribute [local go_sem] Oper.semAt_some
theorem wpListIn_load_mid {F : Fence} {n : Nat} {P : Program} {w : World} {ops : Array Oper} {rest : List Oper} {o : Oper} {a : Act} {Q : Exit → Act → World → Prop} (hg : o.guard = none) (ty : TypeId) (x : Operand) (hop : o.op = .load ty x)
    (b off : Nat) (hx : a.eval x = .pointer (some ⟨b, off, none⟩)) (cs : Array Value) (d : TypeDesc) (hc : w.rangeAt b off cs.toList) (hu : P.underlying ty = some d) (hd : d.isRow = true) (hi : (P.info? ty).map (·.size) = some cs.toList.length)
    (hK : wpListIn F n P ops Q rest (a.put o.dst (.agg cs)) w) : wpListIn F n P ops Q (o :: rest) a w := by
  refine wpListIn_plain hg fun K hK' => ?_
  unfold Oper.wpIn
  refine ⟨?_, ?_⟩
  · simp [Oper.about, hop, Sem.run_pure]
  · rw [Oper.semAt_plain F _ _ (by rw [hop]; intro c hc'; cases hc')]
    simp only [execOp, hop, hx, run_loadAt_mid w b off ty cs.toList d hc hu hd hi, Sem.run_bind, Sem.run_map, Sem.run_pure, Result.andThen]
    exact hK' _ _ (by simpa using hK)
theorem whichN_skip {T : Nat → Bool} {a : Nat} : ∀ b, a ≤ b → (∀ t, a ≤ t → t < b → T t = false) → whichN T b = whichN T a
  | 0, h, _ => by obtain rfl : a = 0 := by omega
                  rfl
  | b + 1, h, ht => by
    rcases Nat.lt_or_ge b a with c | c
    · obtain rfl : a = b + 1 := by omega
      rfl
    · rw [whichN_no (ht b c (by omega)), whichN_skip b c (fun t h1 h2 => ht t h1 (by omega))]
theorem whichN_rise (D : Nat → Bool) (n : Nat) : (whichN D n).Pairwise (· < ·) := List.Pairwise.filter _ List.pairwise_lt_range
/-- Between two dirty pages no page is dirty. -/
theorem whichN_gap {D : Nat → Bool} {n k p : Nat} (hk : k + 1 < (whichN D n).length) (h1 : (whichN D n)[k] < p) (h2 : p < (whichN D n)[k + 1]) : D p = false := by
  cases e : D p with
  | false => rfl
  | true =>
    exfalso
    have hlt := (whichN_mem.1 (List.getElem_mem hk)).1
    obtain ⟨m, hm, hmp⟩ := List.mem_iff_getElem.1 (whichN_mem.2 ⟨(by omega : p < n), e⟩)
    have hr := List.pairwise_iff_getElem.1 (whichN_rise D n)
    have a1 : k < m := by
      rcases Nat.lt_or_ge k m with c | c
      · exact c
      · rcases Nat.eq_or_lt_of_le c with c | c
        · subst c; omega
        · have := hr m k hm (by omega) c; omega
    have a2 : m < k + 1 := by
      rcases Nat.lt_or_ge m (k + 1) with c | c
      · exact c
      · rcases Nat.eq_or_lt_of_le c with c | c
        · subst c; omega
        · have := hr (k + 1) m hk hm c; omega
    omega
theorem whichN_first {D : Nat → Bool} {n p : Nat} (hk : 0 < (whichN D n).length) (h2 : p < (whichN D n)[0]) : D p = false := by
  cases e : D p with
  | false => rfl
  | true =>
    exfalso
    have hlt := (whichN_mem.1 (List.getElem_mem hk)).1
    obtain ⟨m, hm, hmp⟩ := List.mem_iff_getElem.1 (whichN_mem.2 ⟨(by omega : p < n), e⟩)
    have hr := List.pairwise_iff_getElem.1 (whichN_rise D n)
    rcases Nat.eq_zero_or_pos m with c | c
    · subst c; omega
    · have := hr 0 m hk hm c; omega
theorem whichN_last {D : Nat → Bool} {n k p : Nat} (hk : k + 1 = (whichN D n).length) (h1 : (whichN D n)[k] < p) (hp : p < n) : D p = false := by
  cases e : D p with
  | false => rfl
  | true =>
    exfalso
    obtain ⟨m, hm, hmp⟩ := List.mem_iff_getElem.1 (whichN_mem.2 ⟨hp, e⟩)
    have hr := List.pairwise_iff_getElem.1 (whichN_rise D n)
    rcases Nat.lt_or_ge k m with c | c
    · omega
    · rcases Nat.eq_or_lt_of_le c with c | c
      · subst c; omega
      · have := hr m k hm (by omega) c; omega
/-- Up to where all has been told, when so many dirty pages have. -/
def upto (D : Nat → Bool) (np k : Nat) : Nat := if h : k < (whichN D np).length then (whichN D np)[k] else np
theorem upto_at {D : Nat → Bool} {np k : Nat} (h : k < (whichN D np).length) : upto D np k = (whichN D np)[k] := dif_pos h
theorem upto_end {D : Nat → Bool} {np k : Nat} (h : (whichN D np).length ≤ k) : upto D np k = np := dif_neg (by omega)
section
variable {w : World} {q g n : Nat} {B : Nat → Int} {T D : Nat → Bool}
theorem Mm.clear (h : Mm w q g n B T D) {t : Nat} (hd : D (t / 16) = false) : T t = false := by
  cases e : T t with
  | false => rfl
  | true => rw [h.inv t e] at hd; cases hd
theorem Mm.told0 (h : Mm w q g n B T D) : whichN T (16 * upto D n 0) = [] := by
  have : whichN T (16 * upto D n 0) = whichN T 0 := whichN_skip _ (by omega) fun t _ ht => h.clear (by
    by_cases c : 0 < (whichN D n).length
    · rw [upto_at c] at ht
      exact whichN_first c (by omega)
    · rw [upto_end (by omega)] at ht
      cases e : D (t / 16) with
      | false => rfl
      | true => exact absurd (List.length_pos_of_mem (whichN_mem.2 ⟨(by omega : t / 16 < n), e⟩)) c)
  rw [this]
  rfl
theorem Mm.toldS (h : Mm w q g n B T D) {k : Nat} (hk : k < (whichN D n).length) : whichN T (16 * upto D n (k + 1)) = whichN T (16 * (whichN D n)[k] + 16) := by
  have hp := (whichN_mem.1 (List.getElem_mem hk)).1
  by_cases c : k + 1 < (whichN D n).length
  · have hr := List.pairwise_iff_getElem.1 (whichN_rise D n) k (k + 1) hk c (Nat.lt_succ_self k)
    rw [upto_at c]
    exact whichN_skip _ (by omega) fun t h1 h2 => h.clear (whichN_gap c (by omega) (by omega))
  · rw [upto_end (by omega)]
    exact whichN_skip _ (by omega) fun t h1 h2 => h.clear (whichN_last (D := D) (n := n) (k := k) (by omega) (by omega) (by omega))
end
attribute [local go_sem] run_index_tags
set_option maxRecDepth 100000 in
set_option maxHeartbeats 4000000 in
theorem tgA_ (n : Nat) (hn : 2 ≤ n) (l0 q g np qb lb : Nat) (B : Nat → Int) (T D : Nat → Bool) (J Jx : List Nat → World → Prop)
    (hY : ∀ pre x W, J pre W → pre.length < 16 * np → YieldAt Fence.wide (n - 1) Try.prog l0 #[.int .i64 ((16 * x : Nat) : Int)] W fun e W' =>
      (e = .returned (.bool true) ∧ J (pre ++ [x]) W' ∧ KpT lb W W') ∨ (e = .returned (.bool false) ∧ Jx (pre ++ [x]) W'))
    (W : World) (hJ : AbidesFrom W.heap.size J) (hqb : W.cell? ⟨qb, 0, none⟩ = some (.pointer (some ⟨q, 0, none⟩))) (hqbl : qb < W.heap.size) (hqb2 : ¬ qb = lb) (hM : Mm W q g np B T D) (hql : ¬ q = lb) (hgl : ¬ g = lb) (hlb : lb < W.heap.size) (hown : ∀ i, ¬ ownAtBox lb W i) (h0 : J [] W) :
    CallsIn Fence.wide n Try.prog 55 #[.func (.yield l0) #[] #[], .pointer (some ⟨qb, 0, none⟩)] W fun e W' => (∃ v, e = .returned v) ∧
      ((∃ ys, ys = whichN T (16 * np) ∧ J ys W') ∨ (∃ pre : List Nat, True ∧ Jx pre W')) := by
  refine callsIn_of_wp Try.func55 rfl trivial ?_ rfl
  simp only [Try.ntmps55]
  simp only [List.size_toArray, List.length_cons, List.length_nil, Nat.reduceAdd, Nat.reduceSub, Array.replicate_succ, Array.replicate_zero, List.push_toArray, List.append_toArray, List.nil_append, List.cons_append]
  have HY := hid hY
  have HJ := hid hJ
  have HM := hid hM
  have HOW := hid hown
  have HJ0 := hid h0
  clear hY hJ hM hown h0
  gi_wp2
  refine ⟨trivial, (fun _ => by omega), ?_⟩
  refine CallsIn.mono (callsIn_wide.2 (tdirty_ q g np B T D _ HM.out)) ?_
  rintro e w1 ⟨A, ca, rfl, HRD, HX, HN⟩
  have HM1 := hid (HM.out.ext HX.out)
  have HJ1 : Hid (J [] w1) := hid (HJ.out [] W w1 none HJ0.out (gives_grown HX.out) (fun r e => by cases e))
  have HQ1 : Hid (w1.cell? ⟨qb, 0, none⟩ = some (.pointer (some ⟨q, 0, none⟩))) := hid ((HX.out.cells qb 0 hqbl).trans hqb)
  have HOW1 : Hid (∀ i, ownAtBox lb w1 i → w1.heap.size ≤ i) := hid (fun i ⟨o, nn, c, e⟩ => absurd ⟨o, nn, c, (HX.out.cells lb 0 hlb).symm.trans e⟩ (HOW.out i))
  have HNL : Hid (∀ b o, A = some ⟨b, o, none⟩ → ¬ b = lb) := hid (fun b o e => by have := HN.out b o e; omega)
  have hq1 : qb < w1.heap.size := Nat.lt_of_lt_of_le hqbl HX.out.size
  have hsz1 := HX.out.size
  have hbd := HM.out.bd
  obtain ⟨dn, hdn⟩ : ∃ x, (whichN D np).length = x := ⟨_, rfl⟩
  have hdn2 : dn ≤ np := by rw [← hdn]; exact whichN_len D np
  have HDN := hid hdn
  rw [hdn]
  clear hdn HOW HJ0 HM HN
  (try simp only [])
  gi_wp2
  gi_loopw [10] (fun i wr => ∃ k : Nat, k ≤ dn ∧ i = .int .i64 k ∧ Hid (J (whichN T (16 * upto D np k)) wr) ∧ Hid (Only (Sx lb w1) w1 wr) ∧ Hid (∀ i, ownAtBox lb wr i → w1.heap.size ≤ i)) (fun i _ => dn - (intOf i).toNat)
  case atStart => exact ⟨0, Nat.zero_le _, rfl, hid (by rw [HM1.out.told0]; exact HJ1.out), hid (Only.refl _ _), HOW1⟩
  case round =>
    obtain ⟨k, hk, rfl, hJk, HS, HOB⟩ := hrel
    have hnS : ∀ b x v, w1.cell? ⟨b, x, none⟩ = some v → b < w1.heap.size → ¬ b = lb → ¬ Sx lb w1 b := fun b x v hv hb hne h => by
      rcases h with h | h | h
      · exact hne h
      · omega
      · exact cell_isCells hv h
    have hqS := hnS q 0 _ HM1.out.c0 HM1.out.ltq hql
    have hgS := hnS g _ _ (HM1.out.dt 0 (by omega)) HM1.out.ltg hgl
    have hqbS := hnS qb 0 _ HQ1.out hq1 hqb2
    by_cases hlt : k < dn
    · have hk0 : (0 : Int) ≤ (k : Int) := by omega
      have hk1 : (k : Int) < (dn : Int) := by omega
      have hkl : k < (whichN D np).length := by rw [HDN.out]; exact hlt
      obtain ⟨b, ob, rfl, hb, hc⟩ := HRD.out (by omega)
      have hrow := hc k hkl
      have hbS := hnS b _ _ hrow hb (HNL.out b ob rfl)
      have hpn := (whichN_mem.1 (List.getElem_mem hkl)).1
      have HUP := hid (upto_at hkl)
      have HTS := hid (HM1.out.toldS hkl)
      clear hc
      generalize (whichN D np)[k] = p at hrow hpn HUP HTS
      have hrow' := (HS.out.cells b _ hb hbS).trans hrow
      have HMr := hid (HM1.out.only HS.out hqS hgS)
      have hqb' := (HS.out.cells qb 0 hq1 hqbS).trans HQ1.out
      have c0 := HMr.out.c0
      have hp0 : (0 : Int) ≤ (p : Int) := by omega
      have hp1 : (p : Int) < (np : Int) := by omega
      have HRA : Hid (wr.rangeAt g (p * 273 + 256) (tagsA (fun j => T (16 * p + j))).toList) := hid (fun j v hj => by
        obtain ⟨h1, rfl⟩ := tagsA_list _ j v hj
        exact HMr.out.tg p j hpn h1)
      have HSZ : Hid (16 = (tagsA (fun j => T (16 * p + j))).toList.length) := hid (by simp [tagsA_size])
      rw [HUP.out] at hJk
      gi_wp2_with (with_reducible refine wpListIn_load_mid rfl 63 (.tmp 20) rfl g (p * 273 + 256) rfl (tagsA (fun j => T (16 * p + j))) _ (HRA.out) Try.underlying63 rfl (by rw [← HSZ.out]; kernel_rfl) ?_)
      obtain ⟨f, hf⟩ : ∃ f : Nat → Bool, (fun j => T (16 * p + j)) = f := ⟨_, rfl⟩
      have HF : Hid (∀ j, f j = T (16 * p + j)) := hid (fun j => by rw [← hf])
      rw [hf]
      clear hf HRA HSZ hrow hrow' c0 hqb'
      gi_loopw [22] (fun i wx => ∃ j : Nat, j ≤ 16 ∧ i = .int .i64 j ∧ Hid (J (whichN T (16 * p + j)) wx) ∧ Hid (Only (Sx lb w1) w1 wx) ∧ Hid (∀ i, ownAtBox lb wx i → w1.heap.size ≤ i)) (fun i _ => 16 - (intOf i).toNat)
      case atStart => exact ⟨0, Nat.zero_le _, rfl, hJk, HS, HOB⟩
      case round =>
        clear hJk HS HOB HMr
        obtain ⟨j, hj, rfl, hJj, HSj, HOj⟩ := hrel
        by_cases hjl : j < 16
        · have hj0 : (0 : Int) ≤ (j : Int) := by omega
          have hj1 : (j : Int) < 16 := by omega
          have hix := fun w' => run_index_tags f j hjl w'
          cases hT : T (16 * p + j) with
          | false =>
            have hfj : f j = false := (HF.out j).trans hT
            have HW : Hid (whichN T (16 * p + (j + 1)) = whichN T (16 * p + j)) := hid (whichN_no hT)
            clear hT
            gi_wp2
            refine ⟨(fun f h => by cases h), ?_⟩
            gi_wp2
            go_roundw
            case rel => exact ⟨j + 1, by omega, by go_num, by rw [HW.out]; exact hJj, HSj, HOj⟩
            case measure => simp [intOf]; omega
          | true =>
            have hfj : f j = true := (HF.out j).trans hT
            have HW : Hid (whichN T (16 * p + (j + 1)) = whichN T (16 * p + j) ++ [16 * p + j]) := hid (whichN_yes hT)
            clear hT
            obtain ⟨fn, tmps, assign, body, hy, hR⟩ := HY.out (whichN T (16 * p + j)) (16 * p + j) wr hJj.out (by have := whichN_len T (16 * p + j); omega)
            rw [show ((16 * (16 * p + j) : Nat) : Int) = (p : Int) * 256 + (j : Int) * 16 by omega] at hy
            gi_wp2
            refine ⟨(fun _ => by omega), ?_⟩
            refine hR.mono ?_
            clear hR hy
            rintro e W4 (⟨rfl, hJ4, hk4⟩ | ⟨rfl, hJx4⟩)
            · obtain ⟨hS4, hO4⟩ := Sx.step HSj.out HOj.out hk4
              gi_wp2
              go_roundw
              case rel => exact ⟨j + 1, by omega, by go_num, by rw [HW.out]; exact hid hJ4, hid hS4, hid hO4⟩
              case measure => simp [intOf]; omega
            · gi_wp2
              refine bodyPost_ret (results_none rfl _ _ _) rfl ?_
              exact ⟨⟨_, rfl⟩, .inr ⟨_, trivial, hJx4⟩⟩
        · obtain rfl : j = 16 := by omega
          gi_wp2
          go_roundw
          case rel => exact ⟨k + 1, by omega, by go_num, by rw [HTS.out]; exact hJj, HSj, HOj⟩
          case measure => simp [intOf]; omega
    · obtain rfl : k = dn := by omega
      have hk1 : ¬ (k : Int) < (k : Int) := by omega
      rw [upto_end (by rw [HDN.out]; exact Nat.le_refl _)] at hJk
      gi_wp2
      go_end0
      exact ⟨⟨_, rfl⟩, .inl (by first | exact hJk.out | exact ⟨_, rfl, hJk.out⟩)⟩

end Go.Proofs.Ytgpeabbbeidhpaa
