/- Layer 19: frames: Put. -/
import Derived.Test.YtfpfmjcajdknoaaFraI
namespace Go.Proofs.Ytfpfmjcajdknoaa
set_option linter.unusedSimpArgs false
set_option linter.unusedVariables false
open Go.RowKit

theorem ownsRow_setCells {base g n cap size : Nat} {e : TypeId} : ∀ (vs : List Value) (o : Nat) (w : World) (xs : List Value), w.ownsRow base e size (.slice (some ⟨g, 0, none⟩) n cap) n xs → o + vs.length ≤ n * size →
    ∃ ys, (w.setCells g o vs).ownsRow base e size (.slice (some ⟨g, 0, none⟩) n cap) n ys ∧ ∀ j, ys[j]? = if o ≤ j ∧ j < o + vs.length then vs[j - o]? else xs[j]?
  | [], o, w, xs, h, _ => ⟨xs, h, fun j => by simp; omega⟩
  | v :: vs, o, w, xs, h, hf => by
    have hl := h.1
    have h1 := (h.stored o v).1
    obtain ⟨ys, h2, h3⟩ := ownsRow_setCells vs (o + 1) _ _ h1 (by simp at hf; omega)
    refine ⟨ys, h2, fun j => ?_⟩
    rw [h3 j]
    simp only [List.length_cons] at hf ⊢
    by_cases hj : j = o
    · subst hj
      rw [if_neg (by omega), if_pos (by omega), Nat.sub_self, List.getElem?_set_self (by omega)]
      rfl
    · by_cases h4 : o + 1 ≤ j ∧ j < o + 1 + vs.length
      · rw [if_pos h4, if_pos (by omega), show j - o = (j - (o + 1)) + 1 by omega, List.getElem?_cons_succ]
      · rw [if_neg h4, if_neg (by omega), List.getElem?_set_ne (by omega)]
/-- Of the first k frames those of M, else those of L. -/
def mixL (M L : Nat → Cap) (k : Nat) : Nat → Cap := fun i => if i < k * 5 then M i else L i
theorem mixL_step {M L : Nat → Cap} {n k : Nat} (hk : k < n) {ys : List Value} (hl : ys.length = n * 30) (h : ∀ j, ys[j]? = if k * 30 ≤ j ∧ j < k * 30 + (rowCells M k).length then (rowCells M k)[j - k * 30]? else (capsList (n * 5) (mixL M L k))[j]?) : ys = capsList (n * 5) (mixL M L (k + 1)) := by
  apply List.ext_getElem?
  intro j
  rw [h j, rowCells_length]
  by_cases hj : j < n * 30
  · have e2 := capsList_at (n * 5) (mixL M L (k + 1)) (j / 6) (j % 6) (by omega) (by omega)
    have e1 := capsList_at (n * 5) (mixL M L k) (j / 6) (j % 6) (by omega) (by omega)
    rw [show j / 6 * 6 + j % 6 = j by omega] at e1 e2
    rw [e2]
    by_cases hi : k * 30 ≤ j ∧ j < k * 30 + 30
    · rw [if_pos hi]
      have e3 : (rowCells M k)[(j - k * 30) / 6 * 6 + (j - k * 30) % 6]? = (M (k * 5 + (j - k * 30) / 6)).cells[(j - k * 30) % 6]? := capsList_at 5 _ _ _ (by omega) (by omega)
      rw [show (j - k * 30) / 6 * 6 + (j - k * 30) % 6 = j - k * 30 by omega, show k * 5 + (j - k * 30) / 6 = j / 6 by omega, show (j - k * 30) % 6 = j % 6 by omega] at e3
      rw [e3, mixL, if_pos (by omega)]
    · rw [if_neg hi, e1]
      by_cases h5 : j / 6 < k * 5
      · rw [mixL, if_pos h5, mixL, if_pos (by omega)]
      · rw [mixL, if_neg h5, mixL, if_neg (by omega)]
  · rw [if_neg (by omega), List.getElem?_eq_none (by rw [capsList_length]; omega), List.getElem?_eq_none (by rw [capsList_length]; omega)]
theorem arrayAt5 (a : Addr) (len c : Nat) (w : World) (h : 5 ≤ len) : (Instr.arrayAt 54 (.slice (some a) len c)).run Try.prog w = .ok (.pointer (some a)) w := by
  simp [Instr.arrayAt, run_underlying Try.underlying54]
  omega
theorem quiet_arr5 {o : Oper} {a : Act} {C : World → Prop} {K : Act → Prop} (x : Operand) (ho : o.op = .sliceToArrayPointer 54 x) (ad : Addr) (len c : Nat) (hx : a.eval x = .slice (some ad) len c) (h : 5 ≤ len) (k : K (a.put o.dst (.pointer (some ad)))) : o.quiet Try.prog a C K :=
  quiet_run _ (fun w => by
    unfold execOp
    rw [ho]
    simp only [hx, Sem.run_bind, Sem.run_map, Sem.run_pure, arrayAt5 ad len c w h, Result.andThen]) k
theorem ownsRow_there {w : World} {base g n cap size : Nat} {e : TypeId} {xs : List Value} (h : w.ownsRow base e size (.slice (some ⟨g, 0, none⟩) n cap) n xs) {o m : Nat} (ho : o + m ≤ n * size) : w.there g o m := fun j hj => by
  refine ⟨?_, h.frozenAt _⟩
  rw [h.cellAt (o + j) (by omega)]
  have := h.1
  simp
  omega
theorem RdC.rowAt {w : World} {B o n : Nat} {M : Nat → Cap} (h : RdC w (some ⟨B, o, none⟩) (n * 5) M) {k : Nat} (hk : k < n) : Rng w B (o + k * 30) (rowCells M k) := by
  have h0 : ∀ i, i < 5 → Rng w B (o + k * 30 + i * 6) (M (k * 5 + i)).cells := fun i hi => by
    obtain ⟨b, o', e, hr⟩ := h (by omega)
    simp only [Option.some.injEq, Addr.mk.injEq, and_true] at e
    obtain ⟨rfl, rfl⟩ := e
    have := hr (k * 5 + i) (by omega)
    rwa [show o + (k * 5 + i) * 6 = o + k * 30 + i * 6 by omega] at this
  exact RdC.rng (n := 5) (by omega) h0
set_option maxRecDepth 100000 in
set_option maxHeartbeats 4000000 in
theorem put_len (q base n m ca : Nat) (A : Option Addr) (v : Value) (L M : Nat → Cap) (w : World) (h : Stk w q base v n L) (hn : n ≤ 100000) (hm : ¬ m = n * 5) (hmm : m ≤ 1000000) :
    Calls Try.prog 13 #[.pointer (some ⟨q, 0, none⟩), .slice A m ca] w fun e w' => e = .returned (.bool false) ∧ w = w' := by
  have HS := hid h
  have hq := h.1
  clear h
  have hwn : wrap64 (5 * (n : Int)) = 5 * (n : Int) := by simp [wrap64]; omega
  have hm1 : ¬ (m : Int) = 5 * (n : Int) := by omega
  go_enter Try.func13, Try.ntmps13
  go_wp2_with (go_at_call 17; refine (many_ q base _ _ L _ HS.out).mono ?_; rintro e w9 ⟨rfl, rfl⟩)
  go_ret
  exact ⟨rfl, rfl⟩
set_option maxRecDepth 100000 in
set_option maxHeartbeats 4000000 in
theorem put_no (q base n ca : Nat) (A : Option Addr) (v : Value) (L M : Nat → Cap) (w : World) (h : Stk w q base v n L) (hn : n ≤ 100000) (hA : RdC w A (n * 5) M) (hrt : allR (n * 5) M = false) :
    Calls Try.prog 13 #[.pointer (some ⟨q, 0, none⟩), .slice A (n * 5) ca] w fun e w' => e = .returned (.bool false) ∧ Ext w w' := by
  have HS := hid h
  have hq := h.1
  clear h
  have hwn : wrap64 (5 * (n : Int)) = 5 * (n : Int) := by simp [wrap64]; omega
  have HA := hid hA
  have HRT := hid hrt
  have hm1 : ((n * 5 : Nat) : Int) = 5 * (n : Int) := by omega
  clear hA hrt
  go_enter Try.func13, Try.ntmps13
  go_wp2_with (first | (go_at_call 17; refine (many_ q base _ _ L _ HS.out).mono ?_; rintro e w9 ⟨rfl, rfl⟩) | (go_at_call 24; refine (allRight_ _ _ _ M _ HA.out (by omega)).mono ?_; rw [HRT.out]; rintro e w3 ⟨rfl, hy⟩))
  go_ret
  exact ⟨rfl, hy⟩
set_option maxRecDepth 100000 in
set_option maxHeartbeats 4000000 in
theorem put_ (q base n ca : Nat) (A : Option Addr) (v : Value) (L M : Nat → Cap) (w : World) (h : Stk w q base v n L) (hn : n ≤ 100000) (hA : RdC w A (n * 5) M) (hca : n * 5 ≤ ca) (hap : ∀ b o, A = some ⟨b, o, none⟩ → ¬ v.ownBlock = some b) (hrt : allR (n * 5) M = true) :
    Calls Try.prog 13 #[.pointer (some ⟨q, 0, none⟩), .slice A (n * 5) ca] w fun e w' => e = .returned (.bool true) ∧ Stk w' q base v n M ∧ Only (fun i => v.ownBlock = some i) w w' := by
  have HS := hid h
  have hq := h.1
  clear h
  have hwn : wrap64 (5 * (n : Int)) = 5 * (n : Int) := by simp [wrap64]; omega
  have HA := hid hA
  have HRT := hid hrt
  have HAP := hid hap
  have hm1 : ((n * 5 : Nat) : Int) = 5 * (n : Int) := by omega
  obtain ⟨V, cv, rfl, hV0, hV⟩ := HS.out.slice
  have HV0 := hid hV0
  have HV := hid hV
  clear hA hrt hap hV0 hV
  go_enter Try.func13, Try.ntmps13
  go_upto_region 3 with (first | (go_at_call 17; refine (many_ q base _ _ L _ HS.out).mono ?_; rintro e w9 ⟨rfl, rfl⟩) | (go_at_call 24; refine (allRight_ _ _ _ M _ HA.out (by omega)).mono ?_; rw [HRT.out]; rintro e w3 ⟨rfl, hy⟩))
  have HS3 := hid (Stk.ext HS.out hy)
  have HA3 := hid (HA.out.ext hy)
  have hE3 := hid hy
  have hq3 := HS3.out.1
  have hc3 := HS3.out.2.1
  clear hy HA
  generalize w3 = W3 at HS3 HA3 hE3 hq3 hc3 ⊢
  go_wp2
  go_loopw [22] (fun i wr => ∃ k : Nat, k ≤ n ∧ i = .int .i64 k ∧ Hid (wr.ownsRow base 54 30 (.slice V n cv) n (capsList (n * 5) (mixL M L k))) ∧ Hid (Only (fun i => (Value.slice V n cv).ownBlock = some i) W3 wr)) (fun i _ => n - (intOf i).toNat)
  case atStart => exact ⟨0, Nat.zero_le _, rfl, hid (by have := HS3.out.2.2.2.1; rwa [capsList_congr (M := mixL M L 0) (fun i hi => by simp [mixL])] at this), hid (Only.refl _ _)⟩
  case round =>
    obtain ⟨k, hk, rfl, hown, hx⟩ := hrel
    by_cases hlt : k < n
    · obtain ⟨g, rfl⟩ : ∃ g, V = some ⟨g, 0, none⟩ := by
        rcases V with _ | a
        · have := (HV0.out rfl).1; omega
        · obtain ⟨g, hg, _⟩ := HV.out _ rfl
          exact ⟨g, by rw [hg]⟩
      obtain ⟨B, o, rfl⟩ : ∃ B o, A = some ⟨B, o, none⟩ := by
        obtain ⟨B, o, e, _⟩ := HA3.out (by omega)
        exact ⟨B, o, e⟩
      have hBg : ¬ B = g := fun e => HAP.out B o rfl (by rw [e]; rfl)
      have hgq : ¬ q = g := fun e => HS3.out.apart g rfl e.symm
      have hgB : ¬ g = B := fun e => hBg e.symm
      have hxg : Only (fun i => i = g) W3 wr := hx.out.mono fun i h => by simpa [Value.ownBlock, eq_comm] using h
      have hcr := (hxg.cells q 0 hq3 hgq).trans hc3
      have hqr : q < wr.heap.size := Nat.lt_of_lt_of_le hq3 hxg.size
      have HR : Hid (Rng wr B (o + k * 30) (rowCells M k)) := hid ((HA3.out.rowAt hlt).only hxg hBg)
      have hw5 : wrap64 (5 * (k : Int)) = 5 * (k : Int) := by simp [wrap64]; omega
      have hk0 : (0 : Int) ≤ (k : Int) := by omega
      have hk1 : (k : Int) < (n : Int) := by omega
      have hk5 : (0 : Int) ≤ 5 * (k : Int) := by omega
      have hk6 : 5 * (k : Int) ≤ ((n * 5 : Nat) : Int) := by omega
      have hk7 : 5 * (k : Int) ≤ (ca : Int) := by omega
      clear HV HV0 hxg
      go_upto_region 6 with (fail)
      refine wp_region_turn (q := g) (.rd 0 (.rd 1 (.rd 2 (.rd 3 (.rd 4 (.rd 5 (.rd 6 (.rd 7 (.rd 8 (.rd 9 (.rd 10 (.rd 11 (.ac 12 .done))))))))))))) (by kernel_rfl) (by kernel_rfl) (fun _ _ d _ _ h => by cases d <;> exact h) (by simp only [Ord.map, nthOp, List.append]; rfl) ?_
      intro d1
      have HR5 : Hid (Rng (Go.Proofs.Ytfpfmjcajdknoaa.grow wr d1) B (o + 5 * k * 6) (rowCells M k)) := hid (by
        have := HR.out.ext (Ext.grow (Ext.refl wr) d1)
        rwa [show o + k * 30 = o + 5 * k * 6 by omega] at this)
      have h5 : 5 ≤ n * 5 - 5 * k := by omega
      repeat' (first
        | (refine turn_read (by rfl) (fun K hK => ?_); refine quiet_arr5 (.tmp 33) rfl _ _ _ rfl h5 ?_; refine hK _ ?_; clear hK K; simp only [Act.put, List.setIfInBounds_toArray, List.set_cons_zero, List.set_cons_succ])
        | (refine turn_read (by rfl) (fun K hK => ?_); refine quiet_loadC 54 (.tmp 34) rfl B (o + 5 * k * 6) rfl (rowCells M k) _ (fun w' hw' => (HR5.out.only hw'.only hBg).range) Try.underlying54 rfl (by rw [rowCells_length]; kernel_rfl) ?_; refine hK _ ?_; clear hK K; simp only [Act.put, List.setIfInBounds_toArray, List.set_cons_zero, List.set_cons_succ])
        | (refine turn_read (by rfl) (fun K hK => ?_); go_big_quiet_op; refine hK _ ?_; clear hK K))
      refine turn_act (by rfl) (fun K hK => ?_)
      have hown2 := hid (ownsRow_ext hown.out (Ext.grow (Ext.refl wr) d1))
      refine wp_store_mid 54 (.tmp 36) (.tmp 35) rfl g (k * 30) (rowCells M k).toArray rfl rfl (by rw [rowArr_size]; exact ownsRow_there hown2.out (by omega)) (by rw [rowArr_size]; kernel_rfl) (rowArr_one _ _) ?_
      obtain ⟨ys, hys, hyj⟩ := ownsRow_setCells (rowCells M k) (k * 30) _ _ hown2.out (by rw [rowCells_length]; omega)
      rw [mixL_step hlt hys.1 hyj] at hys
      have hOn : Only (fun i => i = g) (Go.Proofs.Ytfpfmjcajdknoaa.grow wr d1) ((Go.Proofs.Ytfpfmjcajdknoaa.grow wr d1).setCells g (k * 30) (rowCells M k)) := Only.setCells (S := fun i => i = g) (.inl rfl) _ _ (Only.refl _ _)
      have hx2 := hid (Only.trans' hx.out (Only.trans' (Only.ofExt (Ext.grow (Ext.refl wr) d1)) (hOn.mono (T := fun i => (Value.slice (some ⟨g, 0, none⟩) n cv).ownBlock = some i) fun i h => by simp [Value.ownBlock, h])))
      have hown3 := hid hys
      refine hK _ _ ⟨_, Only.refl _ _, hOn, ?_⟩
      refine turn_nil ?_
      clear hK K hOn hys hyj hown2 hown hx HR5 HR
      generalize (Go.Proofs.Ytfpfmjcajdknoaa.grow wr d1).setCells g (k * 30) (rowCells M k).toArray.toList = W5 at hx2 hown3 ⊢
      go_wp2
      go_roundw
      case rel => exact ⟨k + 1, by omega, by go_num, hown3, hx2⟩
      case measure => simp [intOf]; omega
    · have hkn : k = n := by omega
      subst hkn
      have hk1 : ¬ (k : Int) < (k : Int) := by omega
      go_wp2
      go_ret
      have h0 := HS3.out
      have hO := hx.out
      refine ⟨rfl, ⟨Nat.lt_of_lt_of_le h0.1 hO.size, (hO.cells q 0 h0.1 (fun h => h0.apart q h rfl)).trans h0.2.1, (hO.frozens q 0 h0.1 (fun h => h0.apart q h rfl)).trans h0.2.2.1, ?_, h0.2.2.2.2⟩, Only.trans' (Only.ofExt hE3.out) hO⟩
      have := hown.out
      rwa [capsList_congr (M := M) (fun i hi => by simp [mixL, hi])] at this
end Go.Proofs.Ytfpfmjcajdknoaa
