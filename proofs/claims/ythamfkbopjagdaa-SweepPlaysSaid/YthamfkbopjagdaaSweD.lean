/- Layer 10: next, which is walked over. -/
import Derived.Test.YthamfkbopjagdaaSweC
import Derived.Test.YthamfkbopjagdaaSweA
namespace Go.Proofs.Ythamfkbopjagdaa
set_option linter.unusedSimpArgs false
set_option linter.unusedVariables false
open Go.RowKit

attribute [local go_sem] Oper.semAt_some
set_option maxRecDepth 100000 in
set_option maxHeartbeats 4000000 in
theorem nextF_ (s : Nat) (pages : Int) (w : World) : Calls Try.prog 56 #[.pointer (some ⟨s, 0, none⟩), .int .i64 pages] w fun e w' => e = .returned (.func (.func 70) #[] #[.pointer (some ⟨w.heap.size + 1, 0, none⟩), .pointer (some ⟨w.heap.size, 0, none⟩)]) ∧ w' = (w.alloc (.cells #[.pointer (some ⟨s, 0, none⟩)] 112)).alloc (.cells #[.int .i64 pages] 3) := by
  go_enter Try.func56, Try.ntmps56
  go_wp2
  go_ret
  exact ⟨rfl, rfl⟩
theorem wpAnyIn_gen {F : Fence} {n : Nat} {P : Program} {md : Region.Mode} {ops : Array Oper} {fuel : Nat} {listed : Array Bool} {a : Act} {Q : Exit → Act → World → Prop} {w : World} (I : World → Prop) (hI : I w) (h : ∀ w', I w' → wpAnyIn F n P md ops Q fuel listed a w') : wpAnyIn F n P md ops Q fuel listed a w := h w hI
theorem cutG {G R : Prop} (t : G → R) (p : G) : R := t p
/-- What is left to be swept, in the sweeper's block. -/
def LeftAt (W : World) (s : Nat) (L : List Nat) (m n₀ : Nat) (X : Nat → Prop) : Prop := L.length = m ∧ W.frozen? ⟨s, 3, none⟩ = false ∧ ∃ A ca, W.cell? ⟨s, 3, none⟩ = some (.slice A m ca) ∧ RdN W A L ∧ m ≤ ca ∧ (A = none → ca = 0) ∧ ∀ b o, A = some ⟨b, o, none⟩ → b < n₀ ∧ ¬ X b
/-- What a round keeps. -/
def KpN (X : Nat → Prop) (s : Nat) (W W' : World) : Prop := Only X W W' ∧ W'.cell? ⟨s, 3, none⟩ = W.cell? ⟨s, 3, none⟩ ∧ W'.frozen? ⟨s, 3, none⟩ = W.frozen? ⟨s, 3, none⟩
theorem KpN.trans {X : Nat → Prop} {s : Nat} {A B C : World} (h : KpN X s A B) (k : KpN X s B C) : KpN X s A C := ⟨h.1.trans' k.1, k.2.1.trans h.2.1, k.2.2.trans h.2.2⟩
/-- What the iterator turns. -/
def TnN (X : Nat → Prop) (s : Nat) (L0 : List Nat) (A B : World) : Prop := ∃ A' ca' L', B = A.setCell ⟨s, 3, none⟩ (.slice A' (List.length L') ca') ∧ RdN A A' L' ∧ (L'.length ≤ ca' ∧ (A' = none → ca' = 0)) ∧ (∀ b o, A' = some ⟨b, o, none⟩ → ¬ X b) ∧ ∀ x ∈ L', x ∈ L0
theorem LeftAt.kept {W W' : World} {s m n₀ : Nat} {L : List Nat} {X : Nat → Prop} (h : LeftAt W s L m n₀ X) (k : KpN X s W W') : LeftAt W' s L m n₀ X := by
  obtain ⟨h1, h2, A, ca, h3, h4, h5, h6, h7⟩ := h
  exact ⟨h1, k.2.2.trans h2, A, ca, k.2.1.trans h3, h4.only k.1 (fun b o e => (h7 b o e).2), h5, h6, h7⟩
theorem RdN.tail {W : World} {b o : Nat} {x : Nat} {L : List Nat} (h : RdN W (some ⟨b, o, none⟩) (x :: L)) : RdN W (some ⟨b, o + 1, none⟩) L := fun h0 => by
  obtain ⟨b', o', e, hb, hc⟩ := h (by simp)
  cases e
  refine ⟨b, o + 1, rfl, hb, fun j hj => ?_⟩
  have := hc (j + 1) (by simp; omega)
  rw [Nat.add_right_comm, Nat.add_assoc]
  simpa using this
set_option maxRecDepth 100000 in
set_option maxHeartbeats 4000000 in
theorem nextA_ (n : Nat) (hn : 2 ≤ n) (l0 s qb nb n₀ : Nat) (X : Nat → Prop) (hX : X s ∧ ¬ X qb ∧ ¬ X nb) (r m : Nat) (pages : Int) (hpg : 1 ≤ pages) (hr : r ≤ m ∧ ((m : Int) ≤ pages ∧ r = m ∨ pages ≤ (m : Int) ∧ (r : Int) = pages)) (L : List Nat) (hm : L.length = m) (hm1 : m ≤ 1000000) (J : List Nat → World → Prop)
    (hY : ∀ pre (x : Nat) W, x ∈ L → J pre W → pre.length < m → YieldAt Fence.wide (n - 1) Try.prog l0 #[.int .i64 (x : Int)] W fun e W' => e = .returned (.bool true) ∧ J (pre ++ [x]) W' ∧ KpN X s W W')
    (W : World) (hJ : AbidesFrom W.heap.size J) (hT : ∀ pre A B, J pre A → TnN X s L A B → J pre B) (hn0 : n₀ ≤ W.heap.size)
    (hqb : W.cell? ⟨qb, 0, none⟩ = some (.pointer (some ⟨s, 0, none⟩))) (hqb1 : qb < n₀) (hnb : W.cell? ⟨nb, 0, none⟩ = some (.int .i64 pages)) (hnb1 : nb < n₀) (hs1 : s < n₀) (hL : LeftAt W s L m n₀ X) (h0 : J [] W) :
    CallsIn Fence.wide n Try.prog 70 #[.func (.yield l0) #[] #[], .pointer (some ⟨nb, 0, none⟩), .pointer (some ⟨qb, 0, none⟩)] W fun e W' => (∃ v, e = .returned v) ∧ ∃ xs, (xs = L.take r ∧ LeftAt W' s (L.drop r) (m - r) n₀ X) ∧ J xs W' := by
  refine callsIn_of_wp Try.func70 rfl trivial ?_ rfl
  simp only [Try.ntmps70]
  simp only [List.size_toArray, List.length_cons, List.length_nil, Nat.reduceAdd, Nat.reduceSub, Array.replicate_succ, Array.replicate_zero, List.push_toArray, List.append_toArray, List.nil_append, List.cons_append]
  have HY := hid hY
  have HJ := hid hJ
  have HT := hid hT
  have HM := hid hm
  have HL := hid hL
  have HJ0 := hid h0
  have HQB := hid hqb
  obtain ⟨_, _, A0, ca0, hs3, _, hca0, _, _⟩ := hL
  have hca1 : (m : Int) ≤ (ca0 : Int) := by omega
  obtain ⟨hr0, hr1⟩ := hr
  have HX := hid hX
  clear hY hJ hT hm h0
  rcases hr1 with ⟨hp1, hrm⟩ | ⟨hp1, hp2⟩
  · subst hrm
    obtain ⟨m, rfl⟩ : ∃ x, x = r := ⟨_, rfl⟩
    gi_wp2
    refine wpIn_region_any (by kernel_rfl) ?_
    change wpAnyIn _ _ _ _ _ _ _ _ _ (World.drew _)
    refine wpAnyIn_gen (fun W2 => Hid (Ext W W2)) (hid (Ext.drew (Ext.refl _))) ?_
    rintro W2 hE2
    have c3 := (hE2.out.cells s 3 (by omega)).trans hs3
    have d0 := (hE2.out.cells qb 0 (by omega)).trans hqb
    have d1 := (hE2.out.cells nb 0 (by omega)).trans hnb
    have HJ2 : Hid (J [] W2) := hid (HJ.out [] W W2 none HJ0.out (gives_grown hE2.out) (fun r e => by cases e))
    have HL2 : Hid (LeftAt W2 s L m n₀ X) := hid (HL.out.kept ⟨Only.ofExt hE2.out, hE2.out.cells s 3 (by omega), hE2.out.frozens s 3 (by omega)⟩)
    have HO2 : Hid (Only X W W2) := hid (Only.ofExt hE2.out)
    clear HL HJ0 hs3 hqb hnb hE2
    apply cutG
    · intro key
      refine wpAnyIn_take (i := 7) (v := ?_) rfl rfl (by kernel_rfl) (by kernel_rfl) (by kernel_rfl) (fun _ _ _ h => h) ⟨Or.inl ⟨by rfl, ?_⟩, fun _ => rfl⟩ ?_
      rotate_left
      · intro w; go_simp; (try with_reducible rfl)
      refine wpAnyIn_ready (rs := [0, 1]) (by kernel_rfl) (by simp) ?_
      refine AllReadyIn.cons rfl (fun K hK => ?_) ?_
      · go_simp
        refine hK _ _ ?_
        clear hK K
        refine wpAnyIn_ready (rs := [1]) (by kernel_rfl) (by simp) ?_
        refine AllReadyIn.cons rfl (fun K hK => ?_) ?_
        · go_simp
          refine hK _ _ ?_
          clear hK K
          refine wpAnyIn_take (i := 2) (v := ?_) rfl rfl (by kernel_rfl) (by kernel_rfl) (by kernel_rfl) (fun _ _ _ h => h) ⟨Or.inl ⟨by rfl, ?_⟩, fun _ => rfl⟩ ?_
          rotate_left
          · intro w; go_simp; (try with_reducible rfl)
          refine wpAnyIn_take (i := 3) (v := ?_) rfl rfl (by kernel_rfl) (by kernel_rfl) (by kernel_rfl) (fun _ _ _ h => h) ⟨Or.inl ⟨by rfl, ?_⟩, fun _ => rfl⟩ ?_
          rotate_left
          · intro w; go_simp; (try with_reducible rfl)
          refine wpAnyIn_ready (rs := [4]) (by kernel_rfl) (by simp) ?_
          refine AllReadyIn.cons rfl (fun K hK => ?_) ?_
          · go_simp
            refine hK _ _ ?_
            clear hK K
            refine wpAnyIn_ready (rs := [5]) (by kernel_rfl) (by simp) ?_
            refine AllReadyIn.cons rfl (fun K hK => ?_) ?_
            · go_simp
              refine hK _ _ ?_
              clear hK K
              refine wpAnyIn_ready (rs := [6]) (by kernel_rfl) (by simp) ?_
              refine AllReadyIn.cons rfl (fun K hK => ?_) ?_
              · go_simp
                refine hK _ _ ?_
                clear hK K
                refine wpAnyIn_done (by kernel_rfl) ?_ _
                exact key
              exact AllReadyIn.nil
            exact AllReadyIn.nil
          exact AllReadyIn.nil
        exact AllReadyIn.nil
      refine AllReadyIn.cons rfl (fun K hK => ?_) ?_
      · go_simp
        refine hK _ _ ?_
        clear hK K
        refine wpAnyIn_take (i := 2) (v := ?_) rfl rfl (by kernel_rfl) (by kernel_rfl) (by kernel_rfl) (fun _ _ _ h => h) ⟨Or.inl ⟨by rfl, ?_⟩, fun _ => rfl⟩ ?_
        rotate_left
        · intro w; go_simp; (try with_reducible rfl)
        refine wpAnyIn_take (i := 3) (v := ?_) rfl rfl (by kernel_rfl) (by kernel_rfl) (by kernel_rfl) (fun _ _ _ h => h) ⟨Or.inl ⟨by rfl, ?_⟩, fun _ => rfl⟩ ?_
        rotate_left
        · intro w; go_simp; (try with_reducible rfl)
        refine wpAnyIn_ready (rs := [0, 4]) (by kernel_rfl) (by simp) ?_
        refine AllReadyIn.cons rfl (fun K hK => ?_) ?_
        · go_simp
          refine hK _ _ ?_
          clear hK K
          refine wpAnyIn_ready (rs := [4]) (by kernel_rfl) (by simp) ?_
          refine AllReadyIn.cons rfl (fun K hK => ?_) ?_
          · go_simp
            refine hK _ _ ?_
            clear hK K
            refine wpAnyIn_ready (rs := [5]) (by kernel_rfl) (by simp) ?_
            refine AllReadyIn.cons rfl (fun K hK => ?_) ?_
            · go_simp
              refine hK _ _ ?_
              clear hK K
              refine wpAnyIn_ready (rs := [6]) (by kernel_rfl) (by simp) ?_
              refine AllReadyIn.cons rfl (fun K hK => ?_) ?_
              · go_simp
                refine hK _ _ ?_
                clear hK K
                refine wpAnyIn_done (by kernel_rfl) ?_ _
                exact key
              exact AllReadyIn.nil
            exact AllReadyIn.nil
          exact AllReadyIn.nil
        refine AllReadyIn.cons rfl (fun K hK => ?_) ?_
        · go_simp
          refine hK _ _ ?_
          clear hK K
          refine wpAnyIn_ready (rs := [0, 5]) (by kernel_rfl) (by simp) ?_
          refine AllReadyIn.cons rfl (fun K hK => ?_) ?_
          · go_simp
            refine hK _ _ ?_
            clear hK K
            refine wpAnyIn_ready (rs := [5]) (by kernel_rfl) (by simp) ?_
            refine AllReadyIn.cons rfl (fun K hK => ?_) ?_
            · go_simp
              refine hK _ _ ?_
              clear hK K
              refine wpAnyIn_ready (rs := [6]) (by kernel_rfl) (by simp) ?_
              refine AllReadyIn.cons rfl (fun K hK => ?_) ?_
              · go_simp
                refine hK _ _ ?_
                clear hK K
                refine wpAnyIn_done (by kernel_rfl) ?_ _
                exact key
              exact AllReadyIn.nil
            exact AllReadyIn.nil
          refine AllReadyIn.cons rfl (fun K hK => ?_) ?_
          · go_simp
            refine hK _ _ ?_
            clear hK K
            refine wpAnyIn_ready (rs := [0]) (by kernel_rfl) (by simp) ?_
            refine AllReadyIn.cons rfl (fun K hK => ?_) ?_
            · go_simp
              refine hK _ _ ?_
              clear hK K
              refine wpAnyIn_ready (rs := [6]) (by kernel_rfl) (by simp) ?_
              refine AllReadyIn.cons rfl (fun K hK => ?_) ?_
              · go_simp
                refine hK _ _ ?_
                clear hK K
                refine wpAnyIn_done (by kernel_rfl) ?_ _
                exact key
              exact AllReadyIn.nil
            exact AllReadyIn.nil
          exact AllReadyIn.nil
        exact AllReadyIn.nil
      exact AllReadyIn.nil
    · skip
      gi_wp2
      gi_loopw [12] (fun i wr => ∃ k : Nat, k ≤ m ∧ i = .int .i64 k ∧ Hid (J (L.take k) wr) ∧ Hid (LeftAt wr s (L.drop k) (m - k) n₀ X) ∧ Hid (Only X W wr)) (fun i _ => m - (intOf i).toNat)
      case atStart => exact ⟨0, Nat.zero_le _, rfl, HJ2, HL2, HO2⟩
      case round =>
        clear HJ2 HL2 HO2 c3 d0 d1
        obtain ⟨k, hk, rfl, hJk, HLk, HO⟩ := hrel
        have d0 := (HO.out.cells qb 0 (by omega) hX.2.1).trans HQB.out
        have hk0 : (0 : Int) ≤ (k : Int) := by omega
        by_cases hlt : k < m
        · have hk1 : (k : Int) < (m : Int) := by omega
          have hkl : k < L.length := by rw [HM.out]; omega
          obtain ⟨h1, h2, A, ca, h3, h4, h5, h6, h7⟩ := HLk.out
          obtain ⟨x, hx⟩ : ∃ x, L[k] = x := ⟨_, rfl⟩
          have HXL : Hid (x ∈ L) := hid (by rw [← hx]; exact List.getElem_mem hkl)
          have hdr : L.drop k = x :: L.drop (k + 1) := by rw [← hx]; exact List.drop_eq_getElem_cons hkl
          have HTS : Hid (L.take (k + 1) = L.take k ++ [x]) := hid (by rw [← hx]; exact List.take_succ_eq_append_getElem hkl)
          obtain ⟨b, ob, rfl, hb, hc⟩ := h4 (by omega)
          have hrow : wr.cell? ⟨b, ob, none⟩ = some (.int .i64 (x : Int)) := by
            have := hc 0 (by omega)
            simpa [hdr] using this
          have hsl : s < wr.heap.size := Nat.lt_of_lt_of_le (by omega) HO.out.size
          have hbX := h7 b ob rfl
          have hmk : (0 : Int) < ((m - k : Nat) : Int) := by omega
          have hmk' : ((m - k : Nat) : Int) = (m : Int) - (k : Int) := by omega
          have HLK := hid h1
          have HRD : Hid (RdN wr (some ⟨b, ob, none⟩) (x :: L.drop (k + 1))) := hid (by rw [← hdr]; exact h4)
          have H7 := hid h7
          clear hx hdr h1 h4 h6 h7 hc hkl hmk'
          obtain ⟨mk, hmk2⟩ : ∃ t, m - k = t := ⟨_, rfl⟩
          rw [hmk2] at h3 h5 hmk HLK
          have HMK := hid hmk2
          clear hmk2
          have hca1 : (1 : Int) ≤ (ca : Int) := by omega
          have hca2 : (1 : Int) ≤ (mk : Int) := by omega
          have hca3 : (mk : Int) ≤ (ca : Int) := by omega
          gi_wp2
          refine wpIn_region_any (by kernel_rfl) ?_
          change wpAnyIn _ _ _ _ _ _ _ _ _ (World.drew _)
          refine wpAnyIn_gen (fun W3 => Hid (Ext wr W3)) (hid (Ext.drew (Ext.refl _))) ?_
          rintro W3 hE3
          have hJ3 : Hid (J (L.take k) W3) := hid (HJ.out _ wr W3 none hJk.out (gives_grown hE3.out) (fun r e => by cases e))
          have c3 := (hE3.out.cells s 3 hsl).trans h3
          have f3 := (hE3.out.frozens s 3 hsl).trans h2
          have d3 := (hE3.out.cells qb 0 (Nat.lt_of_lt_of_le (by omega) HO.out.size)).trans d0
          have hs3 : s < W3.heap.size := Nat.lt_of_lt_of_le hsl hE3.out.size
          have HLK1 : Hid ((L.drop (k + 1)).length = mk - 1 ∧ m - (k + 1) = mk - 1) := hid ⟨by rw [List.length_drop, HM.out]; have := HMK.out; omega, by have := HMK.out; omega⟩
          clear h3 h2 d0 hrow
          by_cases hca : ca = 1
          · subst hca
            obtain rfl : mk = 1 := by omega
            have HL3 : Hid (LeftAt (W3.setCell ⟨s, 3, none⟩ (.slice (some ⟨b, ob, none⟩) 0 0)) s (L.drop (k + 1)) (m - (k + 1)) n₀ X) := hid (by
              have e0 := HLK1.out.1
              rw [HLK1.out.2]
              exact ⟨e0, by rw [World.frozen?_setCell]; exact f3, _, _, by rw [cell_set c3]; rfl, fun h => absurd h (by omega), Nat.zero_le _, fun e => (by cases e), H7.out⟩)
            have HO3 : Hid (Only X W (W3.setCell ⟨s, 3, none⟩ (.slice (some ⟨b, ob, none⟩) 0 0))) := hid (Only.setCell (HO.out.transExt hE3.out) (.inl hX.1) _)
            obtain ⟨fn, tmps, assign, body, hy, hR⟩ := HY.out (L.take k) x (W3.setCell ⟨s, 3, none⟩ (.slice (some ⟨b, ob, none⟩) 0 0)) HXL.out (HT.out _ _ _ hJ3.out ⟨some ⟨b, ob, none⟩, 0, L.drop (k + 1), by rw [HLK1.out.1], fun h => absurd h (by have := HLK1.out.1; omega), ⟨by rw [HLK1.out.1]; exact Nat.le_refl _, fun e => by cases e⟩, fun b o e => (H7.out b o e).2, fun x hx => List.mem_of_mem_drop hx⟩) (by rw [List.length_take, HM.out]; omega)
            clear HY HRD H7 HLK HLK1
            apply cutG
            · intro key
              refine wpAnyIn_ready (rs := [0, 1]) (by kernel_rfl) (by simp) ?_
              refine AllReadyIn.cons rfl (fun K hK => ?_) ?_
              · go_simp
                refine hK _ _ ?_
                clear hK K
                refine wpAnyIn_ready (rs := [1]) (by kernel_rfl) (by simp) ?_
                refine AllReadyIn.cons rfl (fun K hK => ?_) ?_
                · go_simp
                  refine hK _ _ ?_
                  clear hK K
                  refine wpAnyIn_take (i := 2) (v := ?_) rfl rfl (by kernel_rfl) (by kernel_rfl) (by kernel_rfl) (fun _ _ _ h => h) ⟨Or.inl ⟨by rfl, ?_⟩, fun _ => rfl⟩ ?_
                  rotate_left
                  · intro w; go_simp; (try with_reducible rfl)
                  refine wpAnyIn_take (i := 3) (v := ?_) rfl rfl (by kernel_rfl) (by kernel_rfl) (by kernel_rfl) (fun _ _ _ h => h) ⟨Or.inl ⟨by rfl, ?_⟩, fun _ => rfl⟩ ?_
                  rotate_left
                  · intro w; go_simp; (try with_reducible rfl)
                  refine wpAnyIn_ready (rs := [4]) (by kernel_rfl) (by simp) ?_
                  refine AllReadyIn.cons rfl (fun K hK => ?_) ?_
                  · go_simp
                    refine hK _ _ ?_
                    clear hK K
                    refine wpAnyIn_take (i := 5) (v := ?_) rfl rfl (by kernel_rfl) (by kernel_rfl) (by kernel_rfl) (fun _ _ _ h => h) ⟨Or.inl ⟨by rfl, ?_⟩, fun _ => rfl⟩ ?_
                    rotate_left
                    · intro w; go_simp; (try with_reducible rfl)
                    refine wpAnyIn_take (i := 6) (v := ?_) rfl rfl (by kernel_rfl) (by kernel_rfl) (by kernel_rfl) (fun _ _ _ h => h) ⟨Or.inl ⟨by rfl, ?_⟩, fun _ => rfl⟩ ?_
                    rotate_left
                    · intro w; go_simp; (try with_reducible rfl)
                    refine wpAnyIn_take (i := 7) (v := ?_) rfl rfl (by kernel_rfl) (by kernel_rfl) (by kernel_rfl) (fun _ _ _ h => h) ⟨Or.inl ⟨by rfl, ?_⟩, fun _ => rfl⟩ ?_
                    rotate_left
                    · intro w; go_simp; (try with_reducible rfl)
                    refine wpAnyIn_ready (rs := [8]) (by kernel_rfl) (by simp) ?_
                    refine AllReadyIn.cons rfl (fun K hK => ?_) ?_
                    · go_simp
                      refine hK _ _ ?_
                      clear hK K
                      refine wpAnyIn_done (by kernel_rfl) ?_ _
                      exact key
                    exact AllReadyIn.nil
                  exact AllReadyIn.nil
                exact AllReadyIn.nil
              refine AllReadyIn.cons rfl (fun K hK => ?_) ?_
              · go_simp
                refine hK _ _ ?_
                clear hK K
                refine wpAnyIn_take (i := 2) (v := ?_) rfl rfl (by kernel_rfl) (by kernel_rfl) (by kernel_rfl) (fun _ _ _ h => h) ⟨Or.inl ⟨by rfl, ?_⟩, fun _ => rfl⟩ ?_
                rotate_left
                · intro w; go_simp; (try with_reducible rfl)
                refine wpAnyIn_take (i := 3) (v := ?_) rfl rfl (by kernel_rfl) (by kernel_rfl) (by kernel_rfl) (fun _ _ _ h => h) ⟨Or.inl ⟨by rfl, ?_⟩, fun _ => rfl⟩ ?_
                rotate_left
                · intro w; go_simp; (try with_reducible rfl)
                refine wpAnyIn_ready (rs := [0, 4]) (by kernel_rfl) (by simp) ?_
                refine AllReadyIn.cons rfl (fun K hK => ?_) ?_
                · go_simp
                  refine hK _ _ ?_
                  clear hK K
                  refine wpAnyIn_ready (rs := [4]) (by kernel_rfl) (by simp) ?_
                  refine AllReadyIn.cons rfl (fun K hK => ?_) ?_
                  · go_simp
                    refine hK _ _ ?_
                    clear hK K
                    refine wpAnyIn_take (i := 5) (v := ?_) rfl rfl (by kernel_rfl) (by kernel_rfl) (by kernel_rfl) (fun _ _ _ h => h) ⟨Or.inl ⟨by rfl, ?_⟩, fun _ => rfl⟩ ?_
                    rotate_left
                    · intro w; go_simp; (try with_reducible rfl)
                    refine wpAnyIn_take (i := 6) (v := ?_) rfl rfl (by kernel_rfl) (by kernel_rfl) (by kernel_rfl) (fun _ _ _ h => h) ⟨Or.inl ⟨by rfl, ?_⟩, fun _ => rfl⟩ ?_
                    rotate_left
                    · intro w; go_simp; (try with_reducible rfl)
                    refine wpAnyIn_take (i := 7) (v := ?_) rfl rfl (by kernel_rfl) (by kernel_rfl) (by kernel_rfl) (fun _ _ _ h => h) ⟨Or.inl ⟨by rfl, ?_⟩, fun _ => rfl⟩ ?_
                    rotate_left
                    · intro w; go_simp; (try with_reducible rfl)
                    refine wpAnyIn_ready (rs := [8]) (by kernel_rfl) (by simp) ?_
                    refine AllReadyIn.cons rfl (fun K hK => ?_) ?_
                    · go_simp
                      refine hK _ _ ?_
                      clear hK K
                      refine wpAnyIn_done (by kernel_rfl) ?_ _
                      exact key
                    exact AllReadyIn.nil
                  exact AllReadyIn.nil
                refine AllReadyIn.cons rfl (fun K hK => ?_) ?_
                · go_simp
                  refine hK _ _ ?_
                  clear hK K
                  refine wpAnyIn_take (i := 5) (v := ?_) rfl rfl (by kernel_rfl) (by kernel_rfl) (by kernel_rfl) (fun _ _ _ h => h) ⟨Or.inl ⟨by rfl, ?_⟩, fun _ => rfl⟩ ?_
                  rotate_left
                  · intro w; go_simp; (try with_reducible rfl)
                  refine wpAnyIn_ready (rs := [0]) (by kernel_rfl) (by simp) ?_
                  refine AllReadyIn.cons rfl (fun K hK => ?_) ?_
                  · go_simp
                    refine hK _ _ ?_
                    clear hK K
                    refine wpAnyIn_take (i := 6) (v := ?_) rfl rfl (by kernel_rfl) (by kernel_rfl) (by kernel_rfl) (fun _ _ _ h => h) ⟨Or.inl ⟨by rfl, ?_⟩, fun _ => rfl⟩ ?_
                    rotate_left
                    · intro w; go_simp; (try with_reducible rfl)
                    refine wpAnyIn_take (i := 7) (v := ?_) rfl rfl (by kernel_rfl) (by kernel_rfl) (by kernel_rfl) (fun _ _ _ h => h) ⟨Or.inl ⟨by rfl, ?_⟩, fun _ => rfl⟩ ?_
                    rotate_left
                    · intro w; go_simp; (try with_reducible rfl)
                    refine wpAnyIn_ready (rs := [8]) (by kernel_rfl) (by simp) ?_
                    refine AllReadyIn.cons rfl (fun K hK => ?_) ?_
                    · go_simp
                      refine hK _ _ ?_
                      clear hK K
                      refine wpAnyIn_done (by kernel_rfl) ?_ _
                      exact key
                    exact AllReadyIn.nil
                  exact AllReadyIn.nil
                exact AllReadyIn.nil
              exact AllReadyIn.nil
            · skip
              gi_wp2
              refine ⟨(fun _ => by omega), ?_⟩
              refine hR.mono ?_
              clear hR hy
              rintro e W4 ⟨rfl, hJ4, hk4⟩
              gi_wp2
              go_roundw
              case rel => exact ⟨k + 1, by omega, by go_num, hid (by rw [HTS.out]; exact hJ4), hid ((HL3.out.kept hk4)), hid (HO3.out.trans' hk4.1)⟩
              case measure => simp [intOf]; omega
          · have hca' : ¬ ca - 1 = 0 := by omega
            have HL3 : Hid (LeftAt (W3.setCell ⟨s, 3, none⟩ (.slice (some ⟨b, ob + 1, none⟩) (mk - 1) (ca - 1))) s (L.drop (k + 1)) (m - (k + 1)) n₀ X) := hid (by
              have e0 := HLK1.out.1
              rw [HLK1.out.2]
              refine ⟨e0, by rw [World.frozen?_setCell]; exact f3, _, _, by rw [cell_set c3]; rfl, ((HRD.out.ext hE3.out).tail).set (fun b' o' e => by cases e; exact fun h => hbX.2 (h ▸ hX.1)), by omega, fun e => (by cases e), fun b' o' e => by cases e; exact hbX⟩)
            have HO3 : Hid (Only X W (W3.setCell ⟨s, 3, none⟩ (.slice (some ⟨b, ob + 1, none⟩) (mk - 1) (ca - 1)))) := hid (Only.setCell (HO.out.transExt hE3.out) (.inl hX.1) _)
            obtain ⟨fn, tmps, assign, body, hy, hR⟩ := HY.out (L.take k) x (W3.setCell ⟨s, 3, none⟩ (.slice (some ⟨b, ob + 1, none⟩) (mk - 1) (ca - 1))) HXL.out (HT.out _ _ _ hJ3.out ⟨some ⟨b, ob + 1, none⟩, ca - 1, L.drop (k + 1), by rw [HLK1.out.1], (HRD.out.ext hE3.out).tail, ⟨by rw [HLK1.out.1]; omega, fun e => by cases e⟩, fun b' o' e => by cases e; exact hbX.2, fun x hx => List.mem_of_mem_drop hx⟩) (by rw [List.length_take, HM.out]; omega)
            clear HY HRD H7 HLK HLK1
            apply cutG
            · intro key
              refine wpAnyIn_ready (rs := [0, 1]) (by kernel_rfl) (by simp) ?_
              refine AllReadyIn.cons rfl (fun K hK => ?_) ?_
              · go_simp
                refine hK _ _ ?_
                clear hK K
                refine wpAnyIn_ready (rs := [1]) (by kernel_rfl) (by simp) ?_
                refine AllReadyIn.cons rfl (fun K hK => ?_) ?_
                · go_simp
                  refine hK _ _ ?_
                  clear hK K
                  refine wpAnyIn_take (i := 2) (v := ?_) rfl rfl (by kernel_rfl) (by kernel_rfl) (by kernel_rfl) (fun _ _ _ h => h) ⟨Or.inl ⟨by rfl, ?_⟩, fun _ => rfl⟩ ?_
                  rotate_left
                  · intro w; go_simp; (try with_reducible rfl)
                  refine wpAnyIn_take (i := 3) (v := ?_) rfl rfl (by kernel_rfl) (by kernel_rfl) (by kernel_rfl) (fun _ _ _ h => h) ⟨Or.inl ⟨by rfl, ?_⟩, fun _ => rfl⟩ ?_
                  rotate_left
                  · intro w; go_simp; (try with_reducible rfl)
                  refine wpAnyIn_ready (rs := [4]) (by kernel_rfl) (by simp) ?_
                  refine AllReadyIn.cons rfl (fun K hK => ?_) ?_
                  · go_simp
                    refine hK _ _ ?_
                    clear hK K
                    refine wpAnyIn_take (i := 5) (v := ?_) rfl rfl (by kernel_rfl) (by kernel_rfl) (by kernel_rfl) (fun _ _ _ h => h) ⟨Or.inl ⟨by rfl, ?_⟩, fun _ => rfl⟩ ?_
                    rotate_left
                    · intro w; go_simp; (try with_reducible rfl)
                    refine wpAnyIn_take (i := 6) (v := ?_) rfl rfl (by kernel_rfl) (by kernel_rfl) (by kernel_rfl) (fun _ _ _ h => h) ⟨Or.inl ⟨by rfl, ?_⟩, fun _ => rfl⟩ ?_
                    rotate_left
                    · intro w; go_simp; (try with_reducible rfl)
                    refine wpAnyIn_take (i := 7) (v := ?_) rfl rfl (by kernel_rfl) (by kernel_rfl) (by kernel_rfl) (fun _ _ _ h => h) ⟨Or.inl ⟨by rfl, ?_⟩, fun _ => rfl⟩ ?_
                    rotate_left
                    · intro w; go_simp; (try with_reducible rfl)
                    refine wpAnyIn_ready (rs := [8]) (by kernel_rfl) (by simp) ?_
                    refine AllReadyIn.cons rfl (fun K hK => ?_) ?_
                    · go_simp
                      refine hK _ _ ?_
                      clear hK K
                      refine wpAnyIn_done (by kernel_rfl) ?_ _
                      exact key
                    exact AllReadyIn.nil
                  exact AllReadyIn.nil
                exact AllReadyIn.nil
              refine AllReadyIn.cons rfl (fun K hK => ?_) ?_
              · go_simp
                refine hK _ _ ?_
                clear hK K
                refine wpAnyIn_take (i := 2) (v := ?_) rfl rfl (by kernel_rfl) (by kernel_rfl) (by kernel_rfl) (fun _ _ _ h => h) ⟨Or.inl ⟨by rfl, ?_⟩, fun _ => rfl⟩ ?_
                rotate_left
                · intro w; go_simp; (try with_reducible rfl)
                refine wpAnyIn_take (i := 3) (v := ?_) rfl rfl (by kernel_rfl) (by kernel_rfl) (by kernel_rfl) (fun _ _ _ h => h) ⟨Or.inl ⟨by rfl, ?_⟩, fun _ => rfl⟩ ?_
                rotate_left
                · intro w; go_simp; (try with_reducible rfl)
                refine wpAnyIn_ready (rs := [0, 4]) (by kernel_rfl) (by simp) ?_
                refine AllReadyIn.cons rfl (fun K hK => ?_) ?_
                · go_simp
                  refine hK _ _ ?_
                  clear hK K
                  refine wpAnyIn_ready (rs := [4]) (by kernel_rfl) (by simp) ?_
                  refine AllReadyIn.cons rfl (fun K hK => ?_) ?_
                  · go_simp
                    refine hK _ _ ?_
                    clear hK K
                    refine wpAnyIn_take (i := 5) (v := ?_) rfl rfl (by kernel_rfl) (by kernel_rfl) (by kernel_rfl) (fun _ _ _ h => h) ⟨Or.inl ⟨by rfl, ?_⟩, fun _ => rfl⟩ ?_
                    rotate_left
                    · intro w; go_simp; (try with_reducible rfl)
                    refine wpAnyIn_take (i := 6) (v := ?_) rfl rfl (by kernel_rfl) (by kernel_rfl) (by kernel_rfl) (fun _ _ _ h => h) ⟨Or.inl ⟨by rfl, ?_⟩, fun _ => rfl⟩ ?_
                    rotate_left
                    · intro w; go_simp; (try with_reducible rfl)
                    refine wpAnyIn_take (i := 7) (v := ?_) rfl rfl (by kernel_rfl) (by kernel_rfl) (by kernel_rfl) (fun _ _ _ h => h) ⟨Or.inl ⟨by rfl, ?_⟩, fun _ => rfl⟩ ?_
                    rotate_left
                    · intro w; go_simp; (try with_reducible rfl)
                    refine wpAnyIn_ready (rs := [8]) (by kernel_rfl) (by simp) ?_
                    refine AllReadyIn.cons rfl (fun K hK => ?_) ?_
                    · go_simp
                      refine hK _ _ ?_
                      clear hK K
                      refine wpAnyIn_done (by kernel_rfl) ?_ _
                      exact key
                    exact AllReadyIn.nil
                  exact AllReadyIn.nil
                refine AllReadyIn.cons rfl (fun K hK => ?_) ?_
                · go_simp
                  refine hK _ _ ?_
                  clear hK K
                  refine wpAnyIn_take (i := 5) (v := ?_) rfl rfl (by kernel_rfl) (by kernel_rfl) (by kernel_rfl) (fun _ _ _ h => h) ⟨Or.inl ⟨by rfl, ?_⟩, fun _ => rfl⟩ ?_
                  rotate_left
                  · intro w; go_simp; (try with_reducible rfl)
                  refine wpAnyIn_ready (rs := [0]) (by kernel_rfl) (by simp) ?_
                  refine AllReadyIn.cons rfl (fun K hK => ?_) ?_
                  · go_simp
                    refine hK _ _ ?_
                    clear hK K
                    refine wpAnyIn_take (i := 6) (v := ?_) rfl rfl (by kernel_rfl) (by kernel_rfl) (by kernel_rfl) (fun _ _ _ h => h) ⟨Or.inl ⟨by rfl, ?_⟩, fun _ => rfl⟩ ?_
                    rotate_left
                    · intro w; go_simp; (try with_reducible rfl)
                    refine wpAnyIn_take (i := 7) (v := ?_) rfl rfl (by kernel_rfl) (by kernel_rfl) (by kernel_rfl) (fun _ _ _ h => h) ⟨Or.inl ⟨by rfl, ?_⟩, fun _ => rfl⟩ ?_
                    rotate_left
                    · intro w; go_simp; (try with_reducible rfl)
                    refine wpAnyIn_ready (rs := [8]) (by kernel_rfl) (by simp) ?_
                    refine AllReadyIn.cons rfl (fun K hK => ?_) ?_
                    · go_simp
                      refine hK _ _ ?_
                      clear hK K
                      refine wpAnyIn_done (by kernel_rfl) ?_ _
                      exact key
                    exact AllReadyIn.nil
                  exact AllReadyIn.nil
                exact AllReadyIn.nil
              exact AllReadyIn.nil
            · skip
              gi_wp2
              refine ⟨(fun _ => by omega), ?_⟩
              refine hR.mono ?_
              clear hR hy
              rintro e W4 ⟨rfl, hJ4, hk4⟩
              gi_wp2
              go_roundw
              case rel => exact ⟨k + 1, by omega, by go_num, hid (by rw [HTS.out]; exact hJ4), hid ((HL3.out.kept hk4)), hid (HO3.out.trans' hk4.1)⟩
              case measure => simp [intOf]; omega
        · obtain rfl : m = k := by omega
          have hk1 : ¬ (m : Int) < (m : Int) := by omega
          gi_wp2
          go_end0
          refine ⟨⟨_, rfl⟩, _, ⟨rfl, ?_⟩, hJk.out⟩
          first | exact HLk.out | (have h := HLk.out; rw [Nat.sub_self] at h; exact h)
  · subst hp2
    gi_wp2
    refine wpIn_region_any (by kernel_rfl) ?_
    change wpAnyIn _ _ _ _ _ _ _ _ _ (World.drew _)
    refine wpAnyIn_gen (fun W2 => Hid (Ext W W2)) (hid (Ext.drew (Ext.refl _))) ?_
    rintro W2 hE2
    have c3 := (hE2.out.cells s 3 (by omega)).trans hs3
    have d0 := (hE2.out.cells qb 0 (by omega)).trans hqb
    have d1 := (hE2.out.cells nb 0 (by omega)).trans hnb
    have HJ2 : Hid (J [] W2) := hid (HJ.out [] W W2 none HJ0.out (gives_grown hE2.out) (fun r e => by cases e))
    have HL2 : Hid (LeftAt W2 s L m n₀ X) := hid (HL.out.kept ⟨Only.ofExt hE2.out, hE2.out.cells s 3 (by omega), hE2.out.frozens s 3 (by omega)⟩)
    have HO2 : Hid (Only X W W2) := hid (Only.ofExt hE2.out)
    clear HL HJ0 hs3 hqb hnb hE2
    apply cutG
    · intro key
      refine wpAnyIn_take (i := 7) (v := ?_) rfl rfl (by kernel_rfl) (by kernel_rfl) (by kernel_rfl) (fun _ _ _ h => h) ⟨Or.inl ⟨by rfl, ?_⟩, fun _ => rfl⟩ ?_
      rotate_left
      · intro w; go_simp; (try with_reducible rfl)
      refine wpAnyIn_ready (rs := [0, 1]) (by kernel_rfl) (by simp) ?_
      refine AllReadyIn.cons rfl (fun K hK => ?_) ?_
      · go_simp
        refine hK _ _ ?_
        clear hK K
        refine wpAnyIn_ready (rs := [1]) (by kernel_rfl) (by simp) ?_
        refine AllReadyIn.cons rfl (fun K hK => ?_) ?_
        · go_simp
          refine hK _ _ ?_
          clear hK K
          refine wpAnyIn_take (i := 2) (v := ?_) rfl rfl (by kernel_rfl) (by kernel_rfl) (by kernel_rfl) (fun _ _ _ h => h) ⟨Or.inl ⟨by rfl, ?_⟩, fun _ => rfl⟩ ?_
          rotate_left
          · intro w; go_simp; (try with_reducible rfl)
          refine wpAnyIn_take (i := 3) (v := ?_) rfl rfl (by kernel_rfl) (by kernel_rfl) (by kernel_rfl) (fun _ _ _ h => h) ⟨Or.inl ⟨by rfl, ?_⟩, fun _ => rfl⟩ ?_
          rotate_left
          · intro w; go_simp; (try with_reducible rfl)
          refine wpAnyIn_ready (rs := [4]) (by kernel_rfl) (by simp) ?_
          refine AllReadyIn.cons rfl (fun K hK => ?_) ?_
          · go_simp
            refine hK _ _ ?_
            clear hK K
            refine wpAnyIn_ready (rs := [5]) (by kernel_rfl) (by simp) ?_
            refine AllReadyIn.cons rfl (fun K hK => ?_) ?_
            · go_simp
              refine hK _ _ ?_
              clear hK K
              refine wpAnyIn_ready (rs := [6]) (by kernel_rfl) (by simp) ?_
              refine AllReadyIn.cons rfl (fun K hK => ?_) ?_
              · go_simp
                refine hK _ _ ?_
                clear hK K
                refine wpAnyIn_done (by kernel_rfl) ?_ _
                exact key
              exact AllReadyIn.nil
            exact AllReadyIn.nil
          exact AllReadyIn.nil
        exact AllReadyIn.nil
      refine AllReadyIn.cons rfl (fun K hK => ?_) ?_
      · go_simp
        refine hK _ _ ?_
        clear hK K
        refine wpAnyIn_take (i := 2) (v := ?_) rfl rfl (by kernel_rfl) (by kernel_rfl) (by kernel_rfl) (fun _ _ _ h => h) ⟨Or.inl ⟨by rfl, ?_⟩, fun _ => rfl⟩ ?_
        rotate_left
        · intro w; go_simp; (try with_reducible rfl)
        refine wpAnyIn_take (i := 3) (v := ?_) rfl rfl (by kernel_rfl) (by kernel_rfl) (by kernel_rfl) (fun _ _ _ h => h) ⟨Or.inl ⟨by rfl, ?_⟩, fun _ => rfl⟩ ?_
        rotate_left
        · intro w; go_simp; (try with_reducible rfl)
        refine wpAnyIn_ready (rs := [0, 4]) (by kernel_rfl) (by simp) ?_
        refine AllReadyIn.cons rfl (fun K hK => ?_) ?_
        · go_simp
          refine hK _ _ ?_
          clear hK K
          refine wpAnyIn_ready (rs := [4]) (by kernel_rfl) (by simp) ?_
          refine AllReadyIn.cons rfl (fun K hK => ?_) ?_
          · go_simp
            refine hK _ _ ?_
            clear hK K
            refine wpAnyIn_ready (rs := [5]) (by kernel_rfl) (by simp) ?_
            refine AllReadyIn.cons rfl (fun K hK => ?_) ?_
            · go_simp
              refine hK _ _ ?_
              clear hK K
              refine wpAnyIn_ready (rs := [6]) (by kernel_rfl) (by simp) ?_
              refine AllReadyIn.cons rfl (fun K hK => ?_) ?_
              · go_simp
                refine hK _ _ ?_
                clear hK K
                refine wpAnyIn_done (by kernel_rfl) ?_ _
                exact key
              exact AllReadyIn.nil
            exact AllReadyIn.nil
          exact AllReadyIn.nil
        refine AllReadyIn.cons rfl (fun K hK => ?_) ?_
        · go_simp
          refine hK _ _ ?_
          clear hK K
          refine wpAnyIn_ready (rs := [0, 5]) (by kernel_rfl) (by simp) ?_
          refine AllReadyIn.cons rfl (fun K hK => ?_) ?_
          · go_simp
            refine hK _ _ ?_
            clear hK K
            refine wpAnyIn_ready (rs := [5]) (by kernel_rfl) (by simp) ?_
            refine AllReadyIn.cons rfl (fun K hK => ?_) ?_
            · go_simp
              refine hK _ _ ?_
              clear hK K
              refine wpAnyIn_ready (rs := [6]) (by kernel_rfl) (by simp) ?_
              refine AllReadyIn.cons rfl (fun K hK => ?_) ?_
              · go_simp
                refine hK _ _ ?_
                clear hK K
                refine wpAnyIn_done (by kernel_rfl) ?_ _
                exact key
              exact AllReadyIn.nil
            exact AllReadyIn.nil
          refine AllReadyIn.cons rfl (fun K hK => ?_) ?_
          · go_simp
            refine hK _ _ ?_
            clear hK K
            refine wpAnyIn_ready (rs := [0]) (by kernel_rfl) (by simp) ?_
            refine AllReadyIn.cons rfl (fun K hK => ?_) ?_
            · go_simp
              refine hK _ _ ?_
              clear hK K
              refine wpAnyIn_ready (rs := [6]) (by kernel_rfl) (by simp) ?_
              refine AllReadyIn.cons rfl (fun K hK => ?_) ?_
              · go_simp
                refine hK _ _ ?_
                clear hK K
                refine wpAnyIn_done (by kernel_rfl) ?_ _
                exact key
              exact AllReadyIn.nil
            exact AllReadyIn.nil
          exact AllReadyIn.nil
        exact AllReadyIn.nil
      exact AllReadyIn.nil
    · skip
      gi_wp2
      gi_loopw [12] (fun i wr => ∃ k : Nat, k ≤ r ∧ i = .int .i64 k ∧ Hid (J (L.take k) wr) ∧ Hid (LeftAt wr s (L.drop k) (m - k) n₀ X) ∧ Hid (Only X W wr)) (fun i _ => r - (intOf i).toNat)
      case atStart => exact ⟨0, Nat.zero_le _, rfl, HJ2, HL2, HO2⟩
      case round =>
        clear HJ2 HL2 HO2 c3 d0 d1
        obtain ⟨k, hk, rfl, hJk, HLk, HO⟩ := hrel
        have d0 := (HO.out.cells qb 0 (by omega) hX.2.1).trans HQB.out
        have hk0 : (0 : Int) ≤ (k : Int) := by omega
        by_cases hlt : k < r
        · have hk1 : (k : Int) < (r : Int) := by omega
          have hkl : k < L.length := by rw [HM.out]; omega
          obtain ⟨h1, h2, A, ca, h3, h4, h5, h6, h7⟩ := HLk.out
          obtain ⟨x, hx⟩ : ∃ x, L[k] = x := ⟨_, rfl⟩
          have HXL : Hid (x ∈ L) := hid (by rw [← hx]; exact List.getElem_mem hkl)
          have hdr : L.drop k = x :: L.drop (k + 1) := by rw [← hx]; exact List.drop_eq_getElem_cons hkl
          have HTS : Hid (L.take (k + 1) = L.take k ++ [x]) := hid (by rw [← hx]; exact List.take_succ_eq_append_getElem hkl)
          obtain ⟨b, ob, rfl, hb, hc⟩ := h4 (by omega)
          have hrow : wr.cell? ⟨b, ob, none⟩ = some (.int .i64 (x : Int)) := by
            have := hc 0 (by omega)
            simpa [hdr] using this
          have hsl : s < wr.heap.size := Nat.lt_of_lt_of_le (by omega) HO.out.size
          have hbX := h7 b ob rfl
          have hmk : (0 : Int) < ((m - k : Nat) : Int) := by omega
          have hmk' : ((m - k : Nat) : Int) = (m : Int) - (k : Int) := by omega
          have HLK := hid h1
          have HRD : Hid (RdN wr (some ⟨b, ob, none⟩) (x :: L.drop (k + 1))) := hid (by rw [← hdr]; exact h4)
          have H7 := hid h7
          clear hx hdr h1 h4 h6 h7 hc hkl hmk'
          obtain ⟨mk, hmk2⟩ : ∃ t, m - k = t := ⟨_, rfl⟩
          rw [hmk2] at h3 h5 hmk HLK
          have HMK := hid hmk2
          clear hmk2
          have hca1 : (1 : Int) ≤ (ca : Int) := by omega
          have hca2 : (1 : Int) ≤ (mk : Int) := by omega
          have hca3 : (mk : Int) ≤ (ca : Int) := by omega
          gi_wp2
          refine wpIn_region_any (by kernel_rfl) ?_
          change wpAnyIn _ _ _ _ _ _ _ _ _ (World.drew _)
          refine wpAnyIn_gen (fun W3 => Hid (Ext wr W3)) (hid (Ext.drew (Ext.refl _))) ?_
          rintro W3 hE3
          have hJ3 : Hid (J (L.take k) W3) := hid (HJ.out _ wr W3 none hJk.out (gives_grown hE3.out) (fun r e => by cases e))
          have c3 := (hE3.out.cells s 3 hsl).trans h3
          have f3 := (hE3.out.frozens s 3 hsl).trans h2
          have d3 := (hE3.out.cells qb 0 (Nat.lt_of_lt_of_le (by omega) HO.out.size)).trans d0
          have hs3 : s < W3.heap.size := Nat.lt_of_lt_of_le hsl hE3.out.size
          have HLK1 : Hid ((L.drop (k + 1)).length = mk - 1 ∧ m - (k + 1) = mk - 1) := hid ⟨by rw [List.length_drop, HM.out]; have := HMK.out; omega, by have := HMK.out; omega⟩
          clear h3 h2 d0 hrow
          by_cases hca : ca = 1
          · subst hca
            obtain rfl : mk = 1 := by omega
            have HL3 : Hid (LeftAt (W3.setCell ⟨s, 3, none⟩ (.slice (some ⟨b, ob, none⟩) 0 0)) s (L.drop (k + 1)) (m - (k + 1)) n₀ X) := hid (by
              have e0 := HLK1.out.1
              rw [HLK1.out.2]
              exact ⟨e0, by rw [World.frozen?_setCell]; exact f3, _, _, by rw [cell_set c3]; rfl, fun h => absurd h (by omega), Nat.zero_le _, fun e => (by cases e), H7.out⟩)
            have HO3 : Hid (Only X W (W3.setCell ⟨s, 3, none⟩ (.slice (some ⟨b, ob, none⟩) 0 0))) := hid (Only.setCell (HO.out.transExt hE3.out) (.inl hX.1) _)
            obtain ⟨fn, tmps, assign, body, hy, hR⟩ := HY.out (L.take k) x (W3.setCell ⟨s, 3, none⟩ (.slice (some ⟨b, ob, none⟩) 0 0)) HXL.out (HT.out _ _ _ hJ3.out ⟨some ⟨b, ob, none⟩, 0, L.drop (k + 1), by rw [HLK1.out.1], fun h => absurd h (by have := HLK1.out.1; omega), ⟨by rw [HLK1.out.1]; exact Nat.le_refl _, fun e => by cases e⟩, fun b o e => (H7.out b o e).2, fun x hx => List.mem_of_mem_drop hx⟩) (by rw [List.length_take, HM.out]; omega)
            clear HY HRD H7 HLK HLK1
            apply cutG
            · intro key
              refine wpAnyIn_ready (rs := [0, 1]) (by kernel_rfl) (by simp) ?_
              refine AllReadyIn.cons rfl (fun K hK => ?_) ?_
              · go_simp
                refine hK _ _ ?_
                clear hK K
                refine wpAnyIn_ready (rs := [1]) (by kernel_rfl) (by simp) ?_
                refine AllReadyIn.cons rfl (fun K hK => ?_) ?_
                · go_simp
                  refine hK _ _ ?_
                  clear hK K
                  refine wpAnyIn_take (i := 2) (v := ?_) rfl rfl (by kernel_rfl) (by kernel_rfl) (by kernel_rfl) (fun _ _ _ h => h) ⟨Or.inl ⟨by rfl, ?_⟩, fun _ => rfl⟩ ?_
                  rotate_left
                  · intro w; go_simp; (try with_reducible rfl)
                  refine wpAnyIn_take (i := 3) (v := ?_) rfl rfl (by kernel_rfl) (by kernel_rfl) (by kernel_rfl) (fun _ _ _ h => h) ⟨Or.inl ⟨by rfl, ?_⟩, fun _ => rfl⟩ ?_
                  rotate_left
                  · intro w; go_simp; (try with_reducible rfl)
                  refine wpAnyIn_ready (rs := [4]) (by kernel_rfl) (by simp) ?_
                  refine AllReadyIn.cons rfl (fun K hK => ?_) ?_
                  · go_simp
                    refine hK _ _ ?_
                    clear hK K
                    refine wpAnyIn_take (i := 5) (v := ?_) rfl rfl (by kernel_rfl) (by kernel_rfl) (by kernel_rfl) (fun _ _ _ h => h) ⟨Or.inl ⟨by rfl, ?_⟩, fun _ => rfl⟩ ?_
                    rotate_left
                    · intro w; go_simp; (try with_reducible rfl)
                    refine wpAnyIn_take (i := 6) (v := ?_) rfl rfl (by kernel_rfl) (by kernel_rfl) (by kernel_rfl) (fun _ _ _ h => h) ⟨Or.inl ⟨by rfl, ?_⟩, fun _ => rfl⟩ ?_
                    rotate_left
                    · intro w; go_simp; (try with_reducible rfl)
                    refine wpAnyIn_take (i := 7) (v := ?_) rfl rfl (by kernel_rfl) (by kernel_rfl) (by kernel_rfl) (fun _ _ _ h => h) ⟨Or.inl ⟨by rfl, ?_⟩, fun _ => rfl⟩ ?_
                    rotate_left
                    · intro w; go_simp; (try with_reducible rfl)
                    refine wpAnyIn_ready (rs := [8]) (by kernel_rfl) (by simp) ?_
                    refine AllReadyIn.cons rfl (fun K hK => ?_) ?_
                    · go_simp
                      refine hK _ _ ?_
                      clear hK K
                      refine wpAnyIn_done (by kernel_rfl) ?_ _
                      exact key
                    exact AllReadyIn.nil
                  exact AllReadyIn.nil
                exact AllReadyIn.nil
              refine AllReadyIn.cons rfl (fun K hK => ?_) ?_
              · go_simp
                refine hK _ _ ?_
                clear hK K
                refine wpAnyIn_take (i := 2) (v := ?_) rfl rfl (by kernel_rfl) (by kernel_rfl) (by kernel_rfl) (fun _ _ _ h => h) ⟨Or.inl ⟨by rfl, ?_⟩, fun _ => rfl⟩ ?_
                rotate_left
                · intro w; go_simp; (try with_reducible rfl)
                refine wpAnyIn_take (i := 3) (v := ?_) rfl rfl (by kernel_rfl) (by kernel_rfl) (by kernel_rfl) (fun _ _ _ h => h) ⟨Or.inl ⟨by rfl, ?_⟩, fun _ => rfl⟩ ?_
                rotate_left
                · intro w; go_simp; (try with_reducible rfl)
                refine wpAnyIn_ready (rs := [0, 4]) (by kernel_rfl) (by simp) ?_
                refine AllReadyIn.cons rfl (fun K hK => ?_) ?_
                · go_simp
                  refine hK _ _ ?_
                  clear hK K
                  refine wpAnyIn_ready (rs := [4]) (by kernel_rfl) (by simp) ?_
                  refine AllReadyIn.cons rfl (fun K hK => ?_) ?_
                  · go_simp
                    refine hK _ _ ?_
                    clear hK K
                    refine wpAnyIn_take (i := 5) (v := ?_) rfl rfl (by kernel_rfl) (by kernel_rfl) (by kernel_rfl) (fun _ _ _ h => h) ⟨Or.inl ⟨by rfl, ?_⟩, fun _ => rfl⟩ ?_
                    rotate_left
                    · intro w; go_simp; (try with_reducible rfl)
                    refine wpAnyIn_take (i := 6) (v := ?_) rfl rfl (by kernel_rfl) (by kernel_rfl) (by kernel_rfl) (fun _ _ _ h => h) ⟨Or.inl ⟨by rfl, ?_⟩, fun _ => rfl⟩ ?_
                    rotate_left
                    · intro w; go_simp; (try with_reducible rfl)
                    refine wpAnyIn_take (i := 7) (v := ?_) rfl rfl (by kernel_rfl) (by kernel_rfl) (by kernel_rfl) (fun _ _ _ h => h) ⟨Or.inl ⟨by rfl, ?_⟩, fun _ => rfl⟩ ?_
                    rotate_left
                    · intro w; go_simp; (try with_reducible rfl)
                    refine wpAnyIn_ready (rs := [8]) (by kernel_rfl) (by simp) ?_
                    refine AllReadyIn.cons rfl (fun K hK => ?_) ?_
                    · go_simp
                      refine hK _ _ ?_
                      clear hK K
                      refine wpAnyIn_done (by kernel_rfl) ?_ _
                      exact key
                    exact AllReadyIn.nil
                  exact AllReadyIn.nil
                refine AllReadyIn.cons rfl (fun K hK => ?_) ?_
                · go_simp
                  refine hK _ _ ?_
                  clear hK K
                  refine wpAnyIn_take (i := 5) (v := ?_) rfl rfl (by kernel_rfl) (by kernel_rfl) (by kernel_rfl) (fun _ _ _ h => h) ⟨Or.inl ⟨by rfl, ?_⟩, fun _ => rfl⟩ ?_
                  rotate_left
                  · intro w; go_simp; (try with_reducible rfl)
                  refine wpAnyIn_ready (rs := [0]) (by kernel_rfl) (by simp) ?_
                  refine AllReadyIn.cons rfl (fun K hK => ?_) ?_
                  · go_simp
                    refine hK _ _ ?_
                    clear hK K
                    refine wpAnyIn_take (i := 6) (v := ?_) rfl rfl (by kernel_rfl) (by kernel_rfl) (by kernel_rfl) (fun _ _ _ h => h) ⟨Or.inl ⟨by rfl, ?_⟩, fun _ => rfl⟩ ?_
                    rotate_left
                    · intro w; go_simp; (try with_reducible rfl)
                    refine wpAnyIn_take (i := 7) (v := ?_) rfl rfl (by kernel_rfl) (by kernel_rfl) (by kernel_rfl) (fun _ _ _ h => h) ⟨Or.inl ⟨by rfl, ?_⟩, fun _ => rfl⟩ ?_
                    rotate_left
                    · intro w; go_simp; (try with_reducible rfl)
                    refine wpAnyIn_ready (rs := [8]) (by kernel_rfl) (by simp) ?_
                    refine AllReadyIn.cons rfl (fun K hK => ?_) ?_
                    · go_simp
                      refine hK _ _ ?_
                      clear hK K
                      refine wpAnyIn_done (by kernel_rfl) ?_ _
                      exact key
                    exact AllReadyIn.nil
                  exact AllReadyIn.nil
                exact AllReadyIn.nil
              exact AllReadyIn.nil
            · skip
              gi_wp2
              refine ⟨(fun _ => by omega), ?_⟩
              refine hR.mono ?_
              clear hR hy
              rintro e W4 ⟨rfl, hJ4, hk4⟩
              gi_wp2
              go_roundw
              case rel => exact ⟨k + 1, by omega, by go_num, hid (by rw [HTS.out]; exact hJ4), hid ((HL3.out.kept hk4)), hid (HO3.out.trans' hk4.1)⟩
              case measure => simp [intOf]; omega
          · have hca' : ¬ ca - 1 = 0 := by omega
            have HL3 : Hid (LeftAt (W3.setCell ⟨s, 3, none⟩ (.slice (some ⟨b, ob + 1, none⟩) (mk - 1) (ca - 1))) s (L.drop (k + 1)) (m - (k + 1)) n₀ X) := hid (by
              have e0 := HLK1.out.1
              rw [HLK1.out.2]
              refine ⟨e0, by rw [World.frozen?_setCell]; exact f3, _, _, by rw [cell_set c3]; rfl, ((HRD.out.ext hE3.out).tail).set (fun b' o' e => by cases e; exact fun h => hbX.2 (h ▸ hX.1)), by omega, fun e => (by cases e), fun b' o' e => by cases e; exact hbX⟩)
            have HO3 : Hid (Only X W (W3.setCell ⟨s, 3, none⟩ (.slice (some ⟨b, ob + 1, none⟩) (mk - 1) (ca - 1)))) := hid (Only.setCell (HO.out.transExt hE3.out) (.inl hX.1) _)
            obtain ⟨fn, tmps, assign, body, hy, hR⟩ := HY.out (L.take k) x (W3.setCell ⟨s, 3, none⟩ (.slice (some ⟨b, ob + 1, none⟩) (mk - 1) (ca - 1))) HXL.out (HT.out _ _ _ hJ3.out ⟨some ⟨b, ob + 1, none⟩, ca - 1, L.drop (k + 1), by rw [HLK1.out.1], (HRD.out.ext hE3.out).tail, ⟨by rw [HLK1.out.1]; omega, fun e => by cases e⟩, fun b' o' e => by cases e; exact hbX.2, fun x hx => List.mem_of_mem_drop hx⟩) (by rw [List.length_take, HM.out]; omega)
            clear HY HRD H7 HLK HLK1
            apply cutG
            · intro key
              refine wpAnyIn_ready (rs := [0, 1]) (by kernel_rfl) (by simp) ?_
              refine AllReadyIn.cons rfl (fun K hK => ?_) ?_
              · go_simp
                refine hK _ _ ?_
                clear hK K
                refine wpAnyIn_ready (rs := [1]) (by kernel_rfl) (by simp) ?_
                refine AllReadyIn.cons rfl (fun K hK => ?_) ?_
                · go_simp
                  refine hK _ _ ?_
                  clear hK K
                  refine wpAnyIn_take (i := 2) (v := ?_) rfl rfl (by kernel_rfl) (by kernel_rfl) (by kernel_rfl) (fun _ _ _ h => h) ⟨Or.inl ⟨by rfl, ?_⟩, fun _ => rfl⟩ ?_
                  rotate_left
                  · intro w; go_simp; (try with_reducible rfl)
                  refine wpAnyIn_take (i := 3) (v := ?_) rfl rfl (by kernel_rfl) (by kernel_rfl) (by kernel_rfl) (fun _ _ _ h => h) ⟨Or.inl ⟨by rfl, ?_⟩, fun _ => rfl⟩ ?_
                  rotate_left
                  · intro w; go_simp; (try with_reducible rfl)
                  refine wpAnyIn_ready (rs := [4]) (by kernel_rfl) (by simp) ?_
                  refine AllReadyIn.cons rfl (fun K hK => ?_) ?_
                  · go_simp
                    refine hK _ _ ?_
                    clear hK K
                    refine wpAnyIn_take (i := 5) (v := ?_) rfl rfl (by kernel_rfl) (by kernel_rfl) (by kernel_rfl) (fun _ _ _ h => h) ⟨Or.inl ⟨by rfl, ?_⟩, fun _ => rfl⟩ ?_
                    rotate_left
                    · intro w; go_simp; (try with_reducible rfl)
                    refine wpAnyIn_take (i := 6) (v := ?_) rfl rfl (by kernel_rfl) (by kernel_rfl) (by kernel_rfl) (fun _ _ _ h => h) ⟨Or.inl ⟨by rfl, ?_⟩, fun _ => rfl⟩ ?_
                    rotate_left
                    · intro w; go_simp; (try with_reducible rfl)
                    refine wpAnyIn_take (i := 7) (v := ?_) rfl rfl (by kernel_rfl) (by kernel_rfl) (by kernel_rfl) (fun _ _ _ h => h) ⟨Or.inl ⟨by rfl, ?_⟩, fun _ => rfl⟩ ?_
                    rotate_left
                    · intro w; go_simp; (try with_reducible rfl)
                    refine wpAnyIn_ready (rs := [8]) (by kernel_rfl) (by simp) ?_
                    refine AllReadyIn.cons rfl (fun K hK => ?_) ?_
                    · go_simp
                      refine hK _ _ ?_
                      clear hK K
                      refine wpAnyIn_done (by kernel_rfl) ?_ _
                      exact key
                    exact AllReadyIn.nil
                  exact AllReadyIn.nil
                exact AllReadyIn.nil
              refine AllReadyIn.cons rfl (fun K hK => ?_) ?_
              · go_simp
                refine hK _ _ ?_
                clear hK K
                refine wpAnyIn_take (i := 2) (v := ?_) rfl rfl (by kernel_rfl) (by kernel_rfl) (by kernel_rfl) (fun _ _ _ h => h) ⟨Or.inl ⟨by rfl, ?_⟩, fun _ => rfl⟩ ?_
                rotate_left
                · intro w; go_simp; (try with_reducible rfl)
                refine wpAnyIn_take (i := 3) (v := ?_) rfl rfl (by kernel_rfl) (by kernel_rfl) (by kernel_rfl) (fun _ _ _ h => h) ⟨Or.inl ⟨by rfl, ?_⟩, fun _ => rfl⟩ ?_
                rotate_left
                · intro w; go_simp; (try with_reducible rfl)
                refine wpAnyIn_ready (rs := [0, 4]) (by kernel_rfl) (by simp) ?_
                refine AllReadyIn.cons rfl (fun K hK => ?_) ?_
                · go_simp
                  refine hK _ _ ?_
                  clear hK K
                  refine wpAnyIn_ready (rs := [4]) (by kernel_rfl) (by simp) ?_
                  refine AllReadyIn.cons rfl (fun K hK => ?_) ?_
                  · go_simp
                    refine hK _ _ ?_
                    clear hK K
                    refine wpAnyIn_take (i := 5) (v := ?_) rfl rfl (by kernel_rfl) (by kernel_rfl) (by kernel_rfl) (fun _ _ _ h => h) ⟨Or.inl ⟨by rfl, ?_⟩, fun _ => rfl⟩ ?_
                    rotate_left
                    · intro w; go_simp; (try with_reducible rfl)
                    refine wpAnyIn_take (i := 6) (v := ?_) rfl rfl (by kernel_rfl) (by kernel_rfl) (by kernel_rfl) (fun _ _ _ h => h) ⟨Or.inl ⟨by rfl, ?_⟩, fun _ => rfl⟩ ?_
                    rotate_left
                    · intro w; go_simp; (try with_reducible rfl)
                    refine wpAnyIn_take (i := 7) (v := ?_) rfl rfl (by kernel_rfl) (by kernel_rfl) (by kernel_rfl) (fun _ _ _ h => h) ⟨Or.inl ⟨by rfl, ?_⟩, fun _ => rfl⟩ ?_
                    rotate_left
                    · intro w; go_simp; (try with_reducible rfl)
                    refine wpAnyIn_ready (rs := [8]) (by kernel_rfl) (by simp) ?_
                    refine AllReadyIn.cons rfl (fun K hK => ?_) ?_
                    · go_simp
                      refine hK _ _ ?_
                      clear hK K
                      refine wpAnyIn_done (by kernel_rfl) ?_ _
                      exact key
                    exact AllReadyIn.nil
                  exact AllReadyIn.nil
                refine AllReadyIn.cons rfl (fun K hK => ?_) ?_
                · go_simp
                  refine hK _ _ ?_
                  clear hK K
                  refine wpAnyIn_take (i := 5) (v := ?_) rfl rfl (by kernel_rfl) (by kernel_rfl) (by kernel_rfl) (fun _ _ _ h => h) ⟨Or.inl ⟨by rfl, ?_⟩, fun _ => rfl⟩ ?_
                  rotate_left
                  · intro w; go_simp; (try with_reducible rfl)
                  refine wpAnyIn_ready (rs := [0]) (by kernel_rfl) (by simp) ?_
                  refine AllReadyIn.cons rfl (fun K hK => ?_) ?_
                  · go_simp
                    refine hK _ _ ?_
                    clear hK K
                    refine wpAnyIn_take (i := 6) (v := ?_) rfl rfl (by kernel_rfl) (by kernel_rfl) (by kernel_rfl) (fun _ _ _ h => h) ⟨Or.inl ⟨by rfl, ?_⟩, fun _ => rfl⟩ ?_
                    rotate_left
                    · intro w; go_simp; (try with_reducible rfl)
                    refine wpAnyIn_take (i := 7) (v := ?_) rfl rfl (by kernel_rfl) (by kernel_rfl) (by kernel_rfl) (fun _ _ _ h => h) ⟨Or.inl ⟨by rfl, ?_⟩, fun _ => rfl⟩ ?_
                    rotate_left
                    · intro w; go_simp; (try with_reducible rfl)
                    refine wpAnyIn_ready (rs := [8]) (by kernel_rfl) (by simp) ?_
                    refine AllReadyIn.cons rfl (fun K hK => ?_) ?_
                    · go_simp
                      refine hK _ _ ?_
                      clear hK K
                      refine wpAnyIn_done (by kernel_rfl) ?_ _
                      exact key
                    exact AllReadyIn.nil
                  exact AllReadyIn.nil
                exact AllReadyIn.nil
              exact AllReadyIn.nil
            · skip
              gi_wp2
              refine ⟨(fun _ => by omega), ?_⟩
              refine hR.mono ?_
              clear hR hy
              rintro e W4 ⟨rfl, hJ4, hk4⟩
              gi_wp2
              go_roundw
              case rel => exact ⟨k + 1, by omega, by go_num, hid (by rw [HTS.out]; exact hJ4), hid ((HL3.out.kept hk4)), hid (HO3.out.trans' hk4.1)⟩
              case measure => simp [intOf]; omega
        · obtain rfl : r = k := by omega
          have hk1 : ¬ (r : Int) < (r : Int) := by omega
          gi_wp2
          go_end0
          refine ⟨⟨_, rfl⟩, _, ⟨rfl, ?_⟩, hJk.out⟩
          first | exact HLk.out | (have h := HLk.out; rw [Nat.sub_self] at h; exact h)
/-- What is walked over. -/
theorem nextS_ (n : Nat) (hn : 2 ≤ n) (s qb nb : Nat) (X : Nat → Prop) (hX : X s ∧ ¬ X qb ∧ ¬ X nb) (r m nn : Nat) (pages : Int) (hpg : 1 ≤ pages) (hr : r ≤ m ∧ ((m : Int) ≤ pages ∧ r = m ∨ pages ≤ (m : Int) ∧ (r : Int) = pages)) (L : List Nat) (hm : L.length = m) (hm1 : m ≤ 1000000) (hnn : ∀ x ∈ L, x < nn) (w : World)
    (hqb : w.cell? ⟨qb, 0, none⟩ = some (.pointer (some ⟨s, 0, none⟩))) (hqb1 : qb < w.heap.size) (hnb : w.cell? ⟨nb, 0, none⟩ = some (.int .i64 pages)) (hnb1 : nb < w.heap.size) (hs1 : s < w.heap.size) (hL : LeftAt w s L m w.heap.size X) :
    SeqTurns Fence.wide n Try.prog 70 #[.pointer (some ⟨nb, 0, none⟩), .pointer (some ⟨qb, 0, none⟩)] (fun x : Nat => #[Value.int .i64 ((x % nn : Nat) : Int)]) (KpN X s) (TnN X s L) (fun xs W' => xs = L.take r ∧ LeftAt W' s (L.drop r) (m - r) w.heap.size X) m w := fun l0 J W hW hJ hT hY h0 => by
  have hE : Ext w W := hW
  refine nextA_ n hn l0 s qb nb w.heap.size X hX r m pages hpg hr L hm hm1 J (fun pre x V hx h1 h2 => by have := hY pre x V h1 h2; simp only [Nat.mod_eq_of_lt (hnn x hx)] at this; exact this) W hJ hT hE.size ((hE.cells qb 0 hqb1).trans hqb) hqb1 ((hE.cells nb 0 hnb1).trans hnb) hnb1 hs1 ?_ h0
  obtain ⟨a1, a2, A, ca, a3, a4, a5, a6, a7⟩ := hL
  exact ⟨a1, (hE.frozens s 3 hs1).trans a2, A, ca, (hE.cells s 3 hs1).trans a3, a4.ext hE, a5, a6, a7⟩

end Go.Proofs.Ythamfkbopjagdaa
