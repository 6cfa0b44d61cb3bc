/- Layer 6: to compare. -/
import Derived.Test.YtlapemeoffpmgaaCloA
import Derived.Test.YtlapemeoffpmgaaCloW
import Derived.Sort.Grow
namespace Go.Proofs.Ytlapemeoffpmgaa
set_option linter.unusedSimpArgs false
set_option linter.unusedVariables false
open Go.RowKit

def cmpI (x y : Int) : Int := if x < y then -1 else if y < x then 1 else 0
/-- The first that is not zero. -/
def orL : List Int → Int
  | [] => 0
  | x :: l => if x = 0 then orL l else x
theorem orL_drop {l : List Int} {k : Nat} (h : ∀ j (hj : j < l.length), j < k → l[j] = 0) (hk : k ≤ l.length) : orL l = orL (l.drop k) := by
  induction k with
  | zero => rfl
  | succ k ih =>
    rw [ih (fun j hj h1 => h j hj (by omega)) (by omega), List.drop_eq_getElem_cons (by omega : k < l.length), orL, if_pos (h k (by omega) (by omega))]
/-- The first order: by base, then the greater top, then the greater permissions. -/
def cf1 (c d : Cap) : Int := orL [cmpI c.base d.base, cmpI d.top c.top, cmpI d.perms c.perms]
def cf2 (c d : Cap) : Int := orL [cmpI c.base d.base, cmpI c.top d.top, cmpI c.perms d.perms]
theorem cmpI_neg {x y : Int} : cmpI x y < 0 ↔ x < y := by
  unfold cmpI
  split
  · omega
  · split <;> omega
theorem cmpI_zero {x y : Int} : cmpI x y = 0 ↔ x = y := by
  unfold cmpI
  split
  · omega
  · split <;> omega
theorem orL_neg {x y z : Int} : orL [x, y, z] < 0 ↔ x < 0 ∨ x = 0 ∧ (y < 0 ∨ y = 0 ∧ z < 0) := by
  simp only [orL]
  split
  · split
    · split <;> omega
    · omega
  · omega
theorem cf1_neg {c d : Cap} : cf1 c d < 0 ↔ ord1 c d = true := by
  rw [cf1, orL_neg, cmpI_neg, cmpI_neg, cmpI_neg, cmpI_zero, cmpI_zero, ord1_iff]
  omega
theorem three_grow (w : World) (x y z : Obj) : (((w.alloc x).alloc y).alloc z).drew = Go.Sort.grow (w.drewN 1) #[x, y, z] := by
  simp only [World.alloc, World.drew, World.drewN, Go.Sort.grow, World.mk.injEq, and_true, true_and]
  apply Array.ext' ; simp
theorem cf2_neg {c d : Cap} : cf2 c d < 0 ↔ lexC c d = true := by
  rw [cf2, orL_neg, cmpI_neg, cmpI_neg, cmpI_neg, cmpI_zero, cmpI_zero, lexC_iff]
set_option maxRecDepth 100000 in
set_option maxHeartbeats 4000000 in
theorem ccompare_ (x y : Int) (w : World) : Calls Try.prog 56 #[.int .i64 x, .int .i64 y] w fun e w' => e = .returned (.int .i64 (cmpI x y)) ∧ w = w' := by
  have hn : ∀ (x : Int) (w : World), Calls Try.prog 79 #[.int .i64 x] w fun e w' => e = .returned (.bool false) ∧ w = w' := by
    intro x w
    go_enter Try.func79, Try.ntmps79
    go_wp2
    go_ret
    exact ⟨by simp, rfl⟩
  rcases Int.lt_trichotomy x y with h | h | h
  · have hv : cmpI x y = -1 := by unfold cmpI; rw [if_pos h]
    rw [hv]
    clear hv
    go_enter Try.func56, Try.ntmps56
    go_wp2_with (refine (hn _ _).mono ?_; rintro e w1 ⟨rfl, rfl⟩)
    go_ret
    exact ⟨rfl, rfl⟩
  · subst h
    have hv : cmpI x x = 0 := cmpI_zero.2 rfl
    rw [hv]
    clear hv
    go_enter Try.func56, Try.ntmps56
    go_wp2_with (refine (hn _ _).mono ?_; rintro e w1 ⟨rfl, rfl⟩)
    go_ret
    exact ⟨rfl, rfl⟩
  · have hx : ¬ x < y := by omega
    have hv : cmpI x y = 1 := by unfold cmpI; rw [if_neg hx, if_pos h]
    rw [hv]
    clear hv
    go_enter Try.func56, Try.ntmps56
    go_wp2_with (refine (hn _ _).mono ?_; rintro e w1 ⟨rfl, rfl⟩)
    go_ret
    exact ⟨rfl, rfl⟩
set_option maxRecDepth 100000 in
set_option maxHeartbeats 4000000 in
theorem cor_ (b : Nat) (l : List Int) (n c : Nat) (w : World) (hn : l.length = n) (hz : SlAt w (some ⟨b, 0, none⟩) (l.map (Value.int .i64))) (hl : n ≤ 1000) : Calls Try.prog 55 #[.slice (some ⟨b, 0, none⟩) n c] w fun e w' => e = .returned (.int .i64 (orL l)) ∧ w = w' := by
  subst hn
  have HZ := hid hz
  clear hz
  go_enter Try.func55, Try.ntmps55
  go_wp2
  go_loopw [8] (fun i wr => ∃ k : Nat, k ≤ l.length ∧ i = .int .i64 k ∧ Hid (∀ j (hj : j < l.length), j < k → l[j] = 0) ∧ w = wr) (fun i _ => l.length - (intOf i).toNat)
  case atStart => exact ⟨0, Nat.zero_le _, rfl, hid (fun j _ h => absurd h (by omega)), rfl⟩
  case round =>
    obtain ⟨k, hk, rfl, HP, rfl⟩ := hrel
    by_cases hlt : k < l.length
    · have hk1 : (k : Int) < (l.length : Int) := by omega
      have hk0 : (0 : Int) ≤ (k : Int) := by omega
      obtain ⟨b', o', hb', hb, hcell0⟩ := HZ.out (by rw [List.length_map]; omega)
      obtain ⟨rfl, rfl⟩ : b = b' ∧ 0 = o' := by simpa using hb'
      obtain ⟨z, hz⟩ : ∃ z, l[k] = z := ⟨_, rfl⟩
      have hcell : w.cell? ⟨b, k, none⟩ = some (.int .i64 z) := by
        have hq := hcell0 k (by rw [List.length_map]; omega)
        rw [Nat.zero_add] at hq
        rw [hq, List.getElem_map, hz]
      clear hcell0 hb'
      have HZK := hid hz
      clear hz
      by_cases h0 : z = 0
      · subst h0
        have HP2 : Hid (∀ j (hj : j < l.length), j < k + 1 → l[j] = 0) := hid (fun j hj h1 => by
          rcases Nat.lt_or_ge j k with h2 | h2
          · exact HP.out j hj h2
          · obtain rfl : j = k := by omega
            exact HZK.out)
        go_wp2
        go_roundw
        case rel => exact ⟨k + 1, by omega, by go_num, HP2, by first | rfl | trivial⟩
        case measure => simp [intOf]; omega
      · have hv : orL l = z := by
          rw [orL_drop HP.out hk, List.drop_eq_getElem_cons hlt, HZK.out, orL, if_neg h0]
        have HV := hid hv
        clear hv
        go_wp2
        go_ret
        exact ⟨by rw [HV.out]; rfl, rfl⟩
    · obtain rfl : k = l.length := by omega
      have hv : orL l = 0 := by rw [orL_drop HP.out hk, List.drop_length]; rfl
      have HV := hid hv
      clear hv
      go_wp2
      go_ret
      exact ⟨by rw [HV.out]; rfl, rfl⟩
set_option maxRecDepth 100000 in
set_option maxHeartbeats 4000000 in
theorem cless1_ (t : Bool) (b tp a p ty : Int) (t' : Bool) (b' tp' a' p' ty' : Int) (w : World) : Calls Try.prog 54 #[.agg #[.bool t, .int .i64 b, .int .i64 tp, .int .i64 a, .int .i64 p, .int .i64 ty], .agg #[.bool t', .int .i64 b', .int .i64 tp', .int .i64 a', .int .i64 p', .int .i64 ty']] w fun e w' => e = .returned (.int .i64 (cf1 ⟨t, b, tp, a, p, ty⟩ ⟨t', b', tp', a', p', ty'⟩)) ∧ ∃ q os', w' = Go.Sort.grow (w.drewN q) os' := by
  have hv : cf1 ⟨t, b, tp, a, p, ty⟩ ⟨t', b', tp', a', p', ty'⟩ = orL [cmpI b b', cmpI tp' tp, cmpI p' p] := rfl
  have HC0 : Hid (∀ W, Calls Try.prog 56 #[.int .i64 b, .int .i64 b'] W fun e w' => e = .returned (.int .i64 (cmpI b b')) ∧ W = w') := hid (fun W => ccompare_ b b' W)
  have HC1 : Hid (∀ W, Calls Try.prog 56 #[.int .i64 tp', .int .i64 tp] W fun e w' => e = .returned (.int .i64 (cmpI tp' tp)) ∧ W = w') := hid (fun W => ccompare_ tp' tp W)
  have HC2 : Hid (∀ W, Calls Try.prog 56 #[.int .i64 p', .int .i64 p] W fun e w' => e = .returned (.int .i64 (cmpI p' p)) ∧ W = w') := hid (fun W => ccompare_ p' p W)
  generalize cmpI b b' = z0 at HC0 hv
  generalize cmpI tp' tp = z1 at HC1 hv
  generalize cmpI p' p = z2 at HC2 hv
  rw [hv]
  clear hv
  have HOR : Hid (∀ (W : World) (n : Nat), n = W.heap.size → Calls Try.prog 55 #[.slice (some ⟨n, 0, none⟩) 3 3] ((W.alloc (.cells #[.int .i64 z0, .int .i64 z1, .int .i64 z2] 3)).drew) fun e w' => e = .returned (.int .i64 (orL [z0, z1, z2])) ∧ ((W.alloc (.cells #[.int .i64 z0, .int .i64 z1, .int .i64 z2] 3)).drew) = w') := hid (fun W n hn => cor_ n [z0, z1, z2] 3 3 _ rfl ((slAtNewAt W n hn _ _).ext (Ext.drew (Ext.refl _))) (by decide))
  go_enter Try.func54, Try.ntmps54
  go_upto_region 1 with fail
  refine wp_region_chain (.rd 0 (.rd 1 (.rd 2 (.rd 3 (.rd 5 (.rd 6 (.rd 7 (.rd 8 (.rd 10 (.rd 11 (.rd 12 (.rd 13 (.ac 4 (.ac 9 (.ac 14 (.ac 15 (.ac 16 (.rd 17 .done)))))))))))))))))) (by kernel_rfl) (by kernel_rfl) (fun _ _ d _ _ h => by cases d <;> exact h) (by simp only [Ord.map, nthOp, List.append]; rfl) ?_
  iterate 12 ((refine chain_read (by rfl) (fun K hK => ?_); go_big_quiet_op; refine hK _ ?_; clear hK K))
  refine chain_act (by rfl) (fun K hK => ?_); go_wp2_with (go_at_call 56; with_reducible refine Calls.mono (HC0.out _) ?_; rintro e w1 ⟨rfl, rfl⟩)
  refine ⟨Ext.drew (Ext.refl _), ?_⟩
  refine chain_act (by rfl) (fun K hK => ?_); go_wp2_with (go_at_call 56; with_reducible refine Calls.mono (HC1.out _) ?_; rintro e w1 ⟨rfl, rfl⟩)
  refine ⟨Ext.drew (Ext.refl _), ?_⟩
  refine chain_act (by rfl) (fun K hK => ?_); go_wp2_with (go_at_call 56; with_reducible refine Calls.mono (HC2.out _) ?_; rintro e w1 ⟨rfl, rfl⟩)
  refine ⟨Ext.drew (Ext.refl _), ?_⟩
  refine chain_act (by rfl) (fun K hK => ?_); go_wp2
  refine ⟨(Ext.drew (Ext.refl _)).alloc _, ?_⟩
  refine chain_act (by rfl) (fun K hK => ?_); go_wp2_with fail
  refine (HOR.out _ _ (by simp)).mono ?_
  rintro e w1 ⟨rfl, rfl⟩
  go_wp2
  refine ⟨Ext.drew ((Ext.refl _).alloc _), ?_⟩
  iterate 1 ((refine chain_read (by rfl) (fun K hK => ?_); go_big_quiet_op; refine hK _ ?_; clear hK K))
  refine chain_nil ?_
  go_wp2
  go_ret
  exact ⟨rfl, 1, _, three_grow _ _ _ _⟩
set_option maxRecDepth 100000 in
set_option maxHeartbeats 4000000 in
theorem cless2_ (t : Bool) (b tp a p ty : Int) (t' : Bool) (b' tp' a' p' ty' : Int) (w : World) : Calls Try.prog 57 #[.agg #[.bool t, .int .i64 b, .int .i64 tp, .int .i64 a, .int .i64 p, .int .i64 ty], .agg #[.bool t', .int .i64 b', .int .i64 tp', .int .i64 a', .int .i64 p', .int .i64 ty']] w fun e w' => e = .returned (.int .i64 (cf2 ⟨t, b, tp, a, p, ty⟩ ⟨t', b', tp', a', p', ty'⟩)) ∧ ∃ q os', w' = Go.Sort.grow (w.drewN q) os' := by
  have hv : cf2 ⟨t, b, tp, a, p, ty⟩ ⟨t', b', tp', a', p', ty'⟩ = orL [cmpI b b', cmpI tp tp', cmpI p p'] := rfl
  have HC0 : Hid (∀ W, Calls Try.prog 56 #[.int .i64 b, .int .i64 b'] W fun e w' => e = .returned (.int .i64 (cmpI b b')) ∧ W = w') := hid (fun W => ccompare_ b b' W)
  have HC1 : Hid (∀ W, Calls Try.prog 56 #[.int .i64 tp, .int .i64 tp'] W fun e w' => e = .returned (.int .i64 (cmpI tp tp')) ∧ W = w') := hid (fun W => ccompare_ tp tp' W)
  have HC2 : Hid (∀ W, Calls Try.prog 56 #[.int .i64 p, .int .i64 p'] W fun e w' => e = .returned (.int .i64 (cmpI p p')) ∧ W = w') := hid (fun W => ccompare_ p p' W)
  generalize cmpI b b' = z0 at HC0 hv
  generalize cmpI tp tp' = z1 at HC1 hv
  generalize cmpI p p' = z2 at HC2 hv
  rw [hv]
  clear hv
  have HOR : Hid (∀ (W : World) (n : Nat), n = W.heap.size → Calls Try.prog 55 #[.slice (some ⟨n, 0, none⟩) 3 3] ((W.alloc (.cells #[.int .i64 z0, .int .i64 z1, .int .i64 z2] 3)).drew) fun e w' => e = .returned (.int .i64 (orL [z0, z1, z2])) ∧ ((W.alloc (.cells #[.int .i64 z0, .int .i64 z1, .int .i64 z2] 3)).drew) = w') := hid (fun W n hn => cor_ n [z0, z1, z2] 3 3 _ rfl ((slAtNewAt W n hn _ _).ext (Ext.drew (Ext.refl _))) (by decide))
  go_enter Try.func57, Try.ntmps57
  go_upto_region 1 with fail
  refine wp_region_chain (.rd 0 (.rd 1 (.rd 2 (.rd 3 (.rd 5 (.rd 6 (.rd 7 (.rd 8 (.rd 10 (.rd 11 (.rd 12 (.rd 13 (.ac 4 (.ac 9 (.ac 14 (.ac 15 (.ac 16 (.rd 17 .done)))))))))))))))))) (by kernel_rfl) (by kernel_rfl) (fun _ _ d _ _ h => by cases d <;> exact h) (by simp only [Ord.map, nthOp, List.append]; rfl) ?_
  iterate 12 ((refine chain_read (by rfl) (fun K hK => ?_); go_big_quiet_op; refine hK _ ?_; clear hK K))
  refine chain_act (by rfl) (fun K hK => ?_); go_wp2_with (go_at_call 56; with_reducible refine Calls.mono (HC0.out _) ?_; rintro e w1 ⟨rfl, rfl⟩)
  refine ⟨Ext.drew (Ext.refl _), ?_⟩
  refine chain_act (by rfl) (fun K hK => ?_); go_wp2_with (go_at_call 56; with_reducible refine Calls.mono (HC1.out _) ?_; rintro e w1 ⟨rfl, rfl⟩)
  refine ⟨Ext.drew (Ext.refl _), ?_⟩
  refine chain_act (by rfl) (fun K hK => ?_); go_wp2_with (go_at_call 56; with_reducible refine Calls.mono (HC2.out _) ?_; rintro e w1 ⟨rfl, rfl⟩)
  refine ⟨Ext.drew (Ext.refl _), ?_⟩
  refine chain_act (by rfl) (fun K hK => ?_); go_wp2
  refine ⟨(Ext.drew (Ext.refl _)).alloc _, ?_⟩
  refine chain_act (by rfl) (fun K hK => ?_); go_wp2_with fail
  refine (HOR.out _ _ (by simp)).mono ?_
  rintro e w1 ⟨rfl, rfl⟩
  go_wp2
  refine ⟨Ext.drew ((Ext.refl _).alloc _), ?_⟩
  iterate 1 ((refine chain_read (by rfl) (fun K hK => ?_); go_big_quiet_op; refine hK _ ?_; clear hK K))
  refine chain_nil ?_
  go_wp2
  go_ret
  exact ⟨rfl, 1, _, three_grow _ _ _ _⟩

end Go.Proofs.Ytlapemeoffpmgaa
