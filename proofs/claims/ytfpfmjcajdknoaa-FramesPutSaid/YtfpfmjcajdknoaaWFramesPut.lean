/- The walk of FramesPut. -/
import Derived.Test.YtfpfmjcajdknoaaWFramesFull
import Derived.Test.YtfpfmjcajdknoaaFraQ
import Derived.Test.YtfpfmjcajdknoaaSameC
namespace Go.Proofs.Ytfpfmjcajdknoaa
set_option linter.unusedSimpArgs false
set_option linter.unusedVariables false
open Go.RowKit

open Go.Deep Go.RowKit
theorem cap_ne (c : Cap) (o : Oper) (x y : Operand) (s : TypeId) (ρ : Operand → Value) (ho : o.op = .binOp .neq 29 x y s) (hx : ρ x = .agg c.cells.toArray) (hy : ρ y = .agg c.cells.toArray) (w : World) : (execOp ρ o).run Try.prog w = .ok (.value (.bool false)) w := by
  have hg : (eqGuard .neq 29 x y (.agg c.cells.toArray) (.agg c.cells.toArray)).run Try.prog w = .ok () w := run_eqGuard_agg w _ _ _ _ _ _ (by kernel_rfl)
  have he : (Op.equal 29 (.agg c.cells.toArray) (.agg c.cells.toArray)).run Try.prog w = .ok true w := cap_equal 9998 c.tag c.base c.top c.at_ c.perms c.type w
  unfold execOp
  rw [ho]
  simp only [hx, hy, Sem.run_bind, hg, Result.andThen_ok, binOp, he, Sem.run_pure]
  rfl
namespace framesPut
set_option maxRecDepth 100000 in
set_option maxHeartbeats 8000000 in
theorem walk (A0 : Option Addr) (cap0 : Nat) (zs0 : List FOp) (t1 : Bool) (b1 tp1 at1 pm1 ty1 : Int) (a2 : Int) (w : World) (wl0 : zs0.length ≤ maxLen) (hs0 : SlAtN w A0 38 (zs0.map FOp.cells)) (wz0 : ∀ z ∈ zs0, z.good) (wb1 : (Lit.int .i64 b1).wf = true) (wtp1 : (Lit.int .i64 tp1).wf = true) (wat1 : (Lit.int .i64 at1).wf = true) (wpm1 : (Lit.int .i64 pm1).wf = true) (wty1 : (Lit.int .i64 ty1).wf = true) (w2 : (Lit.int .u8 a2).wf = true) :
    Calls Try.prog 5 #[.slice A0 zs0.length cap0, .agg #[.bool t1, .int .i64 b1, .int .i64 tp1, .int .i64 at1, .int .i64 pm1, .int .i64 ty1], .int .u8 a2] w fun e w' => e = .returned (.bool true) ∧ Ext w w' := by
  unfold maxLen at wl0
  have hu2 := wfu8 w2
  clear w2
  obtain ⟨bf, hbf⟩ : ∃ x, w.heap.size = x := ⟨_, rfl⟩
  have common : ∀ wh w1 : World, Ext (w.alloc (.cells #[.bool t1, .int .i64 b1, .int .i64 tp1, .int .i64 at1, .int .i64 pm1, .int .i64 ty1] 29)) wh → Ext wh w1 → Hid (Ext w w1) ∧ Hid (Row w1 bf 0 [.bool t1, .int .i64 b1, .int .i64 tp1, .int .i64 at1, .int .i64 pm1, .int .i64 ty1]) ∧ bf < wh.heap.size := fun wh w1 h1 h2 =>
    ⟨hid ((Ext.trans (Ext.alloc (Ext.refl w) _) h1).trans h2), hid (by rw [← hbf]; exact ((Row.new w _ _).ext h1).ext h2), by rw [← hbf]; exact ((Row.new w #[.bool t1, .int .i64 b1, .int .i64 tp1, .int .i64 at1, .int .i64 pm1, .int .i64 ty1] 29).ext h1).lt⟩
  by_cases hlen : zs0.length ≤ 300
  · cases hrt : rightC ⟨t1, b1, tp1, at1, pm1, ty1⟩ with
    | false =>
      have HRT := hid hrt
      have hli : ¬ (300 : Int) < (zs0.length : Int) := by omega
      clear hs0 wz0 hrt
      go_enter Try.func5, Try.ntmps5
      go_upto_region 2 with (go_at_call 7; refine Calls.mono (head_ _) ?_; rintro e wh ⟨rfl, hxh⟩)
      (try rw [hbf])
      go_upto_region 3 with (go_at_call 8; refine (new_ _ Z0).mono ?_; rintro e w1 ⟨b, rfl, hwb, hx1, hs1⟩)
      obtain ⟨hE1, hR1, _⟩ := common _ _ hxh hx1
      have hrt2 := HRT.out
      have hld : decide ((300 : Int) < (zs0.length : Int)) = false := decide_eq_false (by omega)
      go_wp2_with (first | (with_reducible refine wpList_load_midG rfl 29 (.tmp 4) rfl bf 0 rfl [.bool t1, .int .i64 b1, .int .i64 tp1, .int .i64 at1, .int .i64 pm1, .int .i64 ty1] _ (hR1.out.range) Try.underlying29 rfl (by kernel_rfl) ?_) | (go_at_call 22; refine (rcapRight _ _ _ _ _ _ _).mono ?_; (try rw [HRT.out]); rintro e w2 ⟨rfl, hx2⟩))
      go_ret
      exact ⟨rfl, hE1.out.trans hx2⟩
    | true =>
      have HRT := hid hrt
      have hrc := hid hrt
      have HSL := hid hs0
      have hli : ¬ (300 : Int) < (zs0.length : Int) := by omega
      clear hs0 wz0 hrt
      go_enter Try.func5, Try.ntmps5
      go_upto_region 2 with (go_at_call 7; refine Calls.mono (head_ _) ?_; rintro e wh ⟨rfl, hxh⟩)
      (try rw [hbf])
      go_upto_region 3 with (go_at_call 8; refine (new_ _ Z0).mono ?_; rintro e w1 ⟨b, rfl, hwb, hx1, hs1⟩)
      obtain ⟨hE1, hR1, hfb⟩ := common _ _ hxh hx1
      have hwbase : w.heap.size ≤ wh.heap.size := by omega
      have hs1 := hid hs1
      clear hxh hx1 common
      generalize wh.heap.size = base at hs1 hwb hwbase hfb
      have hrt2 := HRT.out
      have hld : decide ((300 : Int) < (zs0.length : Int)) = false := decide_eq_false (by omega)
      go_upto_region 5 with (first | (with_reducible refine wpList_load_midG rfl 29 (.tmp 4) rfl bf 0 rfl [.bool t1, .int .i64 b1, .int .i64 tp1, .int .i64 at1, .int .i64 pm1, .int .i64 ty1] _ (hR1.out.range) Try.underlying29 rfl (by kernel_rfl) ?_) | (go_at_call 22; refine (rcapRight _ _ _ _ _ _ _).mono ?_; (try rw [HRT.out]); rintro e w2 ⟨rfl, hx2⟩))
      clear hrt2
      have HS0 := hid (hs1.out.ext hx2)
      have HR0 := hid (hR1.out.ext hx2)
      have HE0 := hid (hE1.out.trans hx2)
      clear hs1 hR1 hE1 hx2
      go_wp2
      go_loopw [9] (fun i wr => ∃ (k n : Nat) (v : Value) (L : Nat → Cap), k ≤ zs0.length ∧ i = .int .i64 k ∧ n ≤ 16 ∧ allR (n * 5) L = true ∧ Hid (Stk wr b base v n L) ∧ Hid (Row wr bf 0 [.bool t1, .int .i64 b1, .int .i64 tp1, .int .i64 at1, .int .i64 pm1, .int .i64 ty1]) ∧ Hid (Ext w wr)) (fun i _ => zs0.length - (intOf i).toNat)
      case atStart => exact ⟨0, 0, _, Z0, Nat.zero_le _, rfl, by omega, allR_iff.2 (fun i hi => absurd hi (by omega)), HS0, HR0, HE0⟩
      case round =>
        clear HS0 HR0 HE0
        obtain ⟨k, n, v, L, hk, rfl, hn, hal, HS, HR, HE⟩ := hrel
        have hlen2 : zs0.length ≤ 300 := hlen
        clear hlen
        by_cases hlt : k < zs0.length
        · obtain ⟨z, hz⟩ : ∃ z, zs0[k] = z := ⟨_, rfl⟩
          obtain ⟨b0, o, rfl, hb0, hop⟩ := FOp.facts HSL.out hlt z hz
          have HOP := hid (Rng.frame (hop.ext HE.out))
          clear hop hz
          have hk1 : (k : Int) < (zs0.length : Int) := by omega
          have hk0 : k + 1 ≤ zs0.length := by omega
          have hk3 : (0 : Int) ≤ (k : Int) := by omega
          rcases Nat.lt_or_ge n 16 with hn16 | hn16
          · cases hrt : allR 5 z.F with
            | false =>
              have hpush : ∀ w', Stk w' b base v n L → Calls Try.prog 15 #[.pointer (some ⟨b, 0, none⟩), .agg (capsList 5 z.F).toArray] w' fun e w'' => e = .returned (.bool false) ∧ Ext w' w'' := fun w' h => push_no b base n v L z.F w' h hn16 hrt
              go_wp2_with (first | (with_reducible refine wpList_load_mid rfl 32 (.tmp 44) rfl b0 (o + k * 38 + 1) rfl (capsList 5 z.F) _ (Rng.range HOP.out) Try.underlying32 rfl (by rw [capsList_length]; kernel_rfl) ?_) | (go_at_call 15; refine Calls.mono (hpush _ HS.out) ?_; rintro e w3 ⟨rfl, hx3⟩))
              go_roundw
              case rel => exact ⟨k + 1, n, v, L, hk0, by go_num, by omega, hal, hid (HS.out.ext hx3), hid (HR.out.ext hx3), hid (HE.out.trans hx3)⟩
              case measure => simp [intOf]; omega
            | true =>
              have hpush : ∀ w', Stk w' b base v n L → Calls Try.prog 15 #[.pointer (some ⟨b, 0, none⟩), .agg (capsList 5 z.F).toArray] w' fun e w'' => ∃ v', e = .returned (.bool true) ∧ Stk w'' b base v' (n + 1) (appL L n z.F) ∧ Only (tch b v) w' w'' ∧ (∀ g, v'.ownBlock = some g → v.ownBlock = some g ∨ w'.heap.size ≤ g) := fun w' h => push_ b base n v L z.F w' h hn16 hrt
              have hal2 : allR ((n + 1) * 5) (appL L n z.F) = true := allR_iff.2 fun i hi => by
                unfold appL
                by_cases h : i < n * 5
                · rw [if_pos h]; exact allR_iff.1 hal i h
                · rw [if_neg h]; exact allR_iff.1 hrt _ (by omega)
              go_wp2_with (first | (with_reducible refine wpList_load_mid rfl 32 (.tmp 44) rfl b0 (o + k * 38 + 1) rfl (capsList 5 z.F) _ (Rng.range HOP.out) Try.underlying32 rfl (by rw [capsList_length]; kernel_rfl) ?_) | (go_at_call 15; refine Calls.mono (hpush _ HS.out) ?_; rintro e w3 ⟨v3, rfl, hs3, ho3, _⟩))
              go_roundw
              case rel => exact ⟨k + 1, n + 1, v3, appL L n z.F, hk0, by go_num, hn16, hal2, hid hs3, hid (HS.out.rowOf HR.out hfb ho3), hid (HS.out.extOf HE.out hwbase ho3)⟩
              case measure => simp [intOf]; omega
          · obtain rfl : n = 16 := by omega
            have hpush : ∀ w', Stk w' b base v 16 L → Calls Try.prog 15 #[.pointer (some ⟨b, 0, none⟩), .agg (capsList 5 z.F).toArray] w' fun e w'' => e = .returned (.bool false) ∧ Ext w' w'' := fun w' h => push_full b base v L z.F w' h
            go_wp2_with (first | (with_reducible refine wpList_load_mid rfl 32 (.tmp 44) rfl b0 (o + k * 38 + 1) rfl (capsList 5 z.F) _ (Rng.range HOP.out) Try.underlying32 rfl (by rw [capsList_length]; kernel_rfl) ?_) | (go_at_call 15; refine Calls.mono (hpush _ HS.out) ?_; rintro e w3 ⟨rfl, hx3⟩))
            go_roundw
            case rel => exact ⟨k + 1, 16, v, L, hk0, by go_num, by omega, hal, hid (HS.out.ext hx3), hid (HR.out.ext hx3), hid (HE.out.trans hx3)⟩
            case measure => simp [intOf]; omega
        · have hk1 : ¬ (k : Int) < (zs0.length : Int) := by omega
          clear HSL hli
          rcases n with _ | n
          · have hz5 : ((0 * 5 : Nat) : Int) = 0 := rfl
            go_wp2_with (go_at_call 12; refine (capsS_ b base v 0 L _ HS.out (by omega)).mono ?_; rintro e w9 ⟨Ac, cc, rfl, hrd9, hx9⟩)
            go_ret
            exact ⟨rfl, HE.out.trans hx9⟩
          · have hn5 : ¬ ((n : Int) + 1) * 5 = 0 := by omega
            obtain ⟨kk, hkk⟩ : ∃ kk : Nat, a2 % (((n : Int) + 1) * 5) = kk := ⟨(a2 % (((n : Int) + 1) * 5)).toNat, by have := Int.emod_nonneg a2 hn5; omega⟩
            have hkk5 : kk < (n + 1) * 5 := by
              have := Int.emod_lt_of_pos a2 (show (0 : Int) < ((n : Int) + 1) * 5 by omega)
              rw [hkk] at this
              omega
            have hkk0 : (0 : Int) ≤ (kk : Int) := by omega
            have hkk1 : (kk : Int) < ((n : Int) + 1) * 5 := by omega
            go_upto_region 10 with (go_at_call 12; refine (caps1_ b base v (n + 1) L _ HS.out (by omega) (by omega)).mono ?_; rintro e w4 ⟨g, cap, rfl, hwg, hgl, hcap, ho4, hx4⟩)
            have hR4 := hid (HR.out.ext hx4)
            have hs4 := hid (HS.out.ext hx4)
            have hE4 := hid (HE.out.trans hx4)
            have hvg : ¬ v.ownBlock = some g := fun h => by have := (HS.out.2.2.2.1.lt g h).2; omega
            have hbg : ¬ b = g := by have := HS.out.1; omega
            have hww : w.heap.size ≤ g := by have := HE.out.size; omega
            clear HR HS HE hx4
            generalize wr.heap.size = bc at ho4 hwg
            go_upto_region 12 with (fail)
            go_upto_region 14 with (first | (with_reducible refine wpList_load_mid rfl 29 (.tmp 4) rfl bf 0 rfl [.bool t1, .int .i64 b1, .int .i64 tp1, .int .i64 at1, .int .i64 pm1, .int .i64 ty1] _ (hR4.out.range) Try.underlying29 rfl (by kernel_rfl) ?_) | (refine wpList_store_mid rfl 29 (.tmp 61) (.tmp 60) rfl g (kk * 6) #[.bool t1, .int .i64 b1, .int .i64 tp1, .int .i64 at1, .int .i64 pm1, .int .i64 ty1] rfl rfl (ownsRow_there ho4.out (by simp; omega)) (by kernel_rfl) (by simp [Value.oneCell']) ?_))
            refine wp_gen (fun W => Hid (Only (fun i => i = g) w4 W) ∧ Hid (W.ownsRow bc 29 6 (.slice (some ⟨g, 0, none⟩) ((n + 1) * 5) cap) ((n + 1) * 5) (capsList ((n + 1) * 5) (upd L kk ⟨t1, b1, tp1, at1, pm1, ty1⟩)))) ⟨hid (Only.setCells (S := fun i => i = g) (.inl rfl) _ _ (Only.refl _ _)), hid (owns_putC (k := kk) ho4.out hkk5 ⟨t1, b1, tp1, at1, pm1, ty1⟩)⟩ ?_
            rintro W5 ⟨ho5, how5⟩
            have hal2 : allR ((n + 1) * 5) (upd L kk ⟨t1, b1, tp1, at1, pm1, ty1⟩) = true := allR_iff.2 fun i hi => by
              unfold upd
              by_cases h : i = kk
              · rw [if_pos h]; exact hrc.out
              · rw [if_neg h]; exact allR_iff.1 hal i hi
            generalize upd L kk ⟨t1, b1, tp1, at1, pm1, ty1⟩ = M at how5 hal2
            have hs5 := hid (hs4.out.only ho5.out hbg (fun g' h h2 => hvg (by rw [h, h2])))
            have hE5 : Hid (Ext w W5) := hid (Ext.only hE4.out ho5.out (by rintro i rfl; exact hww))
            have hrd5 : Hid (RdC W5 (some ⟨g, 0, none⟩) ((n + 1) * 5) M) := hid (by
              obtain ⟨A, ca, e1, hr, _, _⟩ := owns_caps how5.out
              simp only [Value.slice.injEq] at e1
              obtain ⟨rfl, _⟩ := e1
              exact hr)
            have hap : ∀ b' o', (some ⟨g, 0, none⟩ : Option Addr) = some ⟨b', o', none⟩ → ¬ v.ownBlock = some b' := by
              intro b' o' e h
              simp only [Option.some.injEq, Addr.mk.injEq] at e
              exact hvg (by rw [h, e.1])
            clear hs4 hE4 hR4 ho4 ho5 how5 hkk hkk0 hkk1 hkk5
            go_upto_region 16 with (first | (go_at_call 13; refine (put_ b base (n + 1) cap (some ⟨g, 0, none⟩) v L M _ hs5.out (by omega) hrd5.out hcap hap hal2).mono ?_; rintro e w6 ⟨rfl, hs6, ho6⟩; have hrd6 := RdC.only hrd5.out ho6 hvg) | (go_at_call 12; refine (capsS_ b base v (n + 1) M _ hs6 (by omega)).mono ?_; rintro e w7 ⟨Ac, cc, rfl, hrd7, hx7⟩) | (go_at_call 19; refine (same_ Ac (some ⟨g, 0, none⟩) ((n + 1) * 5) cc cap M _ hrd7.out (RdC.ext hrd6 hx7) (by omega)).mono ?_; rintro e w8 ⟨rfl, hx8⟩))
            have hvw : ∀ i, v.ownBlock = some i → w.heap.size ≤ i := fun i h => by have := (hs5.out.2.2.2.1.lt i h).1; omega
            have HE8 := hid (((Ext.only hE5.out ho6 (fun i h => hvw i h)).trans hx7).trans hx8)
            have HS8 := hid ((hs6.ext hx7).ext hx8)
            have HX8 := hid (RdC.ext (RdC.ext hrd6 hx7) hx8)
            clear hrd6 hrd7 hs6 ho6 hs5 hE5 hrd5 hap hvw hx7 hx8 hal2 hal hrc hk1 hk hlt hvg
            go_wp2
            go_loopw [12] (fun i wr => ∃ (m : Nat) (v : Value), m ≤ n + 1 ∧ i = .int .i64 (((m * 5 : Nat) : Int) - 5) ∧ Hid (Stk wr b base v m M) ∧ Hid (RdC wr (some ⟨g, 0, none⟩) ((n + 1) * 5) M) ∧ Hid (Ext w wr)) (fun i _ => (intOf i + 5).toNat)
            case atStart => exact ⟨n + 1, v, Nat.le_refl _, by go_num, HS8, HX8, HE8⟩
            case round =>
              clear HS8 HX8 HE8
              obtain ⟨m, v, hm, hi, HS, HX, HE⟩ := hrel
              rcases m with _ | m
              · obtain rfl := hi
                have hz5 : (((0 * 5 : Nat) : Int) - 5) = -5 := by omega
                rw [hz5]
                go_wp2_with (go_at_call 17; refine (many_ b base _ 0 M _ HS.out).mono ?_; rintro e w9 ⟨rfl, rfl⟩)
                go_ret
                exact ⟨rfl, HE.out⟩
              · obtain ⟨q5, hq5⟩ : ∃ q, m * 5 = q := ⟨_, rfl⟩
                have hi2 : ((((m + 1) * 5 : Nat) : Int) - 5) = (q5 : Int) := by omega
                rw [hi2] at hi
                obtain rfl := hi
                have hq0 : (0 : Int) ≤ (q5 : Int) := by omega
                have hqn : q5 + 5 ≤ (n + 1) * 5 := by omega
                have hqb : (q5 : Int) + 5 ≤ ((n : Int) + 1) * 5 := by omega
                have hqs : (q5 : Int) ≤ 80 := by omega
                obtain ⟨gv, cv, rfl, _, _⟩ := HS.out.2.2.2.1.form (by omega)
                have hpop : ∀ w', Stk w' b base (.slice (some ⟨gv, 0, none⟩) (m + 1) cv) (m + 1) M → Calls Try.prog 10 #[.pointer (some ⟨b, 0, none⟩)] w' fun e w'' => e = .returned (.tuple #[.agg (rowCells M m).toArray, .bool true]) ∧ Only (· = b) w' w'' ∧ w''.cell? ⟨b, 0, none⟩ = some (.slice (some ⟨gv, 0, none⟩) m cv) ∧ w''.frozen? ⟨b, 0, none⟩ = false := fun w' h => pop_ b base gv m cv M w' h (by omega)
                go_upto_region 20 with (first | (go_at_call 10; refine Calls.mono (hpop _ HS.out) ?_; rintro e w3 ⟨rfl, ho3, hc3, hf3⟩) | (with_reducible refine wpList_store_mid rfl 32 (.tmp 13) (.tmp 83) rfl w3.heap.size 0 _ rfl rfl ((there_newAt rfl (by kernel_rfl)).2) (by kernel_rfl) (rowArr_one M m) ?_))
                have hS4 := Stk.popped HS.out ho3 hc3 hf3
                have hE4 := HS.out.extOf HE.out hwbase ho3.tch
                have hX4 := RdC.only HX.out ho3 (fun h => hbg h.symm)
                refine wp_gen (fun W => Hid (Ext w3 W) ∧ Hid (Row W w3.heap.size 0 (rowCells M m))) ⟨hid (Ext.only (Ext.alloc (Ext.refl w3) _) (Only.setCells (S := fun i => i = w3.heap.size) (.inl rfl) _ _ (Only.refl _ _)) (by rintro i rfl; exact Nat.le_refl _)), hid ?hr⟩ ?_
                case hr => exact Row.put (Row.new w3 _ _) (rowCells_length _ _)
                rintro W2 ⟨hx4, hR5⟩
                have hS5 := hid (hS4.ext hx4.out)
                have hE5 := hid (hE4.trans hx4.out)
                have hX5 := hid (RdC.ext hX4 hx4.out)
                clear HS HE HX ho3 hc3 hf3 hS4 hE4 hX4 hx4 hpop
                generalize w3.heap.size = bt at hR5 ⊢
                refine wp_region_step (.rd 0 (.rd 1 (.rd 2 (.rd 3 (.rd 4 (.rd 5 (.rd 6 (.rd 7 (.rd 8 (.rd 9 (.rd 10 (.rd 11 (.rd 12 (.rd 13 (.rd 14 (.rd 15 (.rd 16 (.rd 17 (.rd 18 (.rd 19 (.rd 20 (.rd 21 (.rd 22 (.rd 23 (.rd 24 (.rd 25 (.rd 26 (.rd 27 (.rd 28 (.rd 29 (.rd 30 (.rd 31 (.rd 32 (.rd 33 (.rd 34 (.rd 35 (.rd 36 (.rd 37 (.rd 38 (.rd 39 (.rd 40 (.rd 41 (.rd 42 (.rd 43 (.rd 44 (.rd 45 (.rd 46 (.rd 47 (.rd 48 (.rd 49 (.rd 50 (.rd 51 (.rd 52 (.rd 53 (.rd 54 .done))))))))))))))))))))))))))))))))))))))))))))))))))))))) (by kernel_rfl) (by kernel_rfl) (fun _ _ d _ _ h => by cases d <;> exact h) (by simp only [Ord.map, nthOp, List.append]; rfl) ?_
                intro d0
                have hS6 := hid (hS5.out.ext (Ext.grow (Ext.refl W2) d0))
                have hE6 := hid (hE5.out.trans (Ext.grow (Ext.refl W2) d0))
                have hX6 := hid (RdC.ext hX5.out (Ext.grow (Ext.refl W2) d0))
                have hRW := hR5.out.ext (Ext.grow (Ext.refl W2) d0)
                clear hS5 hE5 hX5 hR5
                generalize Go.Proofs.Ytfpfmjcajdknoaa.grow W2 d0 = W3 at hS6 hE6 hX6 hRW ⊢
                have hrow : ∀ j, j < 5 → ∀ i v, (M (q5 + j)).cells[i]? = some v → (rowCells M m)[6 * j + i]? = some v := fun j hj i v hv => by
                  have hlt := (List.getElem?_eq_some_iff.1 hv).1
                  rw [cells_length] at hlt
                  have := capsList_at 5 (fun i => M (m * 5 + i)) j i hj hlt
                  rw [show j * 6 + i = 6 * j + i by omega, hq5] at this
                  show (capsList 5 fun i => M (m * 5 + i))[6 * j + i]? = some v
                  rw [hq5]
                  exact this.trans hv
                have hxx : ∀ j, j < 5 → Rng W3 g ((q5 + j) * 6) (M (q5 + j)).cells := fun j hj => by
                  obtain ⟨b', o', e, hr⟩ := hX6.out (by omega)
                  simp only [Option.some.injEq, Addr.mk.injEq, and_true] at e
                  obtain ⟨rfl, rfl⟩ := e
                  have := hr (q5 + j) (by omega)
                  rwa [Nat.zero_add] at this
                have hf0 : Hid (Rng W3 bt 0 (M q5).cells) := hid (by have := hRW.six_at (o := 0) (k := 0) (us := (M q5).cells) (by omega) (fun i v hi => hrow 0 (by omega) i v hi); simpa using this)
                have hx0 : Hid (Rng W3 g (q5 * 6) (M q5).cells) := hid (hxx 0 (by omega))
                have hb0 : (q5 : Int) + 0 < ((n : Int) + 1) * 5 := by omega
                have hf1 : Hid (Rng W3 bt 6 (M (q5 + 1)).cells) := hid (by have := hRW.six_at (o := 0) (k := 6) (us := (M (q5 + 1)).cells) (by omega) (fun i v hi => hrow 1 (by omega) i v hi); simpa using this)
                have hx1 : Hid (Rng W3 g ((q5 + 1) * 6) (M (q5 + 1)).cells) := hid (hxx 1 (by omega))
                have hb1 : (q5 : Int) + 1 < ((n : Int) + 1) * 5 := by omega
                have hf2 : Hid (Rng W3 bt 12 (M (q5 + 2)).cells) := hid (by have := hRW.six_at (o := 0) (k := 12) (us := (M (q5 + 2)).cells) (by omega) (fun i v hi => hrow 2 (by omega) i v hi); simpa using this)
                have hx2 : Hid (Rng W3 g ((q5 + 2) * 6) (M (q5 + 2)).cells) := hid (hxx 2 (by omega))
                have hb2 : (q5 : Int) + 2 < ((n : Int) + 1) * 5 := by omega
                have hf3 : Hid (Rng W3 bt 18 (M (q5 + 3)).cells) := hid (by have := hRW.six_at (o := 0) (k := 18) (us := (M (q5 + 3)).cells) (by omega) (fun i v hi => hrow 3 (by omega) i v hi); simpa using this)
                have hx3 : Hid (Rng W3 g ((q5 + 3) * 6) (M (q5 + 3)).cells) := hid (hxx 3 (by omega))
                have hb3 : (q5 : Int) + 3 < ((n : Int) + 1) * 5 := by omega
                have hf4 : Hid (Rng W3 bt 24 (M (q5 + 4)).cells) := hid (by have := hRW.six_at (o := 0) (k := 24) (us := (M (q5 + 4)).cells) (by omega) (fun i v hi => hrow 4 (by omega) i v hi); simpa using this)
                have hx4 : Hid (Rng W3 g ((q5 + 4) * 6) (M (q5 + 4)).cells) := hid (hxx 4 (by omega))
                have hb4 : (q5 : Int) + 4 < ((n : Int) + 1) * 5 := by omega
                clear hrow hxx hRW
                repeat' (first
                  | (refine step_read (by rfl) (fun K hK => ?_); refine quiet_loadC 29 (.tmp 88) rfl bt 0 rfl (M q5).cells _ (fun w' hw' => (hf0.out.ext (Grown.ext hw')).range) Try.underlying29 rfl (by kernel_rfl) ?_; refine hK _ ?_; clear hK K; simp only [Act.put, List.setIfInBounds_toArray, List.set_cons_zero, List.set_cons_succ])
                  | (refine step_read (by rfl) (fun K hK => ?_); refine quiet_loadC 29 (.tmp 98) rfl bt 6 rfl (M (q5 + 1)).cells _ (fun w' hw' => (hf1.out.ext (Grown.ext hw')).range) Try.underlying29 rfl (by kernel_rfl) ?_; refine hK _ ?_; clear hK K; simp only [Act.put, List.setIfInBounds_toArray, List.set_cons_zero, List.set_cons_succ])
                  | (refine step_read (by rfl) (fun K hK => ?_); refine quiet_loadC 29 (.tmp 109) rfl bt 12 rfl (M (q5 + 2)).cells _ (fun w' hw' => (hf2.out.ext (Grown.ext hw')).range) Try.underlying29 rfl (by kernel_rfl) ?_; refine hK _ ?_; clear hK K; simp only [Act.put, List.setIfInBounds_toArray, List.set_cons_zero, List.set_cons_succ])
                  | (refine step_read (by rfl) (fun K hK => ?_); refine quiet_loadC 29 (.tmp 120) rfl bt 18 rfl (M (q5 + 3)).cells _ (fun w' hw' => (hf3.out.ext (Grown.ext hw')).range) Try.underlying29 rfl (by kernel_rfl) ?_; refine hK _ ?_; clear hK K; simp only [Act.put, List.setIfInBounds_toArray, List.set_cons_zero, List.set_cons_succ])
                  | (refine step_read (by rfl) (fun K hK => ?_); refine quiet_loadC 29 (.tmp 131) rfl bt 24 rfl (M (q5 + 4)).cells _ (fun w' hw' => (hf4.out.ext (Grown.ext hw')).range) Try.underlying29 rfl (by kernel_rfl) ?_; refine hK _ ?_; clear hK K; simp only [Act.put, List.setIfInBounds_toArray, List.set_cons_zero, List.set_cons_succ])
                  | (refine step_read (by rfl) (fun K hK => ?_); refine quiet_loadC 29 (.tmp 92) rfl g (q5 * 6) rfl (M q5).cells _ (fun w' hw' => (hx0.out.ext (Grown.ext hw')).range) Try.underlying29 rfl (by kernel_rfl) ?_; refine hK _ ?_; clear hK K; simp only [Act.put, List.setIfInBounds_toArray, List.set_cons_zero, List.set_cons_succ])
                  | (refine step_read (by rfl) (fun K hK => ?_); refine quiet_loadC 29 (.tmp 103) rfl g ((q5 + 1) * 6) rfl (M (q5 + 1)).cells _ (fun w' hw' => (hx1.out.ext (Grown.ext hw')).range) Try.underlying29 rfl (by kernel_rfl) ?_; refine hK _ ?_; clear hK K; simp only [Act.put, List.setIfInBounds_toArray, List.set_cons_zero, List.set_cons_succ])
                  | (refine step_read (by rfl) (fun K hK => ?_); refine quiet_loadC 29 (.tmp 114) rfl g ((q5 + 2) * 6) rfl (M (q5 + 2)).cells _ (fun w' hw' => (hx2.out.ext (Grown.ext hw')).range) Try.underlying29 rfl (by kernel_rfl) ?_; refine hK _ ?_; clear hK K; simp only [Act.put, List.setIfInBounds_toArray, List.set_cons_zero, List.set_cons_succ])
                  | (refine step_read (by rfl) (fun K hK => ?_); refine quiet_loadC 29 (.tmp 125) rfl g ((q5 + 3) * 6) rfl (M (q5 + 3)).cells _ (fun w' hw' => (hx3.out.ext (Grown.ext hw')).range) Try.underlying29 rfl (by kernel_rfl) ?_; refine hK _ ?_; clear hK K; simp only [Act.put, List.setIfInBounds_toArray, List.set_cons_zero, List.set_cons_succ])
                  | (refine step_read (by rfl) (fun K hK => ?_); refine quiet_loadC 29 (.tmp 136) rfl g ((q5 + 4) * 6) rfl (M (q5 + 4)).cells _ (fun w' hw' => (hx4.out.ext (Grown.ext hw')).range) Try.underlying29 rfl (by kernel_rfl) ?_; refine hK _ ?_; clear hK K; simp only [Act.put, List.setIfInBounds_toArray, List.set_cons_zero, List.set_cons_succ])
                  | (refine step_read (by rfl) (fun K hK => ?_); refine quiet_run (.bool false) (cap_ne (M q5) _ (.tmp 89) (.tmp 93) 29 _ rfl rfl rfl) ?_; refine hK _ ?_; clear hK K; simp only [Act.put, List.setIfInBounds_toArray, List.set_cons_zero, List.set_cons_succ])
                  | (refine step_read (by rfl) (fun K hK => ?_); refine quiet_run (.bool false) (cap_ne (M (q5 + 1)) _ (.tmp 99) (.tmp 104) 29 _ rfl rfl rfl) ?_; refine hK _ ?_; clear hK K; simp only [Act.put, List.setIfInBounds_toArray, List.set_cons_zero, List.set_cons_succ])
                  | (refine step_read (by rfl) (fun K hK => ?_); refine quiet_run (.bool false) (cap_ne (M (q5 + 2)) _ (.tmp 110) (.tmp 115) 29 _ rfl rfl rfl) ?_; refine hK _ ?_; clear hK K; simp only [Act.put, List.setIfInBounds_toArray, List.set_cons_zero, List.set_cons_succ])
                  | (refine step_read (by rfl) (fun K hK => ?_); refine quiet_run (.bool false) (cap_ne (M (q5 + 3)) _ (.tmp 121) (.tmp 126) 29 _ rfl rfl rfl) ?_; refine hK _ ?_; clear hK K; simp only [Act.put, List.setIfInBounds_toArray, List.set_cons_zero, List.set_cons_succ])
                  | (refine step_read (by rfl) (fun K hK => ?_); refine quiet_run (.bool false) (cap_ne (M (q5 + 4)) _ (.tmp 132) (.tmp 137) 29 _ rfl rfl rfl) ?_; refine hK _ ?_; clear hK K; simp only [Act.put, List.setIfInBounds_toArray, List.set_cons_zero, List.set_cons_succ])
                  | (refine step_read (by rfl) (fun K hK => ?_); go_big_quiet_op; refine hK _ ?_; clear hK K))
                refine step_nil ?_
                clear hf0 hf1 hf2 hf3 hf4 hx0 hx1 hx2 hx3 hx4 hb0 hb1 hb2 hb3 hb4
                go_wp2
                go_roundw
                case rel => exact ⟨m, _, by omega, by rw [hq5], hS6, hX6, hE6⟩
                case measure => simp [intOf]; omega
  · have hli : (300 : Int) < (zs0.length : Int) := by omega
    clear hs0 wz0
    go_enter Try.func5, Try.ntmps5
    go_wp2_with (first | (go_at_call 7; refine Calls.mono (head_ _) ?_; rintro e wh ⟨rfl, hxh⟩) | (go_at_call 8; refine (new_ _ Z0).mono ?_; rintro e w1 ⟨b, rfl, hwb, hx1, hs1⟩))
    go_ret
    exact ⟨rfl, (Ext.trans (Ext.alloc (Ext.refl w) _) hxh).trans hx1⟩
end framesPut

end Go.Proofs.Ytfpfmjcajdknoaa
