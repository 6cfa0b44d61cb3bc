/- The walk of the law AccessSteps. -/
import Derived.Test.YtiihoffboeomaaaHead05
import Derived.Test.YtiihoffboeomaaaAccN
import Derived.Test.YtiihoffboeomaaaH
import Derived.Test.YtiihoffboeomaaaStep
import Derived.Deep.MidRow
import Derived.Deep.DeepCutAuto
namespace Go.Proofs.Ytiihoffboeomaaa
set_option linter.unusedSimpArgs false
set_option linter.unusedVariables false
open Go.RowKit
theorem wp_gen {P : Program} {a : Act} {Q : Exit → Act → World → Prop} {c : Code} {w : World} (I : World → Prop) (hI : I w) (h : ∀ w', I w' → c.wp P Q a w') : c.wp P Q a w := h w hI
theorem there_newAt {w : World} {b : Nat} {cs : Array Value} {T : TypeId} {n : Nat} (hb : b = w.heap.size) (h : cs.size = n) : b < (w.alloc (.cells cs T)).heap.size ∧ (w.alloc (.cells cs T)).there b 0 n := by
  subst hb
  refine ⟨by simp, fun j hj => ?_⟩
  have hj2 : j < cs.size := by omega
  constructor
  · simp [go_sem, hj2]
  · simp [go_sem]
theorem Row.new (w : World) (cs : Array Value) (T : TypeId) : Row (w.alloc (.cells cs T)) w.heap.size 0 cs.toList :=
  ⟨by simp, fun j v hj => by rw [Nat.zero_add]; simpa [go_sem] using hj, fun j hj => by rw [Nat.zero_add]; simp [go_sem]⟩
structure Rng (w : World) (b o : Nat) (vs : List Value) : Prop where
  lt : b < w.heap.size
  at_ : ∀ j v, vs[j]? = some v → w.cell? ⟨b, o + j, none⟩ = some v
theorem Rng.range {w : World} {b o : Nat} {vs : List Value} (h : Rng w b o vs) : w.rangeAt b o vs := h.at_
theorem Row.rng {w : World} {b o : Nat} {vs : List Value} (h : Row w b o vs) : Rng w b o vs := ⟨h.lt, h.at_⟩
theorem Rng.ext {w w' : World} {b o : Nat} {vs : List Value} (h : Rng w b o vs) (x : Ext w w') : Rng w' b o vs := ⟨Nat.lt_of_lt_of_le h.lt x.size, fun j v hj => by rw [x.cells b _ h.lt]; exact h.at_ j v hj⟩
theorem rng6 {w : World} {g : Nat} {a0 a1 a2 a3 a4 a5 : Value} (hg : g < w.heap.size) (h0 : w.cell? ⟨g, 0, none⟩ = some a0) (h1 : w.cell? ⟨g, 1, none⟩ = some a1) (h2 : w.cell? ⟨g, 2, none⟩ = some a2) (h3 : w.cell? ⟨g, 3, none⟩ = some a3) (h4 : w.cell? ⟨g, 4, none⟩ = some a4) (h5 : w.cell? ⟨g, 5, none⟩ = some a5) : Rng w g 0 [a0, a1, a2, a3, a4, a5] :=
  ⟨hg, fun j v hj => by
    have hlt := (List.getElem?_eq_some_iff.1 hj).1
    rw [Nat.zero_add]
    match j, hlt with
    | 0, _ => rw [h0]; simpa using hj
    | 1, _ => rw [h1]; simpa using hj
    | 2, _ => rw [h2]; simpa using hj
    | 3, _ => rw [h3]; simpa using hj
    | 4, _ => rw [h4]; simpa using hj
    | 5, _ => rw [h5]; simpa using hj⟩
theorem wf16 {n : Int} (h : (Lit.int .i16 n).wf = true) : -32768 ≤ n ∧ n ≤ 32767 := by
  simpa [Lit.wf, IntKind.min, IntKind.max, IntKind.signed, IntKind.bits] using h
theorem step_facts {t : Bool} {b tp a p ty n : Int} (h : stepB ⟨t, b, tp, a, p, ty⟩ n = true) (h1 : -32768 ≤ n) (h2 : n ≤ 32767) :
    wrap64 (a + n) = a + n ∧ b ≤ a + n ∧ a + n ≤ tp ∧ wrap64 (a + n + -n) = a ∧ stepB ⟨t, b, tp, a + n, p, ty⟩ (-n) = (decide (b ≤ a) && decide (a ≤ tp)) ∧ 0 ≤ b ∧ tp ≤ 4294967295 ∧ 0 ≤ a ∧ a ≤ 4294967295 := by
  simp only [stepB, rightC, holdsB, nearB, Bool.and_eq_true, decide_eq_true_eq] at h
  obtain ⟨⟨⟨⟨⟨hr, ht⟩, hty⟩, hn⟩, hb⟩, htp⟩ := h
  obtain ⟨⟨⟨⟨⟨⟨⟨r1, r2⟩, r3, r4⟩, r5, r6⟩, r7⟩, r8⟩, r9⟩, r10⟩ := hr
  subst ht hty
  have e : wrap64 (a + n) = a + n := by simp [wrap64]; omega
  rw [e] at hb htp
  have e2 : wrap64 (a + n + -n) = a := by rw [show a + n + -n = a by omega]; simp [wrap64]; omega
  refine ⟨e, hb, htp, e2, ?_, r1, r4, r5, r6⟩
  have hr2 : rightC ⟨true, b, tp, a + n, p, 0⟩ = true := by
    simp only [rightC, holdsB, Bool.and_eq_true, decide_eq_true_eq]
    exact ⟨⟨⟨⟨⟨⟨⟨r1, r2⟩, r3, r4⟩, by omega, by omega⟩, r7⟩, r8⟩, r9⟩, r10⟩
  simp only [stepB, hr2, e2, nearB]
  have h3 : decide (-65536 ≤ -n) = true := decide_eq_true (by omega)
  have h4 : decide (-n ≤ 65536) = true := decide_eq_true (by omega)
  have h5 : n ≤ 65536 := by omega
  simp [h3, h4, h5]
theorem Row.putNew {w : World} {b : Nat} {vs us : List Value} (h : Row w b 0 vs) (hl : us.length = vs.length) : Row (w.setCells b 0 us) b 0 us := by
  refine ⟨?_, World.rangeAt_setCells_same w b 0 us (by rw [hl]; exact h.there), fun j hj => ?_⟩
  · have : ∀ (us : List Value) (o : Nat) (w : World), (w.setCells b o us).heap.size = w.heap.size := fun us => by
      induction us with
      | nil => intro o w; rfl
      | cons u us ih => intro o w; simp only [World.setCells]; rw [ih]; simp
    rw [this]; exact h.lt
  · rw [World.frozen?_setCells]; exact h.free j (by omega)
namespace accessSteps
set_option maxRecDepth 100000 in
set_option maxHeartbeats 8000000 in
theorem walk (t0 : Bool) (b0 tp0 at0 pm0 ty0 : Int) (A1 : Option Addr) (cap1 : Nat) (zs1 : List Int) (w : World) (wb0 : (Lit.int .i64 b0).wf = true) (wtp0 : (Lit.int .i64 tp0).wf = true) (wat0 : (Lit.int .i64 at0).wf = true) (wpm0 : (Lit.int .i64 pm0).wf = true) (wty0 : (Lit.int .i64 ty0).wf = true) (wl1 : zs1.length ≤ maxLen) (hs1 : SlAt w A1 (zs1.map (Value.int .i16))) (wz1 : ∀ z ∈ zs1, (Lit.int .i16 z).wf = true) :
    Calls Try.prog 7 #[.agg #[.bool t0, .int .i64 b0, .int .i64 tp0, .int .i64 at0, .int .i64 pm0, .int .i64 ty0], .slice A1 zs1.length cap1] w fun e w' => e = .returned (.bool true) ∧ Ext w w' := by
  unfold maxLen at wl1
  clear wb0 wtp0 wat0 wpm0 wty0
  by_cases hlen : zs1.length ≤ 500
  · have HSL := hid hs1
    have HZ := hid wz1
    clear hs1 wz1
    obtain ⟨cb, hcb⟩ : ∃ x, w.heap.size = x := ⟨_, rfl⟩
    go_enter Try.func7, Try.ntmps7
    go_upto_region 2 with (go_at_call 10; refine (head _).mono ?_; rintro e wh ⟨rfl, hxh⟩)
    have hR0 := (Row.new w #[.bool t0, .int .i64 b0, .int .i64 tp0, .int .i64 at0, .int .i64 pm0, .int .i64 ty0] 23).ext hxh
    rw [hcb] at hR0
    have hE0 := Ext.trans (Ext.alloc (Ext.refl w) _) hxh
    have hsz : w.heap.size ≤ wh.heap.size := hE0.size
    clear hxh
    go_upto_region 5 with (first | (with_reducible refine wpList_load_mid rfl 23 (.tmp 2) rfl cb 0 rfl [.bool t0, .int .i64 b0, .int .i64 tp0, .int .i64 at0, .int .i64 pm0, .int .i64 ty0] _ (hR0.range) Try.underlying23 rfl (by kernel_rfl) ?_) | (with_reducible refine wpList_store_mid rfl 23 (.tmp 6) (.tmp 17) rfl wh.heap.size 0 #[.bool t0, .int .i64 b0, .int .i64 tp0, .int .i64 at0, .int .i64 pm0, .int .i64 ty0] rfl rfl ((there_newAt rfl (by kernel_rfl)).2) (by kernel_rfl) (by simp [Value.oneCell']) ?_))
    refine wp_gen (fun W => Hid (Ext w W) ∧ Hid (Row W cb 0 [.bool t0, .int .i64 b0, .int .i64 tp0, .int .i64 at0, .int .i64 pm0, .int .i64 ty0]) ∧ Hid (Row W wh.heap.size 0 [.bool t0, .int .i64 b0, .int .i64 tp0, .int .i64 at0, .int .i64 pm0, .int .i64 ty0])) ⟨hid ?h1, hid ?h2, hid ?h3⟩ ?_
    case h1 => exact Ext.only (Ext.alloc hE0 _) (Only.setCells (S := fun i => i = wh.heap.size) (.inl rfl) _ _ (Only.refl _ _)) (by rintro i rfl; exact hsz)
    case h2 => exact (hR0.ext (Ext.alloc (Ext.refl wh) _)).only (Only.setCells (S := fun i => i = wh.heap.size) (.inl rfl) _ _ (Only.refl _ _)) (by have := hR0.lt; omega)
    case h3 => exact Row.putNew (Row.new wh _ _) rfl
    rintro W1 ⟨hE1, hR1, hX1⟩
    have hne : ¬ cb = wh.heap.size := by have := hR0.lt; omega
    have hwx : w.heap.size ≤ wh.heap.size := hsz
    clear hR0 hE0 hsz
    generalize wh.heap.size = xb at hX1 hne hwx ⊢
    go_wp2
    go_loopw [7] (fun i wr => ∃ (k : Nat) (a : Int), k ≤ zs1.length ∧ i = .int .i64 k ∧ Hid (Ext w wr) ∧ Hid (Row wr cb 0 [.bool t0, .int .i64 b0, .int .i64 tp0, .int .i64 at0, .int .i64 pm0, .int .i64 ty0]) ∧ Hid (Row wr xb 0 [.bool t0, .int .i64 b0, .int .i64 tp0, .int .i64 a, .int .i64 pm0, .int .i64 ty0])) (fun i _ => zs1.length - (intOf i).toNat)
    case atStart => exact ⟨0, at0, Nat.zero_le _, rfl, hE1, hR1, hX1⟩
    case round =>
      clear hE1 hR1 hX1
      obtain ⟨k, a, hk, rfl, HE, HR, HX⟩ := hrel
      have hlen2 : zs1.length ≤ 500 := hlen
      clear hlen
      by_cases hlt : k < zs1.length
      · obtain ⟨b1, o1, rfl, hb1, hc1⟩ := HSL.out (by simpa using Nat.lt_of_le_of_lt (Nat.zero_le _) hlt)
        obtain ⟨n, hn⟩ : ∃ n, zs1[k] = n := ⟨_, rfl⟩
        have hcell := (HE.out.cells b1 (o1 + k) hb1).trans (hc1 k (by simpa using hlt))
        simp only [List.getElem_map, hn] at hcell
        obtain ⟨hn1, hn2⟩ := wf16 (HZ.out n (hn ▸ List.getElem_mem hlt))
        have hk1 : (k : Int) < (zs1.length : Int) := by omega
        have hk0 : k + 1 ≤ zs1.length := by omega
        have hk3 : (0 : Int) ≤ (k : Int) := by omega
        have hb1r : b1 < wr.heap.size := Nat.lt_of_lt_of_le hb1 HE.out.size
        clear hc1 hn
        have x0 : wr.cell? ⟨xb, 0, none⟩ = some (.bool t0) := by have := HX.out.at_ 0 _ rfl; simpa using this
        have x1 : wr.cell? ⟨xb, 1, none⟩ = some (.int .i64 b0) := by have := HX.out.at_ 1 _ rfl; simpa using this
        have x2 : wr.cell? ⟨xb, 2, none⟩ = some (.int .i64 tp0) := by have := HX.out.at_ 2 _ rfl; simpa using this
        have x3 : wr.cell? ⟨xb, 3, none⟩ = some (.int .i64 a) := by have := HX.out.at_ 3 _ rfl; simpa using this
        have x4 : wr.cell? ⟨xb, 4, none⟩ = some (.int .i64 pm0) := by have := HX.out.at_ 4 _ rfl; simpa using this
        have x5 : wr.cell? ⟨xb, 5, none⟩ = some (.int .i64 ty0) := by have := HX.out.at_ 5 _ rfl; simpa using this
        have hxl := HX.out.lt
        go_upto_region 8 with (fail)
        cases S : stepB ⟨t0, b0, tp0, a, pm0, ty0⟩ n with
        | false =>
          have hst : ∀ w', Calls Try.prog 13 #[.agg #[.bool t0, .int .i64 b0, .int .i64 tp0, .int .i64 a, .int .i64 pm0, .int .i64 ty0], .int .i64 n] w' fun e w'' => e = .returned (.tuple #[.agg #[.bool false, .int .i64 0, .int .i64 0, .int .i64 0, .int .i64 0, .int .i64 0], .bool false]) ∧ Ext w' w'' := fun w' => (accStep _ _ _ _ _ _ _ w').mono (by rintro e w'' ⟨rfl, hy⟩; exact ⟨by simp [stepC, Cap.z, S], hy⟩)
          clear S
          go_cut [8, 9] (fun s8 s9 wx => ∃ g : Nat, s8 = .pointer (some ⟨g, 0, none⟩) ∧ s9 = .bool false ∧ Hid (Ext wr wx))
          case first =>
            refine wp_region_step (.rd 0 (.rd 1 (.rd 2 (.rd 3 (.rd 4 (.rd 5 (.br 6 (.rd 7 (.rd 8 (.rd 9 (.ac 10 (.ac 11 (.rd 12 .done)))))) 10 (.ac 6 (.rd 7 (.rd 8 (.rd 9 (.ac 11 (.rd 12 .done))))))))))))) (by kernel_rfl) (by kernel_rfl) (fun _ _ d _ _ h => by cases d <;> exact h) (by simp only [Ord.map, nthOp, List.append]; rfl) ?_
            intro d0
            repeat' (first | (refine step_read (by rfl) (fun K hK => ?_); go_big_quiet_op; refine hK _ ?_; clear hK K) | (refine step_act (by rfl) (fun K hK => ?_); go_wp2_with (go_at_call 13; refine Calls.mono (hst _) ?_; rintro e w1 ⟨rfl, hy1⟩; obtain ⟨d1, rfl⟩ := hy1.grown; clear hy1); refine ⟨_, Ext.refl _, (by repeat (first | (with_reducible exact Ext.refl _) | (with_reducible refine Ext.undrew ?_) | (with_reducible refine Ext.grow ?_ _) | (with_reducible refine Ext.drew ?_) | (with_reducible refine Ext.drewN ?_ _) | (with_reducible refine Ext.alloc ?_ _) | (with_reducible assumption) | ((with_reducible refine Ext.setCell ?_ ?_ _); rotate_left; (first | exact Nat.le_refl _ | ((try dsimp only); (try simp only [World.size_alloc, grow_size, World.size_setCell]); omega))))), ?_⟩) | refine step_br ?_ ?_)
            all_goals refine step_nil ?_
            all_goals (go_wp2_with fail; go_meet; exact ⟨_, rfl, rfl, hid (by repeat (first | (with_reducible exact Ext.refl _) | (with_reducible refine Ext.undrew ?_) | (with_reducible refine Ext.grow ?_ _) | (with_reducible refine Ext.drew ?_) | (with_reducible refine Ext.drewN ?_ _) | (with_reducible refine Ext.alloc ?_ _) | (with_reducible assumption) | ((with_reducible refine Ext.setCell ?_ ?_ _); rotate_left; (first | exact Nat.le_refl _ | ((try dsimp only); (try simp only [World.size_alloc, grow_size, World.size_setCell]); omega)))))⟩)
          case rest =>
            obtain ⟨g, rfl, rfl, hxc⟩ := hcut
            go_wp2
            go_roundw
            case rel => exact ⟨k + 1, a, hk0, by go_num, hid (HE.out.trans hxc.out), hid (HR.out.ext hxc.out), hid (HX.out.ext hxc.out)⟩
            case measure => simp [intOf]; omega
        | true =>
          obtain ⟨f1, f2, f3, f4, f5, f6, f7, f8, f9⟩ := step_facts S hn1 hn2
          have hst : ∀ w', Calls Try.prog 13 #[.agg #[.bool t0, .int .i64 b0, .int .i64 tp0, .int .i64 a, .int .i64 pm0, .int .i64 ty0], .int .i64 n] w' fun e w'' => e = .returned (.tuple #[.agg #[.bool t0, .int .i64 b0, .int .i64 tp0, .int .i64 (a + n), .int .i64 pm0, .int .i64 ty0], .bool true]) ∧ Ext w' w'' := fun w' => (accStep _ _ _ _ _ _ _ w').mono (by rintro e w'' ⟨rfl, hy⟩; exact ⟨by simp [stepC, Cap.z, S, f1], hy⟩)
          clear S
          have hwn : wrap64 (-n) = -n := by simp [wrap64]; omega
          generalize a + n = a1 at f1 f2 f3 f4 f5 hst
          have HF4 := hid f4
          have HF5 := hid f5
          have HWN := hid hwn
          have g1 : ¬ a1 < b0 := by omega
          have g2 : ¬ tp0 < a1 := by omega
          clear f1 f4 f5 hwn f6 f7 f8 f9
          go_cut [8, 9] (fun s8 s9 wx => ∃ g : Nat, s8 = .pointer (some ⟨g, 0, none⟩) ∧ s9 = .bool true ∧ wr.heap.size ≤ g ∧ Hid (Ext wr wx) ∧ Hid (Rng wx g 0 [.bool t0, .int .i64 b0, .int .i64 tp0, .int .i64 a1, .int .i64 pm0, .int .i64 ty0]))
          case first =>
            refine wp_region_step (.rd 0 (.rd 1 (.rd 2 (.rd 3 (.rd 4 (.rd 5 (.br 6 (.rd 7 (.rd 8 (.rd 9 (.ac 10 (.ac 11 (.rd 12 .done)))))) 10 (.ac 6 (.rd 7 (.rd 8 (.rd 9 (.ac 11 (.rd 12 .done))))))))))))) (by kernel_rfl) (by kernel_rfl) (fun _ _ d _ _ h => by cases d <;> exact h) (by simp only [Ord.map, nthOp, List.append]; rfl) ?_
            intro d0
            repeat' (first | (refine step_read (by rfl) (fun K hK => ?_); go_big_quiet_op; refine hK _ ?_; clear hK K) | (refine step_act (by rfl) (fun K hK => ?_); go_wp2_with (go_at_call 13; refine Calls.mono (hst _) ?_; rintro e w1 ⟨rfl, hy1⟩; obtain ⟨d1, rfl⟩ := hy1.grown; clear hy1); refine ⟨_, Ext.refl _, (by repeat (first | (with_reducible exact Ext.refl _) | (with_reducible refine Ext.undrew ?_) | (with_reducible refine Ext.grow ?_ _) | (with_reducible refine Ext.drew ?_) | (with_reducible refine Ext.drewN ?_ _) | (with_reducible refine Ext.alloc ?_ _) | (with_reducible assumption) | ((with_reducible refine Ext.setCell ?_ ?_ _); rotate_left; (first | exact Nat.le_refl _ | ((try dsimp only); (try simp only [World.size_alloc, grow_size, World.size_setCell]); omega))))), ?_⟩) | refine step_br ?_ ?_)
            all_goals refine step_nil ?_
            all_goals (go_wp2_with fail; go_meet; exact ⟨_, rfl, rfl, (by first | exact Nat.le_refl _ | (simp only [World.size_alloc, grow_size]; omega) | omega), hid (by repeat (first | (with_reducible exact Ext.refl _) | (with_reducible refine Ext.undrew ?_) | (with_reducible refine Ext.grow ?_ _) | (with_reducible refine Ext.drew ?_) | (with_reducible refine Ext.drewN ?_ _) | (with_reducible refine Ext.alloc ?_ _) | (with_reducible assumption) | ((with_reducible refine Ext.setCell ?_ ?_ _); rotate_left; (first | exact Nat.le_refl _ | ((try dsimp only); (try simp only [World.size_alloc, grow_size, World.size_setCell]); omega))))), hid (rng6 (by simp [go_sem]) (by simp [go_sem]) (by simp [go_sem]) (by simp [go_sem]) (by simp [go_sem]) (by simp [go_sem]) (by simp [go_sem]))⟩)
          case rest =>
            obtain ⟨g, rfl, rfl, hg, hxc, hRg⟩ := hcut
            have hcell2 := (hxc.out.cells b1 (o1 + k) hb1r).trans hcell
            have HE2 := hid (HE.out.trans hxc.out)
            have HR2 := hid (HR.out.ext hxc.out)
            have HX2 := hid (HX.out.ext hxc.out)
            have hb2r : b1 < wc.heap.size := Nat.lt_of_lt_of_le hb1r hxc.out.size
            have hgl := hRg.out.lt
            have hgx : ¬ g = xb := by omega
            clear HE HR HX hxc hcell x0 x1 x2 x3 x4 x5 hst hxl
            have y0 : wc.cell? ⟨g, 0, none⟩ = some (.bool t0) := by have := hRg.out.at_ 0 _ rfl; simpa using this
            have y1 : wc.cell? ⟨g, 1, none⟩ = some (.int .i64 b0) := by have := hRg.out.at_ 1 _ rfl; simpa using this
            have y2 : wc.cell? ⟨g, 2, none⟩ = some (.int .i64 tp0) := by have := hRg.out.at_ 2 _ rfl; simpa using this
            have y3 : wc.cell? ⟨g, 3, none⟩ = some (.int .i64 a1) := by have := hRg.out.at_ 3 _ rfl; simpa using this
            have y4 : wc.cell? ⟨g, 4, none⟩ = some (.int .i64 pm0) := by have := hRg.out.at_ 4 _ rfl; simpa using this
            have y5 : wc.cell? ⟨g, 5, none⟩ = some (.int .i64 ty0) := by have := hRg.out.at_ 5 _ rfl; simpa using this
            go_upto_region 10 with (fail)
            cases S2 : stepB ⟨t0, b0, tp0, a1, pm0, ty0⟩ (-n) with
            | true =>
              have hst : ∀ w', Calls Try.prog 13 #[.agg #[.bool t0, .int .i64 b0, .int .i64 tp0, .int .i64 a1, .int .i64 pm0, .int .i64 ty0], .int .i64 (-n)] w' fun e w'' => e = .returned (.tuple #[.agg #[.bool t0, .int .i64 b0, .int .i64 tp0, .int .i64 a, .int .i64 pm0, .int .i64 ty0], .bool true]) ∧ Ext w' w'' := fun w' => (accStep _ _ _ _ _ _ _ w').mono (by rintro e w'' ⟨rfl, hy⟩; exact ⟨by simp [stepC, Cap.z, S2, HF4.out], hy⟩)
              clear S2
              go_cut [10, 11] (fun s10 s11 wx => ∃ g : Nat, s10 = .pointer (some ⟨g, 0, none⟩) ∧ s11 = .bool true ∧ Hid (Ext wc wx) ∧ Hid (Rng wx g 0 [.bool t0, .int .i64 b0, .int .i64 tp0, .int .i64 a, .int .i64 pm0, .int .i64 ty0]))
              case first =>
                have hwn := HWN.out
                refine wp_region_step (.rd 0 (.rd 1 (.rd 2 (.rd 3 (.rd 4 (.rd 5 (.rd 6 (.br 7 (.rd 8 (.rd 9 (.rd 10 (.ac 11 (.ac 12 (.rd 13 .done)))))) 11 (.ac 7 (.rd 8 (.rd 9 (.rd 10 (.ac 12 (.rd 13 .done)))))))))))))) (by kernel_rfl) (by kernel_rfl) (fun _ _ d _ _ h => by cases d <;> exact h) (by simp only [Ord.map, nthOp, List.append]; rfl) ?_
                intro d0
                repeat' (first | (refine step_read (by rfl) (fun K hK => ?_); go_big_quiet_op; refine hK _ ?_; clear hK K) | (refine step_act (by rfl) (fun K hK => ?_); go_wp2_with (go_at_call 13; refine Calls.mono (hst _) ?_; rintro e w2 ⟨rfl, hy2⟩; obtain ⟨d2, rfl⟩ := hy2.grown; clear hy2); refine ⟨_, Ext.refl _, (by repeat (first | (with_reducible exact Ext.refl _) | (with_reducible refine Ext.undrew ?_) | (with_reducible refine Ext.grow ?_ _) | (with_reducible refine Ext.drew ?_) | (with_reducible refine Ext.drewN ?_ _) | (with_reducible refine Ext.alloc ?_ _) | (with_reducible assumption) | ((with_reducible refine Ext.setCell ?_ ?_ _); rotate_left; (first | exact Nat.le_refl _ | ((try dsimp only); (try simp only [World.size_alloc, grow_size, World.size_setCell]); omega))))), ?_⟩) | refine step_br ?_ ?_)
                all_goals refine step_nil ?_
                all_goals (go_wp2_with fail; go_meet; exact ⟨_, rfl, rfl, hid (by repeat (first | (with_reducible exact Ext.refl _) | (with_reducible refine Ext.undrew ?_) | (with_reducible refine Ext.grow ?_ _) | (with_reducible refine Ext.drew ?_) | (with_reducible refine Ext.drewN ?_ _) | (with_reducible refine Ext.alloc ?_ _) | (with_reducible assumption) | ((with_reducible refine Ext.setCell ?_ ?_ _); rotate_left; (first | exact Nat.le_refl _ | ((try dsimp only); (try simp only [World.size_alloc, grow_size, World.size_setCell]); omega))))), hid (rng6 (by simp [go_sem]) (by simp [go_sem]) (by simp [go_sem]) (by simp [go_sem]) (by simp [go_sem]) (by simp [go_sem]) (by simp [go_sem]))⟩)
              case rest =>
                obtain ⟨g3, rfl, rfl, hxc, hRz⟩ := hcut
                rename_i wd
                have hR3 := hid (HR2.out.ext hxc.out)
                have hX3 := hid (HX2.out.ext hxc.out)
                have hE3 := hid (HE2.out.trans hxc.out)
                have hG3 := hid (hRg.out.ext hxc.out)
                clear HE2 HR2 HX2 hRg hxc hcell2 y0 y1 y2 y3 y4 y5 hst hgl hb2r
                have hcl := hR3.out.lt
                have hxl := hX3.out.lt
                have hgl := hG3.out.lt
                have hzl := hRz.out.lt
                have c0 : wc.cell? ⟨cb, 0, none⟩ = some (.bool t0) := by have := hR3.out.at_ 0 _ rfl; simpa using this
                have c1 : wc.cell? ⟨cb, 1, none⟩ = some (.int .i64 b0) := by have := hR3.out.at_ 1 _ rfl; simpa using this
                have c2 : wc.cell? ⟨cb, 2, none⟩ = some (.int .i64 tp0) := by have := hR3.out.at_ 2 _ rfl; simpa using this
                have c3 : wc.cell? ⟨cb, 3, none⟩ = some (.int .i64 at0) := by have := hR3.out.at_ 3 _ rfl; simpa using this
                have c4 : wc.cell? ⟨cb, 4, none⟩ = some (.int .i64 pm0) := by have := hR3.out.at_ 4 _ rfl; simpa using this
                have c5 : wc.cell? ⟨cb, 5, none⟩ = some (.int .i64 ty0) := by have := hR3.out.at_ 5 _ rfl; simpa using this
                have x0 : wc.cell? ⟨xb, 0, none⟩ = some (.bool t0) := by have := hX3.out.at_ 0 _ rfl; simpa using this
                have x1 : wc.cell? ⟨xb, 1, none⟩ = some (.int .i64 b0) := by have := hX3.out.at_ 1 _ rfl; simpa using this
                have x2 : wc.cell? ⟨xb, 2, none⟩ = some (.int .i64 tp0) := by have := hX3.out.at_ 2 _ rfl; simpa using this
                have x3 : wc.cell? ⟨xb, 3, none⟩ = some (.int .i64 a) := by have := hX3.out.at_ 3 _ rfl; simpa using this
                have x4 : wc.cell? ⟨xb, 4, none⟩ = some (.int .i64 pm0) := by have := hX3.out.at_ 4 _ rfl; simpa using this
                have x5 : wc.cell? ⟨xb, 5, none⟩ = some (.int .i64 ty0) := by have := hX3.out.at_ 5 _ rfl; simpa using this
                have y0 : wc.cell? ⟨g, 0, none⟩ = some (.bool t0) := by have := hG3.out.at_ 0 _ rfl; simpa using this
                have y1 : wc.cell? ⟨g, 1, none⟩ = some (.int .i64 b0) := by have := hG3.out.at_ 1 _ rfl; simpa using this
                have y2 : wc.cell? ⟨g, 2, none⟩ = some (.int .i64 tp0) := by have := hG3.out.at_ 2 _ rfl; simpa using this
                have y3 : wc.cell? ⟨g, 3, none⟩ = some (.int .i64 a1) := by have := hG3.out.at_ 3 _ rfl; simpa using this
                have y4 : wc.cell? ⟨g, 4, none⟩ = some (.int .i64 pm0) := by have := hG3.out.at_ 4 _ rfl; simpa using this
                have y5 : wc.cell? ⟨g, 5, none⟩ = some (.int .i64 ty0) := by have := hG3.out.at_ 5 _ rfl; simpa using this
                have z0 : wc.cell? ⟨g3, 0, none⟩ = some (.bool t0) := by have := hRz.out.at_ 0 _ rfl; simpa using this
                have z1 : wc.cell? ⟨g3, 1, none⟩ = some (.int .i64 b0) := by have := hRz.out.at_ 1 _ rfl; simpa using this
                have z2 : wc.cell? ⟨g3, 2, none⟩ = some (.int .i64 tp0) := by have := hRz.out.at_ 2 _ rfl; simpa using this
                have z3 : wc.cell? ⟨g3, 3, none⟩ = some (.int .i64 a) := by have := hRz.out.at_ 3 _ rfl; simpa using this
                have z4 : wc.cell? ⟨g3, 4, none⟩ = some (.int .i64 pm0) := by have := hRz.out.at_ 4 _ rfl; simpa using this
                have z5 : wc.cell? ⟨g3, 5, none⟩ = some (.int .i64 ty0) := by have := hRz.out.at_ 5 _ rfl; simpa using this
                have hth : wc.there xb 0 (#[.bool t0, .int .i64 b0, .int .i64 tp0, .int .i64 a1, .int .i64 pm0, .int .i64 ty0] : Array Value).size := hX3.out.there
                go_wp2_with (first | (with_reducible refine wpList_load_mid rfl 23 (.tmp 8) rfl g 0 rfl [.bool t0, .int .i64 b0, .int .i64 tp0, .int .i64 a1, .int .i64 pm0, .int .i64 ty0] _ (hG3.out.range) Try.underlying23 rfl (by kernel_rfl) ?_) | (with_reducible refine wpList_store_mid rfl 23 (.tmp 6) (.tmp 85) rfl xb 0 #[.bool t0, .int .i64 b0, .int .i64 tp0, .int .i64 a1, .int .i64 pm0, .int .i64 ty0] rfl rfl (hth) (by kernel_rfl) (by simp [Value.oneCell']) ?_))
                go_roundw
                case rel => exact ⟨k + 1, a1, hk0, by go_num, hid (Ext.only hE3.out (Only.setCells (S := fun i => i = xb) (.inl rfl) _ _ (Only.refl _ _)) (by rintro i rfl; exact hwx)), hid (hR3.out.only (Only.setCells (S := fun i => i = xb) (.inl rfl) _ _ (Only.refl _ _)) hne), hid (Row.putNew hX3.out rfl)⟩
                case measure => simp [intOf]; omega
            | false =>
              have hst : ∀ w', Calls Try.prog 13 #[.agg #[.bool t0, .int .i64 b0, .int .i64 tp0, .int .i64 a1, .int .i64 pm0, .int .i64 ty0], .int .i64 (-n)] w' fun e w'' => e = .returned (.tuple #[.agg #[.bool false, .int .i64 0, .int .i64 0, .int .i64 0, .int .i64 0, .int .i64 0], .bool false]) ∧ Ext w' w'' := fun w' => (accStep _ _ _ _ _ _ _ w').mono (by rintro e w'' ⟨rfl, hy⟩; exact ⟨by simp [stepC, Cap.z, S2], hy⟩)
              have hno : ¬ b0 ≤ a ∨ (b0 ≤ a ∧ ¬ a ≤ tp0) := by
                have h := HF5.out
                rw [S2] at h
                by_cases hb : b0 ≤ a
                · right
                  simp [hb] at h
                  exact ⟨hb, by omega⟩
                · exact .inl hb
              clear S2
              go_cut [10, 11] (fun s10 s11 wx => ∃ g : Nat, s10 = .pointer (some ⟨g, 0, none⟩) ∧ s11 = .bool false ∧ Hid (Ext wc wx) ∧ Hid (Rng wx g 0 [.bool false, .int .i64 0, .int .i64 0, .int .i64 0, .int .i64 0, .int .i64 0]))
              case first =>
                have hwn := HWN.out
                refine wp_region_step (.rd 0 (.rd 1 (.rd 2 (.rd 3 (.rd 4 (.rd 5 (.rd 6 (.br 7 (.rd 8 (.rd 9 (.rd 10 (.ac 11 (.ac 12 (.rd 13 .done)))))) 11 (.ac 7 (.rd 8 (.rd 9 (.rd 10 (.ac 12 (.rd 13 .done)))))))))))))) (by kernel_rfl) (by kernel_rfl) (fun _ _ d _ _ h => by cases d <;> exact h) (by simp only [Ord.map, nthOp, List.append]; rfl) ?_
                intro d0
                repeat' (first | (refine step_read (by rfl) (fun K hK => ?_); go_big_quiet_op; refine hK _ ?_; clear hK K) | (refine step_act (by rfl) (fun K hK => ?_); go_wp2_with (go_at_call 13; refine Calls.mono (hst _) ?_; rintro e w2 ⟨rfl, hy2⟩; obtain ⟨d2, rfl⟩ := hy2.grown; clear hy2); refine ⟨_, Ext.refl _, (by repeat (first | (with_reducible exact Ext.refl _) | (with_reducible refine Ext.undrew ?_) | (with_reducible refine Ext.grow ?_ _) | (with_reducible refine Ext.drew ?_) | (with_reducible refine Ext.drewN ?_ _) | (with_reducible refine Ext.alloc ?_ _) | (with_reducible assumption) | ((with_reducible refine Ext.setCell ?_ ?_ _); rotate_left; (first | exact Nat.le_refl _ | ((try dsimp only); (try simp only [World.size_alloc, grow_size, World.size_setCell]); omega))))), ?_⟩) | refine step_br ?_ ?_)
                all_goals refine step_nil ?_
                all_goals (go_wp2_with fail; go_meet; exact ⟨_, rfl, rfl, hid (by repeat (first | (with_reducible exact Ext.refl _) | (with_reducible refine Ext.undrew ?_) | (with_reducible refine Ext.grow ?_ _) | (with_reducible refine Ext.drew ?_) | (with_reducible refine Ext.drewN ?_ _) | (with_reducible refine Ext.alloc ?_ _) | (with_reducible assumption) | ((with_reducible refine Ext.setCell ?_ ?_ _); rotate_left; (first | exact Nat.le_refl _ | ((try dsimp only); (try simp only [World.size_alloc, grow_size, World.size_setCell]); omega))))), hid (rng6 (by simp [go_sem]) (by simp [go_sem]) (by simp [go_sem]) (by simp [go_sem]) (by simp [go_sem]) (by simp [go_sem]) (by simp [go_sem]))⟩)
              case rest =>
                obtain ⟨g3, rfl, rfl, hxc, hRz⟩ := hcut
                rename_i wd
                have hR3 := hid (HR2.out.ext hxc.out)
                have hX3 := hid (HX2.out.ext hxc.out)
                have hE3 := hid (HE2.out.trans hxc.out)
                have hG3 := hid (hRg.out.ext hxc.out)
                clear HE2 HR2 HX2 hRg hxc hcell2 y0 y1 y2 y3 y4 y5 hst hgl hb2r
                have hcl := hR3.out.lt
                have hxl := hX3.out.lt
                have hgl := hG3.out.lt
                have hzl := hRz.out.lt
                have c0 : wc.cell? ⟨cb, 0, none⟩ = some (.bool t0) := by have := hR3.out.at_ 0 _ rfl; simpa using this
                have c1 : wc.cell? ⟨cb, 1, none⟩ = some (.int .i64 b0) := by have := hR3.out.at_ 1 _ rfl; simpa using this
                have c2 : wc.cell? ⟨cb, 2, none⟩ = some (.int .i64 tp0) := by have := hR3.out.at_ 2 _ rfl; simpa using this
                have c3 : wc.cell? ⟨cb, 3, none⟩ = some (.int .i64 at0) := by have := hR3.out.at_ 3 _ rfl; simpa using this
                have c4 : wc.cell? ⟨cb, 4, none⟩ = some (.int .i64 pm0) := by have := hR3.out.at_ 4 _ rfl; simpa using this
                have c5 : wc.cell? ⟨cb, 5, none⟩ = some (.int .i64 ty0) := by have := hR3.out.at_ 5 _ rfl; simpa using this
                have x0 : wc.cell? ⟨xb, 0, none⟩ = some (.bool t0) := by have := hX3.out.at_ 0 _ rfl; simpa using this
                have x1 : wc.cell? ⟨xb, 1, none⟩ = some (.int .i64 b0) := by have := hX3.out.at_ 1 _ rfl; simpa using this
                have x2 : wc.cell? ⟨xb, 2, none⟩ = some (.int .i64 tp0) := by have := hX3.out.at_ 2 _ rfl; simpa using this
                have x3 : wc.cell? ⟨xb, 3, none⟩ = some (.int .i64 a) := by have := hX3.out.at_ 3 _ rfl; simpa using this
                have x4 : wc.cell? ⟨xb, 4, none⟩ = some (.int .i64 pm0) := by have := hX3.out.at_ 4 _ rfl; simpa using this
                have x5 : wc.cell? ⟨xb, 5, none⟩ = some (.int .i64 ty0) := by have := hX3.out.at_ 5 _ rfl; simpa using this
                have y0 : wc.cell? ⟨g, 0, none⟩ = some (.bool t0) := by have := hG3.out.at_ 0 _ rfl; simpa using this
                have y1 : wc.cell? ⟨g, 1, none⟩ = some (.int .i64 b0) := by have := hG3.out.at_ 1 _ rfl; simpa using this
                have y2 : wc.cell? ⟨g, 2, none⟩ = some (.int .i64 tp0) := by have := hG3.out.at_ 2 _ rfl; simpa using this
                have y3 : wc.cell? ⟨g, 3, none⟩ = some (.int .i64 a1) := by have := hG3.out.at_ 3 _ rfl; simpa using this
                have y4 : wc.cell? ⟨g, 4, none⟩ = some (.int .i64 pm0) := by have := hG3.out.at_ 4 _ rfl; simpa using this
                have y5 : wc.cell? ⟨g, 5, none⟩ = some (.int .i64 ty0) := by have := hG3.out.at_ 5 _ rfl; simpa using this
                have z0 : wc.cell? ⟨g3, 0, none⟩ = some (.bool false) := by have := hRz.out.at_ 0 _ rfl; simpa using this
                have z1 : wc.cell? ⟨g3, 1, none⟩ = some (.int .i64 0) := by have := hRz.out.at_ 1 _ rfl; simpa using this
                have z2 : wc.cell? ⟨g3, 2, none⟩ = some (.int .i64 0) := by have := hRz.out.at_ 2 _ rfl; simpa using this
                have z3 : wc.cell? ⟨g3, 3, none⟩ = some (.int .i64 0) := by have := hRz.out.at_ 3 _ rfl; simpa using this
                have z4 : wc.cell? ⟨g3, 4, none⟩ = some (.int .i64 0) := by have := hRz.out.at_ 4 _ rfl; simpa using this
                have z5 : wc.cell? ⟨g3, 5, none⟩ = some (.int .i64 0) := by have := hRz.out.at_ 5 _ rfl; simpa using this
                rcases hno with hno | ⟨hno1, hno⟩
                · have hth : wc.there xb 0 (#[.bool t0, .int .i64 b0, .int .i64 tp0, .int .i64 a1, .int .i64 pm0, .int .i64 ty0] : Array Value).size := hX3.out.there
                  go_wp2_with (first | (with_reducible refine wpList_load_mid rfl 23 (.tmp 8) rfl g 0 rfl [.bool t0, .int .i64 b0, .int .i64 tp0, .int .i64 a1, .int .i64 pm0, .int .i64 ty0] _ (hG3.out.range) Try.underlying23 rfl (by kernel_rfl) ?_) | (with_reducible refine wpList_store_mid rfl 23 (.tmp 6) (.tmp 85) rfl xb 0 #[.bool t0, .int .i64 b0, .int .i64 tp0, .int .i64 a1, .int .i64 pm0, .int .i64 ty0] rfl rfl (hth) (by kernel_rfl) (by simp [Value.oneCell']) ?_))
                  go_roundw
                  case rel => exact ⟨k + 1, a1, hk0, by go_num, hid (Ext.only hE3.out (Only.setCells (S := fun i => i = xb) (.inl rfl) _ _ (Only.refl _ _)) (by rintro i rfl; exact hwx)), hid (hR3.out.only (Only.setCells (S := fun i => i = xb) (.inl rfl) _ _ (Only.refl _ _)) hne), hid (Row.putNew hX3.out rfl)⟩
                  case measure => simp [intOf]; omega
                · have hth : wc.there xb 0 (#[.bool t0, .int .i64 b0, .int .i64 tp0, .int .i64 a1, .int .i64 pm0, .int .i64 ty0] : Array Value).size := hX3.out.there
                  go_wp2_with (first | (with_reducible refine wpList_load_mid rfl 23 (.tmp 8) rfl g 0 rfl [.bool t0, .int .i64 b0, .int .i64 tp0, .int .i64 a1, .int .i64 pm0, .int .i64 ty0] _ (hG3.out.range) Try.underlying23 rfl (by kernel_rfl) ?_) | (with_reducible refine wpList_store_mid rfl 23 (.tmp 6) (.tmp 85) rfl xb 0 #[.bool t0, .int .i64 b0, .int .i64 tp0, .int .i64 a1, .int .i64 pm0, .int .i64 ty0] rfl rfl (hth) (by kernel_rfl) (by simp [Value.oneCell']) ?_))
                  go_roundw
                  case rel => exact ⟨k + 1, a1, hk0, by go_num, hid (Ext.only hE3.out (Only.setCells (S := fun i => i = xb) (.inl rfl) _ _ (Only.refl _ _)) (by rintro i rfl; exact hwx)), hid (hR3.out.only (Only.setCells (S := fun i => i = xb) (.inl rfl) _ _ (Only.refl _ _)) hne), hid (Row.putNew hX3.out rfl)⟩
                  case measure => simp [intOf]; omega
      · have hk1 : ¬ (k : Int) < (zs1.length : Int) := by omega
        have hcl := HR.out.lt
        have hxl := HX.out.lt
        have c0 : wr.cell? ⟨cb, 0, none⟩ = some (.bool t0) := by have := HR.out.at_ 0 _ rfl; simpa using this
        have c1 : wr.cell? ⟨cb, 1, none⟩ = some (.int .i64 b0) := by have := HR.out.at_ 1 _ rfl; simpa using this
        have c2 : wr.cell? ⟨cb, 2, none⟩ = some (.int .i64 tp0) := by have := HR.out.at_ 2 _ rfl; simpa using this
        have c3 : wr.cell? ⟨cb, 3, none⟩ = some (.int .i64 at0) := by have := HR.out.at_ 3 _ rfl; simpa using this
        have c4 : wr.cell? ⟨cb, 4, none⟩ = some (.int .i64 pm0) := by have := HR.out.at_ 4 _ rfl; simpa using this
        have c5 : wr.cell? ⟨cb, 5, none⟩ = some (.int .i64 ty0) := by have := HR.out.at_ 5 _ rfl; simpa using this
        have x0 : wr.cell? ⟨xb, 0, none⟩ = some (.bool t0) := by have := HX.out.at_ 0 _ rfl; simpa using this
        have x1 : wr.cell? ⟨xb, 1, none⟩ = some (.int .i64 b0) := by have := HX.out.at_ 1 _ rfl; simpa using this
        have x2 : wr.cell? ⟨xb, 2, none⟩ = some (.int .i64 tp0) := by have := HX.out.at_ 2 _ rfl; simpa using this
        have x3 : wr.cell? ⟨xb, 3, none⟩ = some (.int .i64 a) := by have := HX.out.at_ 3 _ rfl; simpa using this
        have x4 : wr.cell? ⟨xb, 4, none⟩ = some (.int .i64 pm0) := by have := HX.out.at_ 4 _ rfl; simpa using this
        have x5 : wr.cell? ⟨xb, 5, none⟩ = some (.int .i64 ty0) := by have := HX.out.at_ 5 _ rfl; simpa using this
        have hfx : wr.frozen? ⟨xb, 3, none⟩ = false := by have := HX.out.free 3 (by simp); simpa using this
        clear HR HX
        go_wp2
        go_ret
        exact ⟨rfl, Ext.setCell HE.out hwx _⟩
  · have hli : ¬ ((zs1.length : Nat) : Int) ≤ 500 := by omega
    clear hs1 wz1
    go_enter Try.func7, Try.ntmps7
    go_wp2_with (go_at_call 10; refine (head _).mono ?_; rintro e wh ⟨rfl, hxh⟩)
    go_ret
    exact ⟨rfl, (Ext.alloc (Ext.refl w) _).trans hxh⟩
end accessSteps
end Go.Proofs.Ytiihoffboeomaaa
