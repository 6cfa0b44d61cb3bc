/- Layer 14: Free. -/
import Derived.Test.YtoeiemeffiiidaaDoorHepC
import Derived.Deep.DeepCutAuto
namespace Go.Proofs.YtoeiemeffiiidaaDoor
set_option linter.unusedSimpArgs false
set_option linter.unusedVariables false
open Go.RowKit

def HSt.free (x : HSt) (c : Cap) : HSt := if ofE x.lv c = 0 then { x with lv := x.lv.eraseIdx ((idxL x.lv c.base).getD 0), lq := x.lq ++ [⟨c.base, (ofB x.lv c).takes, x.t⟩] } else x
theorem ofE_zero {lv : List Lv} {c : Cap} (k : ofE lv c = 0) : ∃ i, idxL lv c.base = some i ∧ c.tag = true ∧ c.type = 0 ∧ c.top = c.base + (lv.getD i default).asked ∧ ofB lv c = lv.getD i default := by
  have k0 := k
  unfold ofE at k
  split at k
  · cases k
  · rename_i h1
    split at k
    · cases k
    · rename_i h2
      split at k
      · cases k
      · rename_i i h3
        split at k
        · rename_i h4
          refine ⟨i, h3, by simpa using h1, by simpa using h2, h4, ?_⟩
          unfold ofB
          rw [if_pos k0, h3]
        · cases k
theorem wp_del {o : Oper} {a : Act} {w : World} {K : Act → World → Prop} {Q : Exit → Act → World → Prop} (m i : Operand) (ho : o.op = .call { callee := .builtin .delete, args := #[m, i], argTypes := #[67, 3] }) (g : Nat) (lv : List Lv) (k : Int) (j : Nat) (hm : a.eval m = .map (some g)) (hi : a.eval i = .int .i64 k) (h : MapAt w g lv) (hj : idxL lv k = some j)
    (hK : ∀ w', MapAt w' g (lv.eraseIdx j) → Only (· = g) w w' → K (a.put o.dst (.tuple #[])) w') : o.wp Tryd.prog a w K Q := by
  obtain ⟨w', hr, h1, h2⟩ := h.delete hj
  have hr := hr Tryd.prog 67 3 o.type 3 73 Tryd.underlying67 Tryd.underlying3
  unfold Oper.wp execOp
  simp only [ho, resolve, invoke, builtin, Sem.run_bind, Sem.run_pure, Result.andThen_ok, List.map_toArray, List.map_cons, List.map_nil, hm, hi, hr]
  exact hK w' h1 h2
set_option maxRecDepth 100000 in
set_option maxHeartbeats 4000000 in
theorem hFree (w W : World) (h ck q fq p pq g bq bf n : Nat) (fr tu ra rp full : Int) (T : Nat → Prop) (x : HSt) (k : Hp w W h ck q fq p pq g bq bf n fr tu ra rp full T x) (t : Bool) (b tp at_ pm ty : Int) (hb : -9223372036854775808 ≤ b ∧ b ≤ 9223372036854775807) (hll : x.lq.length ≤ 900) : Calls Tryd.prog 12 #[.pointer (some ⟨h, 0, none⟩), .agg #[.bool t, .int .i64 b, .int .i64 tp, .int .i64 at_, .int .i64 pm, .int .i64 ty]] W fun e W' => e = .returned (.int .i64 (ofE x.lv ⟨t, b, tp, at_, pm, ty⟩)) ∧ Hid (Hp w W' h ck q fq p pq g bq bf n fr tu ra rp full T (x.free ⟨t, b, tp, at_, pm, ty⟩)) ∧ Hid (Only (fun i => ¬ T i) W W') := by
  obtain ⟨vq, vf, k, hT⟩ := k
  have HT9 := hid hT
  clear hT
  have HK := hid k
  have c0 := k.c0
  have c1 := k.c1
  have c10 := k.c10
  have hl := k.hl
  have HBB := hid hb
  obtain ⟨y, hy⟩ : ∃ y, ofB x.lv ⟨t, b, tp, at_, pm, ty⟩ = y := ⟨_, rfl⟩
  obtain ⟨er, her⟩ : ∃ y, ofE x.lv ⟨t, b, tp, at_, pm, ty⟩ = y := ⟨_, rfl⟩
  have HOB : Hid ((ofB x.lv ⟨t, b, tp, at_, pm, ty⟩).val = .agg #[.int .i64 y.asked, .int .i64 y.takes]) := hid (by rw [hy]; rfl)
  have HOE := hid her
  have HOY := hid hy
  have HLL := hid hll
  have HGL : Hid (g < W.heap.size) := hid k.mp.lt
  have HQLL : Hid (q < W.heap.size ∧ ∀ i, vq.ownBlock = some i → i < W.heap.size) := hid ⟨k.qs.1, fun i e => (k.qs.2.2.2.1.lt i e).2⟩
  rw [her]
  clear k hb hy her hll
  go_enter Tryd.func12, Tryd.ntmps12
  go_upto_region 1 with (fail)
  refine wp_gen (fun V => Hid (HpB w V h ck q fq p pq g bq bf n fr tu ra rp full vq vf x) ∧ Hid (Row V W.heap.size 0 [.bool t, .int .i64 b, .int .i64 tp, .int .i64 at_, .int .i64 pm, .int .i64 ty]) ∧ Hid (Ext W V)) ⟨hid (HK.out.ext (by repeat (first | (with_reducible exact Ext.refl _) | (with_reducible refine Ext.undrew ?_) | (with_reducible refine Ext.grow ?_ _) | (with_reducible refine Ext.drew ?_) | (with_reducible refine Ext.drewN ?_ _) | (with_reducible refine Ext.alloc ?_ _) | (with_reducible assumption) | ((with_reducible refine Ext.setCell ?_ ?_ _); rotate_left; (first | exact Nat.le_refl _ | ((try dsimp only); (try simp only [World.size_alloc, grow_size, World.size_setCell]); omega)))))), hid (Row.new W _ _), hid (by repeat (first | (with_reducible exact Ext.refl _) | (with_reducible refine Ext.undrew ?_) | (with_reducible refine Ext.grow ?_ _) | (with_reducible refine Ext.drew ?_) | (with_reducible refine Ext.drewN ?_ _) | (with_reducible refine Ext.alloc ?_ _) | (with_reducible assumption) | ((with_reducible refine Ext.setCell ?_ ?_ _); rotate_left; (first | exact Nat.le_refl _ | ((try dsimp only); (try simp only [World.size_alloc, grow_size, World.size_setCell]); omega)))))⟩ ?_
  clear c0 c1 c10 hl HK
  rintro W1 ⟨HK, HBX, HX1⟩
  obtain ⟨bx, hbx⟩ : ∃ z, W.heap.size = z := ⟨_, rfl⟩
  have HBXE := hid hbx
  have HW1 : Hid (W.heap.size ≤ W1.heap.size) := hid HX1.out.size
  rw [hbx] at HBX ⊢
  clear hbx
  go_cut [5, 6] (fun s5 s6 wx => ∃ yb : Nat, s5 = .pointer (some ⟨yb, 0, none⟩) ∧ s6 = .int .i64 er ∧ Hid (HpB w wx h ck q fq p pq g bq bf n fr tu ra rp full vq vf x) ∧ Hid (Row wx bx 0 [.bool t, .int .i64 b, .int .i64 tp, .int .i64 at_, .int .i64 pm, .int .i64 ty]) ∧ Hid (Row wx yb 0 [.int .i64 y.asked, .int .i64 y.takes]) ∧ Hid (Ext W1 wx) ∧ Hid (W1.heap.size ≤ yb))
  case first =>
    have hl := HK.out.hl
    have a0 : World.cell? W1 ⟨bx, 0, none⟩ = some (.bool t) := by have := HBX.out.at_ 0 _ rfl; simpa using this
    have a1 : World.cell? W1 ⟨bx, 1, none⟩ = some (.int .i64 b) := by have := HBX.out.at_ 1 _ rfl; simpa using this
    have a2 : World.cell? W1 ⟨bx, 2, none⟩ = some (.int .i64 tp) := by have := HBX.out.at_ 2 _ rfl; simpa using this
    have a3 : World.cell? W1 ⟨bx, 3, none⟩ = some (.int .i64 at_) := by have := HBX.out.at_ 3 _ rfl; simpa using this
    have a4 : World.cell? W1 ⟨bx, 4, none⟩ = some (.int .i64 pm) := by have := HBX.out.at_ 4 _ rfl; simpa using this
    have a5 : World.cell? W1 ⟨bx, 5, none⟩ = some (.int .i64 ty) := by have := HBX.out.at_ 5 _ rfl; simpa using this
    have al := HBX.out.lt
    refine wp_region_step (.rd 0 (.rd 1 (.rd 2 (.rd 3 (.br 4 (.rd 5 (.rd 6 (.rd 7 (.ac 8 (.ac 9 (.rd 10 .done)))))) 8 (.ac 4 (.rd 5 (.rd 6 (.rd 7 (.ac 9 (.rd 10 .done))))))))))) (by kernel_rfl) (by kernel_rfl) (fun _ _ d _ _ h => by cases d <;> exact h) (by simp only [Ord.map, nthOp, List.append]; rfl) ?_
    intro d0
    repeat' (first | (refine step_read (by rfl) (fun K hK => ?_); go_big_quiet_op; refine hK _ ?_; clear hK K) | (refine step_act (by rfl) (fun K hK => ?_); go_wp2_with (first | (go_at_call 31; refine (of_ w _ h ck q fq p pq g bq bf n fr tu ra rp full vq vf x (HK.out.ext (by repeat (first | (with_reducible exact Ext.refl _) | (with_reducible refine Ext.undrew ?_) | (with_reducible refine Ext.grow ?_ _) | (with_reducible refine Ext.drew ?_) | (with_reducible refine Ext.drewN ?_ _) | (with_reducible refine Ext.alloc ?_ _) | (with_reducible assumption) | ((with_reducible refine Ext.setCell ?_ ?_ _); rotate_left; (first | exact Nat.le_refl _ | ((try dsimp only); (try simp only [World.size_alloc, grow_size, World.size_setCell]); omega)))))) t b tp at_ pm ty HBB.out).mono ?_; rw [HOB.out, HOE.out]; rintro e w1 ⟨rfl, hy⟩; obtain ⟨d, rfl⟩ := hy.grown; clear hy)); refine ⟨_, Ext.refl _, (by repeat (first | (with_reducible exact Ext.refl _) | (with_reducible refine Ext.undrew ?_) | (with_reducible refine Ext.grow ?_ _) | (with_reducible refine Ext.drew ?_) | (with_reducible refine Ext.drewN ?_ _) | (with_reducible refine Ext.alloc ?_ _) | (with_reducible assumption) | ((with_reducible refine Ext.setCell ?_ ?_ _); rotate_left; (first | exact Nat.le_refl _ | ((try dsimp only); (try simp only [World.size_alloc, grow_size, World.size_setCell]); omega))))), ?_⟩) | refine step_br ?_ ?_)
    all_goals refine step_nil ?_
    all_goals go_wp2_with fail
    all_goals go_meet
    all_goals exact ⟨_, rfl, rfl, hid (HK.out.ext (by repeat (first | (with_reducible exact Ext.refl _) | (with_reducible refine Ext.undrew ?_) | (with_reducible refine Ext.grow ?_ _) | (with_reducible refine Ext.drew ?_) | (with_reducible refine Ext.drewN ?_ _) | (with_reducible refine Ext.alloc ?_ _) | (with_reducible assumption) | ((with_reducible refine Ext.setCell ?_ ?_ _); rotate_left; (first | exact Nat.le_refl _ | ((try dsimp only); (try simp only [World.size_alloc, grow_size, World.size_setCell]); omega)))))), hid (HBX.out.ext (by repeat (first | (with_reducible exact Ext.refl _) | (with_reducible refine Ext.undrew ?_) | (with_reducible refine Ext.grow ?_ _) | (with_reducible refine Ext.drew ?_) | (with_reducible refine Ext.drewN ?_ _) | (with_reducible refine Ext.alloc ?_ _) | (with_reducible assumption) | ((with_reducible refine Ext.setCell ?_ ?_ _); rotate_left; (first | exact Nat.le_refl _ | ((try dsimp only); (try simp only [World.size_alloc, grow_size, World.size_setCell]); omega)))))), hid (by first | (have := Row.new (Go.Proofs.YtoeiemeffiiidaaDoor.grow (Go.Proofs.YtoeiemeffiiidaaDoor.grow W1 d0) d) #[.int .i64 y.asked, .int .i64 y.takes] 73; simpa only [grow_size] using this) | (have := (Row.new (Go.Proofs.YtoeiemeffiiidaaDoor.grow W1 d0) #[.int .i64 y.asked, .int .i64 y.takes] 73).ext (Ext.grow (Ext.refl _) d); simpa only [grow_size] using this)), hid (by repeat (first | (with_reducible exact Ext.refl _) | (with_reducible refine Ext.undrew ?_) | (with_reducible refine Ext.grow ?_ _) | (with_reducible refine Ext.drew ?_) | (with_reducible refine Ext.drewN ?_ _) | (with_reducible refine Ext.alloc ?_ _) | (with_reducible assumption) | ((with_reducible refine Ext.setCell ?_ ?_ _); rotate_left; (first | exact Nat.le_refl _ | ((try dsimp only); (try simp only [World.size_alloc, grow_size, World.size_setCell]); omega))))), hid (by omega)⟩
  case rest =>
    obtain ⟨yb, rfl, rfl, HK2, HB2, HY2, HX2, HYB⟩ := hcut
    have HXX : Hid (Ext W wc) := hid (HX1.out.trans HX2.out)
    have HBL : Hid (W.heap.size ≤ bx ∧ bx < W1.heap.size) := hid ⟨by have := HBXE.out; omega, HBX.out.lt⟩
    have HWCC : Hid (W1.heap.size ≤ wc.heap.size) := hid HX2.out.size
    clear HK HBX HX1 HX2
    by_cases her0 : er = 0
    · subst her0
      obtain ⟨i, z1, z2, z3, z4, z5⟩ := ofE_zero HOE.out
      obtain ⟨hi, hat⟩ := idxL_some z1
      have hyl : x.lv[i] = y := by rw [← HOY.out, z5]; simp [List.getD, hi]
      have hyo : okLv y := by rw [← hyl]; exact HK2.out.okl.1 _ (List.getElem_mem hi)
      have HYO := hid hyo
      have HAT : Hid (0 ≤ b ∧ b ≤ 16777216) := hid (by rw [hyl] at hat; have := hyo.1; simp only at hat; omega)
      have HIX : Hid (idxL x.lv b = some i) := hid z1
      have HOK : Hid (okQ x.lq ⟨b, y.takes, x.t⟩ = true) := hid (by
        have h1 := HAT.out
        have h2 := hyo.2.2
        have h3 := HK2.out.okl.2.2.1
        have h4 : lastT x.lq ≤ x.t := by
          unfold lastT
          split
          · rename_i z hz
            exact (HK2.out.okl.2.2.2 z (List.mem_of_getLast? hz)).1
          · exact h3.1
        unfold okQ
        simp only [Bool.and_eq_true, decide_eq_true_eq, Bool.not_eq_true', decide_eq_false_iff_not]
        refine ⟨⟨⟨⟨?_, ?_⟩, ?_, ?_⟩, ?_⟩, ?_⟩ <;> omega)
      have HWC : Hid (W1.heap.size ≤ wc.heap.size) := hid HWCC.out
      have HQL : Hid (q < W.heap.size ∧ ∀ i, vq.ownBlock = some i → i < W.heap.size) := hid HQLL.out
      clear z1 z2 z3 z4 z5 hat hyl hyo hi
      go_upto_region 4 with (fail)
      have c10 := HK2.out.c10
      have hl := HK2.out.hl
      have hne := HK2.out.ne
      have n1 : ¬ h = g := hne.1.2.2.2.2.2
      have n2 : ¬ bx = g := by have := HBL.out; have := HGL.out; omega
      have n3 : ¬ yb = g := by have := HYB.out; have := HGL.out; have := HW1.out; omega
      clear hne
      have a0 : World.cell? wc ⟨bx, 0, none⟩ = some (.bool t) := by have := HB2.out.at_ 0 _ rfl; simpa using this
      have a1 : World.cell? wc ⟨bx, 1, none⟩ = some (.int .i64 b) := by have := HB2.out.at_ 1 _ rfl; simpa using this
      have a2 : World.cell? wc ⟨bx, 2, none⟩ = some (.int .i64 tp) := by have := HB2.out.at_ 2 _ rfl; simpa using this
      have a3 : World.cell? wc ⟨bx, 3, none⟩ = some (.int .i64 at_) := by have := HB2.out.at_ 3 _ rfl; simpa using this
      have a4 : World.cell? wc ⟨bx, 4, none⟩ = some (.int .i64 pm) := by have := HB2.out.at_ 4 _ rfl; simpa using this
      have a5 : World.cell? wc ⟨bx, 5, none⟩ = some (.int .i64 ty) := by have := HB2.out.at_ 5 _ rfl; simpa using this
      have al := HB2.out.lt
      refine wp_region_turn (q := g) (.rd 0 (.rd 1 (.rd 2 (.rd 3 (.rd 4 (.rd 5 (.rd 6 (.ac 7 .done)))))))) (by kernel_rfl) (by kernel_rfl) (fun _ _ d _ _ h => by cases d <;> exact h) (by simp only [Ord.map, nthOp, List.append]; rfl) ?_
      intro d0
      have HK3 := hid (HK2.out.ext (Ext.grow (Ext.refl wc) d0))
      have HB3 := hid (HB2.out.ext (Ext.grow (Ext.refl wc) d0))
      have HY3 := hid (HY2.out.ext (Ext.grow (Ext.refl wc) d0))
      repeat (refine turn_read (by rfl) (fun K hK => ?_); go_big_quiet_op; refine hK _ ?_; clear hK K)
      refine turn_act (by rfl) (fun K hK => ?_)
      refine wp_del _ _ rfl g x.lv b i rfl rfl HK3.out.mp HIX.out ?_
      intro W4 hm4 ho4
      refine hK _ _ ⟨_, Only.refl _ _, ho4, ?_⟩
      clear hK K
      refine turn_nil ?_
      have HK4 : Hid (HpB w W4 h ck q fq p pq g bq bf n fr tu ra rp full vq vf { x with lv := x.lv.eraseIdx i }) := hid (HK3.out.setMap hm4 ho4 (fun z hz => HK3.out.okl.1 z (List.mem_of_mem_eraseIdx hz)))
      have HB4 := hid (HB3.out.only ho4 n2)
      have HY4 := hid (HY3.out.only ho4 n3)
      have HXW : Hid (W1.heap.size ≤ W4.heap.size) := hid (by have e1 := (Ext.grow (Ext.refl wc) d0).size; have e2 := ho4.size; have e3 := HWC.out; omega)
      have HON4 : Hid (Only (fun i => ¬ T i) W W4) := hid ((Only.ofT (HXX.out.trans (Ext.grow (Ext.refl wc) d0))).trans' (ho4.offT (by rintro i rfl ht; exact (HT9.out i ht).2.1 (by simp))))
      clear HK2 HB2 HY2 HK3 HB3 HY3 hm4 ho4 c10 hl n1 n2 n3 a0 a1 a2 a3 a4 a5 al
      simp only [Act.put, List.setIfInBounds_toArray, List.set_cons_zero, List.set_cons_succ]
      go_upto_region 5 with (fail)
      have HSQ : Hid (¬ tch q vq h ∧ ¬ tch q vq bx ∧ ¬ tch q vq yb ∧ ¬ tch q vq ck) := hid (by
        have e1 := HK4.out.ne
        have e2 := HK4.out.rq
        have e3 := HQL.out
        have e4 := HBL.out
        have e5 := HYB.out
        have e6 := HW1.out
        refine ⟨?_, ?_, ?_, ?_⟩
        · rintro (c | c)
          · exact e1.1.2.1 c
          · exact (e2 h c).1 (by simp)
        · rintro (c | c)
          · omega
          · have := e3.2 bx c; omega
        · rintro (c | c)
          · omega
          · have := e3.2 yb c; omega
        · rintro (c | c)
          · exact e1.2.1.1 c
          · exact (e2 ck c).1 (by simp))
      obtain ⟨ht0, ht1⟩ := HK4.out.okl.2.2.1
      refine wp_region_only (S := tch q vq) (.rd 0 (.rd 1 (.rd 2 (.rd 3 (.rd 4 (.rd 5 (.rd 6 (.rd 7 (.rd 8 (.rd 9 (.rd 10 (.rd 11 (.rd 12 (.rd 13 (.ac 14 (.rd 15 (.ac 16 .done))))))))))))))))) (by kernel_rfl) (by kernel_rfl) (fun _ _ d _ _ h => by cases d <;> exact h) (by simp only [Ord.map, nthOp, List.append]; rfl) ?_
      intro d1
      have HK5 := hid (HK4.out.ext (Ext.grow (Ext.refl W4) d1))
      have HB5 := hid (HB4.out.ext (Ext.grow (Ext.refl W4) d1))
      have HY5 := hid (HY4.out.ext (Ext.grow (Ext.refl W4) d1))
      have HON5 : Hid (Only (fun i => ¬ T i) W (Go.Proofs.YtoeiemeffiiidaaDoor.grow W4 d1)) := hid (HON4.out.transExt (Ext.grow (Ext.refl W4) d1))
      generalize Go.Proofs.YtoeiemeffiiidaaDoor.grow W4 d1 = W5 at HK5 HB5 HY5 HON5 ⊢
      have hnx := HSQ.out
      repeat' (first | (refine only_read (by rfl) (fun K hK => ?_); refine quiet_runD 26 rfl (.pointer (some ⟨h, 0, none⟩)) (fun w => by kernel_rfl) ?_; refine hK _ ?_; clear hK K; simp only [Act.put, List.setIfInBounds_toArray, List.set_cons_zero, List.set_cons_succ]) | (refine only_read (by rfl) (fun K hK => ?_); refine quiet_runD 27 rfl (.pointer (some ⟨h, 0, none⟩)) (fun w => by kernel_rfl) ?_; refine hK _ ?_; clear hK K; simp only [Act.put, List.setIfInBounds_toArray, List.set_cons_zero, List.set_cons_succ]) | (refine only_read (by rfl) (fun K hK => ?_); refine quiet_runD 28 rfl (.pointer (some ⟨h, 1, none⟩)) (fun w => by kernel_rfl) ?_; refine hK _ ?_; clear hK K; simp only [Act.put, List.setIfInBounds_toArray, List.set_cons_zero, List.set_cons_succ]) | (refine only_read (by rfl) (fun K hK => ?_); refine quiet_runD 30 rfl (.pointer (some ⟨bx, 1, none⟩)) (fun w => by kernel_rfl) ?_; refine hK _ ?_; clear hK K; simp only [Act.put, List.setIfInBounds_toArray, List.set_cons_zero, List.set_cons_succ]) | (refine only_read (by rfl) (fun K hK => ?_); refine quiet_runD 32 rfl (.pointer (some ⟨yb, 1, none⟩)) (fun w => by kernel_rfl) ?_; refine hK _ ?_; clear hK K; simp only [Act.put, List.setIfInBounds_toArray, List.set_cons_zero, List.set_cons_succ]) | (refine only_read (by rfl) (fun K hK => ?_); refine quiet_runD 35 rfl (.pointer (some ⟨h, 0, none⟩)) (fun w => by kernel_rfl) ?_; refine hK _ ?_; clear hK K; simp only [Act.put, List.setIfInBounds_toArray, List.set_cons_zero, List.set_cons_succ]) | (refine only_read (by rfl) (fun K hK => ?_); refine quiet_runD 36 rfl (.pointer (some ⟨h, 0, none⟩)) (fun w => by kernel_rfl) ?_; refine hK _ ?_; clear hK K; simp only [Act.put, List.setIfInBounds_toArray, List.set_cons_zero, List.set_cons_succ]) | (refine only_read (by rfl) (fun K hK => ?_); refine quiet_runD 37 rfl (.pointer (some ⟨h, 0, none⟩)) (fun w => by kernel_rfl) ?_; refine hK _ ?_; clear hK K; simp only [Act.put, List.setIfInBounds_toArray, List.set_cons_zero, List.set_cons_succ]) | (refine only_read (by rfl) (fun K hK => ?_); refine quiet_load1 63 (.tmp 28) rfl h 1 rfl (.pointer (some ⟨q, 0, none⟩)) _ (fun w' hw' => (hw'.cells h 1 HK5.out.hl hnx.1).trans HK5.out.c1) Tryd.underlying63 rfl ?_; refine hK _ ?_; clear hK K; simp only [Act.put, List.setIfInBounds_toArray, List.set_cons_zero, List.set_cons_succ]) | (refine only_read (by rfl) (fun K hK => ?_); refine quiet_load1 3 (.tmp 30) rfl bx 1 rfl (.int .i64 b) _ (fun w' hw' => (by have := (HB5.out.only hw' hnx.2.1).at_ 1 _ rfl; simpa using this)) Tryd.underlying3 rfl ?_; refine hK _ ?_; clear hK K; simp only [Act.put, List.setIfInBounds_toArray, List.set_cons_zero, List.set_cons_succ]) | (refine only_read (by rfl) (fun K hK => ?_); refine quiet_load1 3 (.tmp 32) rfl yb 1 rfl (.int .i64 y.takes) _ (fun w' hw' => (by have := (HY5.out.only hw' hnx.2.2.1).at_ 1 _ rfl; simpa using this)) Tryd.underlying3 rfl ?_; refine hK _ ?_; clear hK K; simp only [Act.put, List.setIfInBounds_toArray, List.set_cons_zero, List.set_cons_succ]) | (refine only_read (by rfl) (fun K hK => ?_); refine quiet_load1 65 (.tmp 37) rfl h 0 rfl (.pointer (some ⟨ck, 0, none⟩)) _ (fun w' hw' => (hw'.cells h 0 HK5.out.hl hnx.1).trans HK5.out.c0) Tryd.underlying65 rfl ?_; refine hK _ ?_; clear hK K; simp only [Act.put, List.setIfInBounds_toArray, List.set_cons_zero, List.set_cons_succ]) | (refine only_read (by rfl) (fun K hK => ?_); refine quiet_runD 40 rfl (.agg #[.int .i64 b, .int .i64 y.takes, .int .i64 x.t]) (fun w => by kernel_rfl) ?_; refine hK _ ?_; clear hK K; simp only [Act.put, List.setIfInBounds_toArray, List.set_cons_zero, List.set_cons_succ]) | (refine only_read (by rfl) (fun K hK => ?_); go_big_quiet_op; refine hK _ ?_; clear hK K))
      refine only_act (by rfl) (fun K hK => ?_)
      go_wp2_with (go_at_call 33; refine (now ck x.t _ HK5.out.clk ht0 ht1).mono ?_; rintro e w1 ⟨rfl, rfl⟩)
      refine ⟨_, Only.refl _ _, Only.refl _ _, ?_⟩
      repeat' (first | (refine only_read (by rfl) (fun K hK => ?_); refine quiet_runD 26 rfl (.pointer (some ⟨h, 0, none⟩)) (fun w => by kernel_rfl) ?_; refine hK _ ?_; clear hK K; simp only [Act.put, List.setIfInBounds_toArray, List.set_cons_zero, List.set_cons_succ]) | (refine only_read (by rfl) (fun K hK => ?_); refine quiet_runD 27 rfl (.pointer (some ⟨h, 0, none⟩)) (fun w => by kernel_rfl) ?_; refine hK _ ?_; clear hK K; simp only [Act.put, List.setIfInBounds_toArray, List.set_cons_zero, List.set_cons_succ]) | (refine only_read (by rfl) (fun K hK => ?_); refine quiet_runD 28 rfl (.pointer (some ⟨h, 1, none⟩)) (fun w => by kernel_rfl) ?_; refine hK _ ?_; clear hK K; simp only [Act.put, List.setIfInBounds_toArray, List.set_cons_zero, List.set_cons_succ]) | (refine only_read (by rfl) (fun K hK => ?_); refine quiet_runD 30 rfl (.pointer (some ⟨bx, 1, none⟩)) (fun w => by kernel_rfl) ?_; refine hK _ ?_; clear hK K; simp only [Act.put, List.setIfInBounds_toArray, List.set_cons_zero, List.set_cons_succ]) | (refine only_read (by rfl) (fun K hK => ?_); refine quiet_runD 32 rfl (.pointer (some ⟨yb, 1, none⟩)) (fun w => by kernel_rfl) ?_; refine hK _ ?_; clear hK K; simp only [Act.put, List.setIfInBounds_toArray, List.set_cons_zero, List.set_cons_succ]) | (refine only_read (by rfl) (fun K hK => ?_); refine quiet_runD 35 rfl (.pointer (some ⟨h, 0, none⟩)) (fun w => by kernel_rfl) ?_; refine hK _ ?_; clear hK K; simp only [Act.put, List.setIfInBounds_toArray, List.set_cons_zero, List.set_cons_succ]) | (refine only_read (by rfl) (fun K hK => ?_); refine quiet_runD 36 rfl (.pointer (some ⟨h, 0, none⟩)) (fun w => by kernel_rfl) ?_; refine hK _ ?_; clear hK K; simp only [Act.put, List.setIfInBounds_toArray, List.set_cons_zero, List.set_cons_succ]) | (refine only_read (by rfl) (fun K hK => ?_); refine quiet_runD 37 rfl (.pointer (some ⟨h, 0, none⟩)) (fun w => by kernel_rfl) ?_; refine hK _ ?_; clear hK K; simp only [Act.put, List.setIfInBounds_toArray, List.set_cons_zero, List.set_cons_succ]) | (refine only_read (by rfl) (fun K hK => ?_); refine quiet_load1 63 (.tmp 28) rfl h 1 rfl (.pointer (some ⟨q, 0, none⟩)) _ (fun w' hw' => (hw'.cells h 1 HK5.out.hl hnx.1).trans HK5.out.c1) Tryd.underlying63 rfl ?_; refine hK _ ?_; clear hK K; simp only [Act.put, List.setIfInBounds_toArray, List.set_cons_zero, List.set_cons_succ]) | (refine only_read (by rfl) (fun K hK => ?_); refine quiet_load1 3 (.tmp 30) rfl bx 1 rfl (.int .i64 b) _ (fun w' hw' => (by have := (HB5.out.only hw' hnx.2.1).at_ 1 _ rfl; simpa using this)) Tryd.underlying3 rfl ?_; refine hK _ ?_; clear hK K; simp only [Act.put, List.setIfInBounds_toArray, List.set_cons_zero, List.set_cons_succ]) | (refine only_read (by rfl) (fun K hK => ?_); refine quiet_load1 3 (.tmp 32) rfl yb 1 rfl (.int .i64 y.takes) _ (fun w' hw' => (by have := (HY5.out.only hw' hnx.2.2.1).at_ 1 _ rfl; simpa using this)) Tryd.underlying3 rfl ?_; refine hK _ ?_; clear hK K; simp only [Act.put, List.setIfInBounds_toArray, List.set_cons_zero, List.set_cons_succ]) | (refine only_read (by rfl) (fun K hK => ?_); refine quiet_load1 65 (.tmp 37) rfl h 0 rfl (.pointer (some ⟨ck, 0, none⟩)) _ (fun w' hw' => (hw'.cells h 0 HK5.out.hl hnx.1).trans HK5.out.c0) Tryd.underlying65 rfl ?_; refine hK _ ?_; clear hK K; simp only [Act.put, List.setIfInBounds_toArray, List.set_cons_zero, List.set_cons_succ]) | (refine only_read (by rfl) (fun K hK => ?_); refine quiet_runD 40 rfl (.agg #[.int .i64 b, .int .i64 y.takes, .int .i64 x.t]) (fun w => by kernel_rfl) ?_; refine hK _ ?_; clear hK K; simp only [Act.put, List.setIfInBounds_toArray, List.set_cons_zero, List.set_cons_succ]) | (refine only_read (by rfl) (fun K hK => ?_); go_big_quiet_op; refine hK _ ?_; clear hK K))
      refine only_act (by rfl) (fun K hK => ?_)
      have hok : okQ x.lq ⟨b, y.takes, x.t⟩ = true := HOK.out
      go_wp2_with (go_at_call 32; refine (qputT q bq full vq x.lq _ HK5.out.qs HK5.out.okl.2.1 (by have := HLL.out; omega) ⟨b, y.takes, x.t⟩ HOK.out).mono ?_; rintro e W6 ⟨v6, rfl, hq6, ho6, hv6⟩)
      refine ⟨_, Only.refl _ _, ho6, ?_⟩
      refine only_nil ?_
      have HK6 := HK5.out.setQs (lq' := x.lq ++ [⟨b, y.takes, x.t⟩]) hq6.out ho6 hv6 (HK5.out.okl.2.1.put HOK.out) (fun z hz => by
        rcases List.mem_append.1 hz with hz | hz
        · exact HK5.out.okl.2.2.2 z hz
        · simp at hz
          subst hz
          exact ⟨Int.le_refl _, HAT.out⟩)
      have HON6 : Hid (Only (fun i => ¬ T i) W W6) := hid (HON5.out.trans' (ho6.offT (by rintro i (c | c) ht; exact (HT9.out i ht).2.1 (by simp [c]); exact (HT9.out i ht).2.2.1 c)))
      have HFR : Hid (Hp w W6 h ck q fq p pq g bq bf n fr tu ra rp full T (x.free ⟨t, b, tp, at_, pm, ty⟩)) := hid ⟨v6, vf, by unfold HSt.free; rw [if_pos HOE.out, HOY.out, show (idxL x.lv (Cap.mk t b tp at_ pm ty).base).getD 0 = i by rw [show (Cap.mk t b tp at_ pm ty).base = b from rfl, HIX.out]; rfl]; exact HK6, (HT9.out.same HON5.out.size).upd ho6.size hv6 (fun _ e => .inl e)⟩
      clear HK6 hq6 ho6 hv6
      go_wp2
      go_ret
      exact ⟨rfl, HFR, HON6⟩
    · go_wp2
      go_ret
      exact ⟨rfl, hid ⟨vq, vf, by unfold HSt.free; rw [if_neg (by rw [HOE.out]; exact her0)]; exact HK2.out, HT9.out.same HXX.out.size⟩, hid (Only.ofT HXX.out)⟩

end Go.Proofs.YtoeiemeffiiidaaDoor
