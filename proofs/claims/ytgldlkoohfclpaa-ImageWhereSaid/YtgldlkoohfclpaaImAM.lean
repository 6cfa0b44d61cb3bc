/- Layer 17: the document: SameWhere; pairs compared. -/
import Derived.Test.YtgldlkoohfclpaaImAG
import Derived.Test.YtgldlkoohfclpaaImM
import Derived.ChangeKeysEq
namespace Go.Proofs.Ytgldlkoohfclpaa
set_option linter.unusedSimpArgs false
set_option linter.unusedVariables false
open Go.RowKit

set_option maxRecDepth 100000 in
set_option maxHeartbeats 4000000 in
theorem rsamew_ (A0 A1 A2 A3 B0 B1 B2 B3 : Option Addr) (a0 a1 a2 a3 b0 b1 b2 b3 n0 n1 n2 n3 : Nat) (C D H : List Sp) (S : List Int) (pg : Int) (w : World) (h0 : C.length = n0) (h1 : D.length = n1) (h2 : H.length = n2) (h3 : S.length = n3) (l0 : n0 ≤ 1000000) (l1 : n1 ≤ 1000000) (l2 : n2 ≤ 1000000) (l3 : n3 ≤ 1000000) (r0 : RdF SpF w A0 C) (r1 : RdF SpF w A1 D) (r2 : RdF SpF w A2 H) (r3 : RdF intF w A3 S) (s0 : RdF SpF w B0 C) (s1 : RdF SpF w B1 D) (s2 : RdF SpF w B2 H) (s3 : RdF intF w B3 S) : Calls Try.prog 21 #[.agg #[.slice A0 n0 a0, .slice A1 n1 a1, .slice A2 n2 a2, .slice A3 n3 a3, .int .i64 pg], .agg #[.slice B0 n0 b0, .slice B1 n1 b1, .slice B2 n2 b2, .slice B3 n3 b3, .int .i64 pg]] w fun e w' => e = .returned (.bool true) ∧ Ext w w' := by
  have HW0 := hid (fun W (hx : Ext w W) => rrows_ A0 B0 a0 b0 n0 C W h0 (r0.ext hx) (s0.ext hx) l0)
  have HW1 := hid (fun W (hx : Ext w W) => rrows_ A1 B1 a1 b1 n1 D W h1 (r1.ext hx) (s1.ext hx) l1)
  have HW2 := hid (fun W (hx : Ext w W) => rrows_ A2 B2 a2 b2 n2 H W h2 (r2.ext hx) (s2.ext hx) l2)
  have HR3 := hid r3
  have HS3 := hid s3
  have HN3 := hid h3
  clear h0 h1 h2 h3 r0 r1 r2 r3 s0 s1 s2 s3 l0 l1 l2
  go_enter Try.func21, Try.ntmps21
  go_upto_region 1 with (fail)
  refine wp_gen (fun V => Hid (Ext w V) ∧ Hid (Row V w.heap.size 0 [.slice A0 n0 a0, .slice A1 n1 a1, .slice A2 n2 a2, .slice A3 n3 a3, .int .i64 pg]) ∧ Hid (Row V (w.heap.size + 1) 0 [.slice B0 n0 b0, .slice B1 n1 b1, .slice B2 n2 b2, .slice B3 n3 b3, .int .i64 pg])) ⟨hid (by repeat (first | (with_reducible exact Ext.refl _) | (with_reducible refine Ext.undrew ?_) | (with_reducible refine Ext.grow ?_ _) | (with_reducible refine Ext.drew ?_) | (with_reducible refine Ext.drewN ?_ _) | (with_reducible refine Ext.alloc ?_ _) | (with_reducible assumption) | ((with_reducible refine Ext.setCell ?_ ?_ _); rotate_left; (first | exact Nat.le_refl _ | ((try dsimp only); (try simp only [World.size_alloc, grow_size, World.size_setCell]); omega))))), hid ((Row.new w _ _).ext ((Ext.refl _).alloc _)), hid ?_⟩ ?_
  · have h9 := Row.new (w.alloc (.cells #[.slice A0 n0 a0, .slice A1 n1 a1, .slice A2 n2 a2, .slice A3 n3 a3, .int .i64 pg] 45)) #[.slice B0 n0 b0, .slice B1 n1 b1, .slice B2 n2 b2, .slice B3 n3 b3, .int .i64 pg] 45
    rw [World.size_alloc] at h9
    exact h9
  rintro V ⟨HV, HP, HQ⟩
  obtain ⟨p, hp⟩ : ∃ y, w.heap.size = y := ⟨_, rfl⟩
  rw [hp] at HP HQ ⊢
  obtain ⟨q, hq⟩ : ∃ y, p + 1 = y := ⟨_, rfl⟩
  rw [hq] at HQ ⊢
  clear hp hq
  have x := HP.out
  have xl := x.lt
  have xc0 := x.range 0 _ rfl
  have xc1 := x.range 1 _ rfl
  have xc2 := x.range 2 _ rfl
  have xc3 := x.range 3 _ rfl
  have xc4 := x.range 4 _ rfl
  simp only [Nat.zero_add] at xc1 xc2 xc3 xc4
  clear x
  have y := HQ.out
  have yl := y.lt
  have yc0 := y.range 0 _ rfl
  have yc1 := y.range 1 _ rfl
  have yc2 := y.range 2 _ rfl
  have yc3 := y.range 3 _ rfl
  have yc4 := y.range 4 _ rfl
  simp only [Nat.zero_add] at yc1 yc2 yc3 yc4
  clear y
  go_wp2_with fail
  refine (HW0.out V HV.out).mono ?_
  rintro e V1 ⟨rfl, hx⟩
  replace HV := hid (HV.out.trans hx)
  replace HP := hid (HP.out.ext hx)
  replace HQ := hid (HQ.out.ext hx)
  clear hx HW0 xl xc0 xc1 xc2 xc3 xc4 yl yc0 yc1 yc2 yc3 yc4
  have x := HP.out
  have xl := x.lt
  have xc0 := x.range 0 _ rfl
  have xc1 := x.range 1 _ rfl
  have xc2 := x.range 2 _ rfl
  have xc3 := x.range 3 _ rfl
  have xc4 := x.range 4 _ rfl
  simp only [Nat.zero_add] at xc1 xc2 xc3 xc4
  clear x
  have y := HQ.out
  have yl := y.lt
  have yc0 := y.range 0 _ rfl
  have yc1 := y.range 1 _ rfl
  have yc2 := y.range 2 _ rfl
  have yc3 := y.range 3 _ rfl
  have yc4 := y.range 4 _ rfl
  simp only [Nat.zero_add] at yc1 yc2 yc3 yc4
  clear y
  go_wp2_with fail
  refine (HW1.out V1 HV.out).mono ?_
  rintro e V2 ⟨rfl, hx⟩
  replace HV := hid (HV.out.trans hx)
  replace HP := hid (HP.out.ext hx)
  replace HQ := hid (HQ.out.ext hx)
  clear hx HW1 xl xc0 xc1 xc2 xc3 xc4 yl yc0 yc1 yc2 yc3 yc4
  have x := HP.out
  have xl := x.lt
  have xc0 := x.range 0 _ rfl
  have xc1 := x.range 1 _ rfl
  have xc2 := x.range 2 _ rfl
  have xc3 := x.range 3 _ rfl
  have xc4 := x.range 4 _ rfl
  simp only [Nat.zero_add] at xc1 xc2 xc3 xc4
  clear x
  have y := HQ.out
  have yl := y.lt
  have yc0 := y.range 0 _ rfl
  have yc1 := y.range 1 _ rfl
  have yc2 := y.range 2 _ rfl
  have yc3 := y.range 3 _ rfl
  have yc4 := y.range 4 _ rfl
  simp only [Nat.zero_add] at yc1 yc2 yc3 yc4
  clear y
  go_wp2_with fail
  refine (HW2.out V2 HV.out).mono ?_
  rintro e V3 ⟨rfl, hx⟩
  replace HV := hid (HV.out.trans hx)
  replace HP := hid (HP.out.ext hx)
  replace HQ := hid (HQ.out.ext hx)
  clear hx HW2 xl xc0 xc1 xc2 xc3 xc4 yl yc0 yc1 yc2 yc3 yc4
  have x := HP.out
  have xl := x.lt
  have xc0 := x.range 0 _ rfl
  have xc1 := x.range 1 _ rfl
  have xc2 := x.range 2 _ rfl
  have xc3 := x.range 3 _ rfl
  have xc4 := x.range 4 _ rfl
  simp only [Nat.zero_add] at xc1 xc2 xc3 xc4
  clear x
  have y := HQ.out
  have yl := y.lt
  have yc0 := y.range 0 _ rfl
  have yc1 := y.range 1 _ rfl
  have yc2 := y.range 2 _ rfl
  have yc3 := y.range 3 _ rfl
  have yc4 := y.range 4 _ rfl
  simp only [Nat.zero_add] at yc1 yc2 yc3 yc4
  clear y
  go_wp2
  clear xl xc0 xc1 xc2 xc3 xc4 yl yc0 yc1 yc2 yc3 yc4
  go_loopw [5] (fun i wr => ∃ (k : Nat), k ≤ n3 ∧ i = .int .i64 k ∧ Hid (Ext V3 wr)) (fun i _ => n3 - (intOf i).toNat)
  case atStart => exact ⟨0, Nat.zero_le _, rfl, hid (Ext.refl _)⟩
  case round =>
    obtain ⟨k, hk, rfl, HX⟩ := hrel
    have x := HP.out.ext HX.out
    have xl := x.lt
    have xc0 := x.range 0 _ rfl
    have xc1 := x.range 1 _ rfl
    have xc2 := x.range 2 _ rfl
    have xc3 := x.range 3 _ rfl
    have xc4 := x.range 4 _ rfl
    simp only [Nat.zero_add] at xc1 xc2 xc3 xc4
    clear x
    have y := HQ.out.ext HX.out
    have yl := y.lt
    have yc0 := y.range 0 _ rfl
    have yc1 := y.range 1 _ rfl
    have yc2 := y.range 2 _ rfl
    have yc3 := y.range 3 _ rfl
    have yc4 := y.range 4 _ rfl
    simp only [Nat.zero_add] at yc1 yc2 yc3 yc4
    clear y
    by_cases hlt : k < n3
    · have hk1 : (k : Int) < (n3 : Int) := by omega
      have hk0 : (0 : Int) ≤ (k : Int) := by omega
      have hkl : k < S.length := by rw [HN3.out]; exact hlt
      obtain ⟨z, hz⟩ : ∃ y, S[k] = y := ⟨_, rfl⟩
      obtain ⟨c1, d1, eA, hb1, hr1⟩ := (HR3.out.ext (HV.out.trans HX.out)).elem int_len hkl z hz
      obtain ⟨c2, d2, eB, hb2, hr2⟩ := (HS3.out.ext (HV.out.trans HX.out)).elem int_len hkl z hz
      have e1 := hr1 0 _ rfl
      have e2 := hr2 0 _ rfl
      simp only [Nat.add_zero, Nat.mul_one] at e1 e2
      subst eA
      subst eB
      clear hkl hz hr1 hr2
      go_upto_region 6 with (fail)
      refine wp_region_grow (by kernel_rfl) (by kernel_rfl) (by first | (simp only [List.append]; rfl) | rfl) ?_
      (repeat (go_big_quiet_step (fail)))
      refine wpQuiet_nil ?_
      intro wq hq
      obtain ⟨dq, rfl⟩ := hq
      replace HX := hid (HX.out.trans (Ext.grow (Ext.refl wr) dq))
      go_wp2
      go_roundw
      case rel => exact ⟨k + 1, by omega, by go_num, HX⟩
      case measure => simp [intOf]; omega
    · obtain rfl : n3 = k := by omega
      have hk1 : ¬ (n3 : Int) < (n3 : Int) := by omega
      go_wp2
      go_ret
      exact ⟨rfl, HV.out.trans HX.out⟩
theorem info_capG : (Try.prog.info? 39).map (fun i => (i.zero, i.size, i.bytes)) = some (some (.agg #[.bool false, .int .i64 0, .int .i64 0, .int .i64 0, .int .i64 0, .int .i64 0]), 6, 48) := by kernel_rfl
theorem cap_equalP (d : Nat) (t : Bool) (b tp a p ty : Int) (w : World) : (Op.equalIn (d + 2) 39 (.agg #[.bool t, .int .i64 b, .int .i64 tp, .int .i64 a, .int .i64 p, .int .i64 ty]) (.agg #[.bool t, .int .i64 b, .int .i64 tp, .int .i64 a, .int .i64 p, .int .i64 ty])).run Try.prog w = .ok true w := by
  simp [go_sem]
theorem partCP (xs : Array Value) (off : Nat) (w : World) : (part 39 xs off).run Try.prog w = .ok (.agg (xs.extract off (off + 6))) w := by
  obtain ⟨i, hi, _, hs, _⟩ := info_parts info_capG
  simp [part, isAgg, run_underlying Try.underlying39, sizeOf, typeInfo, hi, hs]
theorem pair_equal (d : Nat) (x y : Cap) (w : World) : (Op.equalIn (d + 3) 40 (.agg #[.bool x.tag, .int .i64 x.base, .int .i64 x.top, .int .i64 x.at_, .int .i64 x.perms, .int .i64 x.type, .bool y.tag, .int .i64 y.base, .int .i64 y.top, .int .i64 y.at_, .int .i64 y.perms, .int .i64 y.type]) (.agg #[.bool x.tag, .int .i64 x.base, .int .i64 x.top, .int .i64 x.at_, .int .i64 x.perms, .int .i64 x.type, .bool y.tag, .int .i64 y.base, .int .i64 y.top, .int .i64 y.at_, .int .i64 y.perms, .int .i64 y.type])).run Try.prog w = .ok true w := by
  obtain ⟨i, hi, _⟩ := info_parts info_capG
  rw [run_equalIn_array w (d + 2) _ _ Try.underlying40 hi]
  have hc : Try.prog.cellsOf 39 = 6 := by kernel_rfl
  simp [Op.eqItems, hc, List.range_succ, cap_equalP, partCP, Result.andThen]
theorem pair_ne (p : Cap × Cap) (o : Oper) (x y : Operand) (s : TypeId) (ρ : Operand → Value) (ho : o.op = .binOp .neq 40 x y s) (hx : ρ x = .agg (PrF p).toArray) (hy : ρ y = .agg (PrF p).toArray) (w : World) : (execOp ρ o).run Try.prog w = .ok (.value (.bool false)) w := by
  obtain ⟨x0, y0⟩ := p
  have hg : (eqGuard .neq 40 x y (.agg (PrF (x0, y0)).toArray) (.agg (PrF (x0, y0)).toArray)).run Try.prog w = .ok () w := run_eqGuard_agg w _ _ _ _ _ _ (by kernel_rfl)
  have he : (Op.equal 40 (.agg (PrF (x0, y0)).toArray) (.agg (PrF (x0, y0)).toArray)).run Try.prog w = .ok true w := by
    unfold Op.equal
    exact pair_equal 9997 x0 y0 w
  unfold execOp
  rw [ho]
  simp only [hx, hy, Sem.run_bind, hg, Result.andThen_ok, binOp, he, Sem.run_pure]
  rfl

end Go.Proofs.Ytgldlkoohfclpaa
