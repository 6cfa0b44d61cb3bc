/- Layer 12: the same runs; what is free, beside all that was. -/
import Derived.Test.YtkjakaoimbmcjaaExtO
import Derived.ChangeKeysEq
namespace Go.Proofs.Ytkjakaoimbmcjaa
set_option linter.unusedSimpArgs false
set_option linter.unusedVariables false
open Go.RowKit

set_option maxRecDepth 100000
theorem info_int : (Try.prog.info? 3).map (fun i => (i.zero, i.size, i.bytes)) = some (some (.int .i64 0), 1, 8) := by kernel_rfl
theorem cells_int : Try.prog.cellsOf 3 = 1 := by kernel_rfl
theorem eqIn_two (x y : Int) (w : World) : (Op.equalIn 10000 38 (.agg #[.int .i64 x, .int .i64 y]) (.agg #[.int .i64 x, .int .i64 y])).run Try.prog w = .ok true w := by
  obtain ⟨i, hi, _⟩ := info_parts info_int
  rw [run_equalIn_array w 9999 _ _ Try.underlying38 hi, cells_int]
  simp [Op.eqItems, List.range_succ, part, run_equalIn_int, Try.underlying3, Result.andThen, cells_int]
attribute [go_sem] eqIn_two
theorem quiet_two {o : Oper} {a : Act} {w W : World} {K : Act → Prop} (x : Operand) (ho : o.op = .load 38 x) (b off : Nat) (hx : a.eval x = .pointer (some ⟨b, off, none⟩)) (u v : Int) (h0 : w.cell? ⟨b, off, none⟩ = some (.int .i64 u)) (h1 : w.cell? ⟨b, off + 1, none⟩ = some (.int .i64 v)) (hb : b < w.heap.size) (xx : Ext w W)
    (k : K (a.put o.dst (.agg #[.int .i64 u, .int .i64 v]))) : o.quiet Try.prog a (Grown W) K := by
  refine ⟨_, fun w' hw' => ?_, k⟩
  have y : Ext w w' := Ext.trans xx hw'.ext
  have hc' : w'.rangeAt b off [.int .i64 u, .int .i64 v] := fun j z hj => by
    have hj2 : j = 0 ∨ j = 1 := by
      have h := (List.getElem?_eq_some_iff.1 hj).1
      simp at h
      omega
    rcases hj2 with rfl | rfl
    · simp at hj
      subst hj
      exact (y.cells b _ hb).trans h0
    · simp at hj
      subst hj
      exact (y.cells b _ hb).trans h1
  unfold Oper.quietAt execOp
  rw [ho]
  simp only [hx, run_loadAt_mid w' b off 38 [.int .i64 u, .int .i64 v] _ hc' Try.underlying38 (by rfl) (by kernel_rfl), Sem.run_bind, Sem.run_map, Sem.run_pure, Result.andThen, Oper.quietUpon, and_self]
set_option maxHeartbeats 2000000 in
theorem esame_ (A B : Option Addr) (n ca cb : Nat) (L : List Pr) (w : World) (hA : RdP w A L) (hB : RdP w B L) (hn : n = L.length) (hb : L.length ≤ 1048576) :
    Calls Try.prog 19 #[.slice A n ca, .slice B n cb] w fun e w' => e = .returned (.bool true) ∧ Ext w w' := by
  have HA := hid hA
  have HB := hid hB
  have HN := hid hn
  have hnb : n ≤ 1048576 := by omega
  clear hA hB hn hb
  go_enter Try.func19, Try.ntmps19
  go_wp2
  go_loopw [5] (fun i wr => ∃ k : Nat, k ≤ n ∧ i = .int .i64 k ∧ Ext w wr) (fun i _ => n - (intOf i).toNat)
  case atStart => exact ⟨0, Nat.zero_le _, rfl, (by repeat (first | (with_reducible exact Ext.refl _) | (with_reducible refine Ext.undrew ?_) | (with_reducible refine Ext.grow ?_ _) | (with_reducible refine Ext.drew ?_) | (with_reducible refine Ext.drewN ?_ _) | (with_reducible refine Ext.alloc ?_ _) | (with_reducible assumption) | ((with_reducible refine Ext.setCell ?_ ?_ _); rotate_left; (first | exact Nat.le_refl _ | ((try dsimp only); (try simp only [World.size_alloc, grow_size, World.size_setCell]); omega)))))⟩
  case round =>
    obtain ⟨k, hk, rfl, hx⟩ := hrel
    by_cases hlt : k < n
    · have hkl : k < L.length := by have := HN.out; omega
      obtain ⟨b1, o1, rfl, hb1, c0, c1⟩ := (HA.out.ext hx).two hkl
      obtain ⟨b2, o2, rfl, hb2, d0, d1⟩ := (HB.out.ext hx).two hkl
      generalize (L[k]).lo = x at c0 d0
      generalize (L[k]).hi = y at c1 d1
      have hk0 : (0 : Int) ≤ (k : Int) := by omega
      have hk1 : (k : Int) < (n : Int) := by omega
      clear hkl
      go_wp2_with fail
      refine wp_region_step (.rd 0 (.rd 1 (.rd 2 (.rd 3 (.rd 4 (.rd 5 (.rd 6 (.rd 7 (.rd 8 .done))))))))) (by kernel_rfl) (by kernel_rfl) (fun _ _ d _ _ h => by cases d <;> exact h) (by simp only [Ord.map, nthOp, List.append]; rfl) ?_
      intro d0
      repeat' (first | (refine step_read (by rfl) (fun K hK => ?_); refine quiet_two (.tmp 19) rfl b1 (o1 + k * 2) rfl _ _ c0 c1 hb1 (by repeat (first | (with_reducible exact Ext.refl _) | (with_reducible refine Ext.undrew ?_) | (with_reducible refine Ext.grow ?_ _) | (with_reducible refine Ext.drew ?_) | (with_reducible refine Ext.drewN ?_ _) | (with_reducible refine Ext.alloc ?_ _) | (with_reducible assumption) | ((with_reducible refine Ext.setCell ?_ ?_ _); rotate_left; (first | exact Nat.le_refl _ | ((try dsimp only); (try simp only [World.size_alloc, grow_size, World.size_setCell]); omega))))) ?_; refine hK _ ?_; clear hK K; simp only [Act.put, List.setIfInBounds_toArray, List.set_cons_zero, List.set_cons_succ]) | (refine step_read (by rfl) (fun K hK => ?_); refine quiet_two (.tmp 23) rfl b2 (o2 + k * 2) rfl _ _ d0 d1 hb2 (by repeat (first | (with_reducible exact Ext.refl _) | (with_reducible refine Ext.undrew ?_) | (with_reducible refine Ext.grow ?_ _) | (with_reducible refine Ext.drew ?_) | (with_reducible refine Ext.drewN ?_ _) | (with_reducible refine Ext.alloc ?_ _) | (with_reducible assumption) | ((with_reducible refine Ext.setCell ?_ ?_ _); rotate_left; (first | exact Nat.le_refl _ | ((try dsimp only); (try simp only [World.size_alloc, grow_size, World.size_setCell]); omega))))) ?_; refine hK _ ?_; clear hK K; simp only [Act.put, List.setIfInBounds_toArray, List.set_cons_zero, List.set_cons_succ]) | (refine step_read (by rfl) (fun K hK => ?_); go_big_quiet_op; refine hK _ ?_; clear hK K) | (refine step_act (by rfl) (fun K hK => ?_); go_wp2_with (first | fail); refine ⟨_, Ext.refl _, (by repeat (first | (with_reducible exact Ext.refl _) | (with_reducible refine Ext.undrew ?_) | (with_reducible refine Ext.grow ?_ _) | (with_reducible refine Ext.drew ?_) | (with_reducible refine Ext.drewN ?_ _) | (with_reducible refine Ext.alloc ?_ _) | (with_reducible assumption) | ((with_reducible refine Ext.setCell ?_ ?_ _); rotate_left; (first | exact Nat.le_refl _ | ((try dsimp only); (try simp only [World.size_alloc, grow_size, World.size_setCell]); omega))))), ?_⟩) | refine step_br ?_ ?_)
      all_goals refine step_nil ?_
      go_wp2
      go_roundw
      case rel => exact ⟨k + 1, by omega, by first | rfl | go_num, (by repeat (first | (with_reducible exact Ext.refl _) | (with_reducible refine Ext.undrew ?_) | (with_reducible refine Ext.grow ?_ _) | (with_reducible refine Ext.drew ?_) | (with_reducible refine Ext.drewN ?_ _) | (with_reducible refine Ext.alloc ?_ _) | (with_reducible assumption) | ((with_reducible refine Ext.setCell ?_ ?_ _); rotate_left; (first | exact Nat.le_refl _ | ((try dsimp only); (try simp only [World.size_alloc, grow_size, World.size_setCell]); omega)))))⟩
      case measure => first | (simp [intOf]; done) | (simp [intOf]; omega)
    · go_wp2
      go_ret
      exact ⟨rfl, (by repeat (first | (with_reducible exact Ext.refl _) | (with_reducible refine Ext.undrew ?_) | (with_reducible refine Ext.grow ?_ _) | (with_reducible refine Ext.drew ?_) | (with_reducible refine Ext.drewN ?_ _) | (with_reducible refine Ext.alloc ?_ _) | (with_reducible assumption) | ((with_reducible refine Ext.setCell ?_ ?_ _); rotate_left; (first | exact Nat.le_refl _ | ((try dsimp only); (try simp only [World.size_alloc, grow_size, World.size_setCell]); omega)))))⟩

/-- What is free, beside all that was. -/
def EX (w0 W : World) (q base : Nat) (fr to : Int) (v : Value) (l : List Pr) : Prop := Fr W q base fr to v l ∧ Ext w0 W ∧ w0.heap.size ≤ base
theorem EX.ext {w0 W w' : World} {q base : Nat} {fr to : Int} {v : Value} {l : List Pr} (h : EX w0 W q base fr to v l) (x : Ext W w') : EX w0 w' q base fr to v l := ⟨h.1.ext x, h.2.1.trans x, h.2.2⟩
theorem EX.upd {w0 W w' : World} {q base : Nat} {fr to : Int} {v v' : Value} {l l' : List Pr} (h : EX w0 W q base fr to v l) (h' : Fr w' q base fr to v' l') (x : Only (tch q v) W w') : EX w0 w' q base fr to v' l' :=
  ⟨h', Ext.only h.2.1 x (by
    rintro i (rfl | e)
    · exact Nat.le_trans h.2.2 h.1.2.2.2.2.1
    · exact Nat.le_trans h.2.2 (h.1.2.2.2.1.lt i e).1), h.2.2⟩
theorem xAll (w0 : World) (q base : Nat) (fr to : Int) (v : Value) (l : List Pr) (W : World) (h : EX w0 W q base fr to v l) (ho : okF l) (hl : l.length ≤ 10000000) : Calls Try.prog 15 #[.pointer (some ⟨q, 0, none⟩)] W fun e w' => e = .returned (.int .i64 (sumP l)) ∧ Hid (EX w0 w' q base fr to v l) ∧ Hid (Ext W w') := by
  refine (eall_ q base fr to v l W h.1 hl ho).mono ?_
  rintro e w' ⟨rfl, hx⟩
  exact ⟨rfl, hid (h.ext hx), hid hx⟩
theorem xMost (w0 : World) (q base : Nat) (fr to : Int) (v : Value) (l : List Pr) (W : World) (h : EX w0 W q base fr to v l) (ho : okF l) (hl : l.length ≤ 10000000) : Calls Try.prog 17 #[.pointer (some ⟨q, 0, none⟩)] W fun e w' => e = .returned (.int .i64 (mostP l)) ∧ Hid (EX w0 w' q base fr to v l) ∧ Hid (Ext W w') := by
  refine (emost_ q base fr to v l W h.1 hl ho).mono ?_
  rintro e w' ⟨rfl, hx⟩
  exact ⟨rfl, hid (h.ext hx), hid hx⟩
theorem xRuns (w0 : World) (q base : Nat) (fr to : Int) (v : Value) (l : List Pr) (W : World) (h : EX w0 W q base fr to v l) (hl : l.length ≤ 1000000) : Calls Try.prog 20 #[.pointer (some ⟨q, 0, none⟩)] W fun e w' => ∃ A ca, e = .returned (.slice A l.length ca) ∧ Hid (RdP w' A l) ∧ Hid (EX w0 w' q base fr to v l) ∧ Hid (Ext W w') ∧ Hid (∀ b o, A = some ⟨b, o, none⟩ → W.heap.size ≤ b) := by
  refine (erunsT q base fr to v l W h.1 hl).mono ?_
  rintro e w' ⟨A, ca, rfl, hr, hx, hf⟩
  exact ⟨A, ca, rfl, hid hr.out, hid (h.ext hx), hid hx, hf⟩
theorem xTakeNo (w0 : World) (q base : Nat) (fr to : Int) (v : Value) (l : List Pr) (W : World) (h : EX w0 W q base fr to v l) (ho : okF l) (hl : l.length ≤ 10000000) (n : Int) (hn : n < 1 ∨ g16 n = false ∨ l.findIdx? (fits n) = none) : Calls Try.prog 11 #[.pointer (some ⟨q, 0, none⟩), .int .i64 n] W fun e w' => e = .returned (.tuple #[.int .i64 0, .bool false]) ∧ Hid (EX w0 w' q base fr to v l) ∧ Hid (Ext W w') := by
  have : Calls Try.prog 11 #[.pointer (some ⟨q, 0, none⟩), .int .i64 n] W fun e w' => e = .returned (.tuple #[.int .i64 0, .bool false]) ∧ Ext W w' := by
    by_cases h1 : n < 1
    · exact take_no1 q base fr to v l W h.1 n h1
    · cases hg : g16 n with
      | false => exact take_no2 q base fr to v l W h.1 n (by omega) hg
      | true =>
        rcases hn with hn | hn | hn
        · exact absurd hn h1
        · rw [hg] at hn; cases hn
        · exact take_no3 q base fr to v l W h.1 hl ho n (by omega) hg hn
  refine this.mono ?_
  rintro e w' ⟨rfl, hx⟩
  exact ⟨rfl, hid (h.ext hx), hid hx⟩
theorem xTake (w0 : World) (q base : Nat) (fr to : Int) (v : Value) (l : List Pr) (W : World) (h : EX w0 W q base fr to v l) (ho : okF l) (hl : l.length ≤ 10000000) (n : Int) (hn : 1 ≤ n) (hg : g16 n = true) (k : Nat) (hk : k < l.length) (hf : l.findIdx? (fits n) = some k) (l' : List Pr) (hl' : takeK l k n hk = l') (x : Int) (hx : (l[k]).lo = x) : Calls Try.prog 11 #[.pointer (some ⟨q, 0, none⟩), .int .i64 n] W fun e w' => ∃ v', e = .returned (.tuple #[.int .i64 x, .bool true]) ∧ Hid (EX w0 w' q base fr to v' l') ∧ Hid (Only (tch q v) W w') := by
  subst hl' hx
  refine (take_yes q base fr to v l W h.1 hl ho n hn hg k hk hf).mono ?_
  rintro e w' ⟨v', rfl, hq, ho', _⟩
  exact ⟨v', rfl, hid (h.upd hq.out ho'.out), ho'⟩
theorem xGiveMeets (w0 : World) (q base : Nat) (fr to : Int) (v : Value) (l : List Pr) (W : World) (h : EX w0 W q base fr to v l) (at_ n : Int) (hg : [at_, n].all g16 = true) (hb0 : 0 ≤ fr) (hb1 : to ≤ 16777216) (h0 : 1 ≤ n) (h1 : fr ≤ at_) (h2 : at_ ≤ to) (h3 : n ≤ to - at_) (hl9 : l.length ≤ 10000000) (hmono : ∀ (a b : Nat) (hb : b < l.length) (hab : a ≤ b), at_ < (l[a]'(by omega)).hi → at_ < (l[b]).hi) (k : Nat) (hkl : k ≤ l.length) (hlow : ∀ (j : Nat) (hj : j < l.length), j < k → (l[j]).hi ≤ at_) (hhigh : ∀ hk : k < l.length, at_ < (l[k]).hi) (hk : k < l.length) (hov : (l[k]).lo < at_ + n) : Calls Try.prog 13 #[.pointer (some ⟨q, 0, none⟩), .int .i64 at_, .int .i64 n] W fun e w' => e = .returned (.bool false) ∧ Hid (EX w0 w' q base fr to v l) := by
  refine (give_n6 q base fr to v l W h.1 at_ n hg hb0 hb1 h0 h1 h2 h3 hl9 hmono k hkl hlow hhigh hk hov).mono ?_
  rintro e w' ⟨rfl, hx⟩
  exact ⟨rfl, hid (h.ext hx)⟩
theorem xGive (w0 : World) (q base : Nat) (fr to : Int) (v : Value) (l : List Pr) (W : World) (h : EX w0 W q base fr to v l) (at_ n : Int) (hg : [at_, n].all g16 = true) (hb0 : 0 ≤ fr) (hb1 : to ≤ 16777216) (h0 : 1 ≤ n) (h1 : fr ≤ at_) (h2 : at_ ≤ to) (h3 : n ≤ to - at_) (hl9 : l.length ≤ 10000000) (hmono : ∀ (a b : Nat) (hb : b < l.length) (hab : a ≤ b), at_ < (l[a]'(by omega)).hi → at_ < (l[b]).hi) (k : Nat) (hkl : k ≤ l.length) (hlow : ∀ (j : Nat) (hj : j < l.length), j < k → (l[j]).hi ≤ at_) (hhigh : ∀ hk : k < l.length, at_ < (l[k]).hi) (hge : ∀ hk : k < l.length, at_ + n ≤ (l[k]).lo) (l' : List Pr) (hl' : giveL l k ⟨at_, at_ + n⟩ = l') : Calls Try.prog 13 #[.pointer (some ⟨q, 0, none⟩), .int .i64 at_, .int .i64 n] W fun e w' => ∃ v', e = .returned (.bool true) ∧ Hid (EX w0 w' q base fr to v' l') ∧ Hid (Only (tch q v) W w') := by
  subst hl'
  have : Calls Try.prog 13 #[.pointer (some ⟨q, 0, none⟩), .int .i64 at_, .int .i64 n] W fun e w' => ∃ v', e = .returned (.bool true) ∧ Hid (Fr w' q base fr to v' (giveL l k ⟨at_, at_ + n⟩)) ∧ Hid (Only (tch q v) W w') ∧ (∀ g, v'.ownBlock = some g → v.ownBlock = some g ∨ W.heap.size ≤ g) := by
    by_cases hk : k < l.length
    · exact give_yes1 q base fr to v l W h.1 at_ n hg hb0 hb1 h0 h1 h2 h3 hl9 hmono k hkl hlow hhigh hk (hge hk)
    · exact give_yes0 q base fr to v l W h.1 at_ n hg hb0 hb1 h0 h1 h2 h3 hl9 hmono k hkl hlow hhigh (hid (by omega))
  refine this.mono ?_
  rintro e w' ⟨v', rfl, hq, ho', _⟩
  exact ⟨v', rfl, hid (h.upd hq.out ho'.out), ho'⟩

end Go.Proofs.Ytkjakaoimbmcjaa
