/- Layer 15: spans. -/
import Derived.Test.YtcbniifpbcgamaaCodA
import Derived.Test.YtcbniifpbcgamaaH
import Derived.Lib.OthersKept
import Derived.Laws.RangeString
namespace Go.Proofs.Ytcbniifpbcgamaa
set_option linter.unusedSimpArgs false
set_option linter.unusedVariables false
open Go.RowKit


def hasV (lo hi n : Int) : Bool := decide (lo ≤ n) && decide (n ≤ hi)
def loOf (ch : Nat) : Int := if ch = 114 then 0 else if ch = 105 then 0 else if ch = 119 then -32768 else 0
def hiOf (ch : Nat) : Int := if ch = 114 then 7 else if ch = 105 then 255 else if ch = 119 then 32767 else 0
def chAt (s : ByteArray) (i : Nat) : Nat := (s.data.toList.getD i 0).toNat
theorem chAt_get {s : ByteArray} {i : Nat} (h : i < s.size) : (s[i]'h).toNat = chAt s i := by
  unfold chAt
  have h' : i < s.data.toList.length := by simpa using h
  rw [List.getD_eq_getElem?_getD, List.getElem?_eq_getElem h']
  rfl
def okAt (s : ByteArray) (v : Nat → Int) (i : Nat) : Bool := hasV (loOf (chAt s i)) (hiOf (chAt s i)) (v i)
def rightS (s : ByteArray) (v : Nat → Int) : Bool := (List.range s.size).all (okAt s v) && !decide (s.size = 0)
def v3 (a b c : Int) : Nat → Int := fun i => if i = 0 then a else if i = 1 then b else c
theorem fZ_has (n : Int) : hasV 0 0 n = fZ n := by unfold hasV fZ; rw [Bool.eq_iff_iff]; simp; omega
theorem all3 (s : ByteArray) (h : s.size = 3) (v : Nat → Int) : rightS s v = (okAt s v 0 && (okAt s v 1 && okAt s v 2)) := by
  unfold rightS
  rw [h]
  simp [List.range_succ, Bool.and_assoc]
theorem rightS_kstr (op a b c : Int) : rightS (kstr (kd op)) (v3 a b c) = rightI op a b c := by
  unfold rightI
  rcases kd_cases op with h | h | h | h | h | h | h | h <;> rw [h]
  · rfl
  · rw [all3 _ rfl]
    have e0 : chAt (kstr 1) 0 = 45 := by decide
    have e1 : chAt (kstr 1) 1 = 45 := by decide
    have e2 : chAt (kstr 1) 2 = 45 := by decide
    simp only [okAt, e0, e1, e2, kA, kB, kC]
    simp [loOf, hiOf, v3, fZ_has, fR, fI, fW, hasV, fZ]
    try (rw [Bool.eq_iff_iff]; simp; omega)
  · rw [all3 _ rfl]
    have e0 : chAt (kstr 2) 0 = 114 := by decide
    have e1 : chAt (kstr 2) 1 = 119 := by decide
    have e2 : chAt (kstr 2) 2 = 118 := by decide
    simp only [okAt, e0, e1, e2, kA, kB, kC]
    simp [loOf, hiOf, v3, fZ_has, fR, fI, fW, hasV, fZ]
    try (rw [Bool.eq_iff_iff]; simp; omega)
  · rw [all3 _ rfl]
    have e0 : chAt (kstr 3) 0 = 114 := by decide
    have e1 : chAt (kstr 3) 1 = 114 := by decide
    have e2 : chAt (kstr 3) 2 = 45 := by decide
    simp only [okAt, e0, e1, e2, kA, kB, kC]
    simp [loOf, hiOf, v3, fZ_has, fR, fI, fW, hasV, fZ]
    try (rw [Bool.eq_iff_iff]; simp; omega)
  · rw [all3 _ rfl]
    have e0 : chAt (kstr 4) 0 = 114 := by decide
    have e1 : chAt (kstr 4) 1 = 114 := by decide
    have e2 : chAt (kstr 4) 2 = 114 := by decide
    simp only [okAt, e0, e1, e2, kA, kB, kC]
    simp [loOf, hiOf, v3, fZ_has, fR, fI, fW, hasV, fZ]
    try (rw [Bool.eq_iff_iff]; simp; omega)
  · rw [all3 _ rfl]
    have e0 : chAt (kstr 5) 0 = 45 := by decide
    have e1 : chAt (kstr 5) 1 = 119 := by decide
    have e2 : chAt (kstr 5) 2 = 118 := by decide
    simp only [okAt, e0, e1, e2, kA, kB, kC]
    simp [loOf, hiOf, v3, fZ_has, fR, fI, fW, hasV, fZ]
    try (rw [Bool.eq_iff_iff]; simp; omega)
  · rw [all3 _ rfl]
    have e0 : chAt (kstr 6) 0 = 114 := by decide
    have e1 : chAt (kstr 6) 1 = 114 := by decide
    have e2 : chAt (kstr 6) 2 = 105 := by decide
    simp only [okAt, e0, e1, e2, kA, kB, kC]
    simp [loOf, hiOf, v3, fZ_has, fR, fI, fW, hasV, fZ]
    try (rw [Bool.eq_iff_iff]; simp; omega)
  · rw [all3 _ rfl]
    have e0 : chAt (kstr 7) 0 = 105 := by decide
    have e1 : chAt (kstr 7) 1 = 45 := by decide
    have e2 : chAt (kstr 7) 2 = 45 := by decide
    simp only [okAt, e0, e1, e2, kA, kB, kC]
    simp [loOf, hiOf, v3, fZ_has, fR, fI, fW, hasV, fZ]
    try (rw [Bool.eq_iff_iff]; simp; omega)
theorem kstr_ascii : ∀ j : Fin 8, ∀ i : Fin 3, chAt (kstr j.val) i.val < 128 := by decide
theorem kstr_size : ∀ j : Fin 8, (kstr j.val).size = if j.val = 0 then 0 else 3 := by decide
theorem kstr_w : ∀ j : Fin 8, ∀ i : Fin 3, (chAt (kstr j.val) i.val = 119 → i.val = 1) ∧ (chAt (kstr j.val) i.val = 118 → i.val = 2) := by decide
theorem kd_lt (op : Int) : kd op < 8 := by rcases kd_cases op with h | h | h | h | h | h | h | h <;> omega
theorem turn_iter (w : World) (k : Nat) (s : ByteArray) (i : Nat) : w.iterAt k s i = turn w k (.stringIter s i) := rfl
theorem enterOf' {P : Program} {f : FuncId} {fn : Func} (hf : P.funcs[f]? = some fn) (hname : (fn.name == "runtime.NumGoroutine") = false) (hc : fn.body.isSome = true) (args : Array Value) (w : World) :
    Sem.run P (callFunc f args) w = .ok (.enter f args) w := by
  have h1 : ¬ fn.name = "runtime.NumGoroutine" := by simpa using hname
  obtain ⟨c, hb⟩ := Option.isSome_iff_exists.1 hc
  simp [callFunc, hf, h1, hb, Sem.run]
set_option maxHeartbeats 800000 in
theorem has_ (lo hi n : Int) (w : World) :
    Calls Try.prog 25 #[.agg #[.int .i64 lo, .int .i64 hi], .int .i64 n] w fun e w' => e = .returned (.bool (hasV lo hi n)) ∧ Ext w w' := by
  unfold hasV
  by_cases h1 : lo ≤ n <;> by_cases h2 : n ≤ hi
  all_goals simp only [h1, h2, decide_true, decide_false, Bool.and_true, Bool.true_and, Bool.and_false, Bool.false_and]
  all_goals (go_enter Try.func25, Try.ntmps25; go_wp2)
  all_goals go_ret
  all_goals exact ⟨rfl, (by repeat (first | (with_reducible exact Ext.refl _) | (with_reducible refine Ext.undrew ?_) | (with_reducible refine Ext.grow ?_ _) | (with_reducible refine Ext.drew ?_) | (with_reducible refine Ext.drewN ?_ _) | (with_reducible refine Ext.alloc ?_ _) | (with_reducible assumption) | ((with_reducible refine Ext.setCell ?_ ?_ _); rotate_left; (first | exact Nat.le_refl _ | ((try dsimp only); (try simp only [World.size_alloc, grow_size, World.size_setCell]); omega)))))⟩

set_option maxHeartbeats 800000 in
theorem of_ (ch : Nat) (w : World) :
    Calls Try.prog 23 #[.int .i32 ch] w fun e w' => e = .returned (.func (.func 25) #[.agg #[.int .i64 (loOf ch), .int .i64 (hiOf ch)]] #[]) ∧ w = w' := by
  by_cases h1 : ch = 114
  · subst h1
    go_enter Try.func23, Try.ntmps23
    go_wp2
    go_ret
    exact ⟨rfl, rfl⟩
  · by_cases h2 : ch = 105
    · subst h2
      go_enter Try.func23, Try.ntmps23
      go_wp2
      go_ret
      exact ⟨rfl, rfl⟩
    · by_cases h3 : ch = 119
      · subst h3
        go_enter Try.func23, Try.ntmps23
        go_wp2
        go_ret
        exact ⟨rfl, rfl⟩
      · have e : loOf ch = 0 ∧ hiOf ch = 0 := by unfold loOf hiOf; simp [h1, h2, h3]
        rw [e.1, e.2]
        have e1 : ((ch : Int) == 114) = false := by simp; omega
        have e2 : ((ch : Int) == 105) = false := by simp; omega
        have e3 : ((ch : Int) == 119) = false := by simp; omega
        clear e h1 h2 h3
        go_enter Try.func23, Try.ntmps23
        go_wp2
        go_ret
        exact ⟨rfl, rfl⟩

set_option maxHeartbeats 800000 in
theorem kinds_ (op : Int) (w : World) :
    Calls Try.prog 15 #[.int .i64 op] w fun e w' => e = .returned (.string (kstr (kd op))) ∧ Ext w w' := by
  rcases kd_cases op with h | h | h | h | h | h | h | h
  · rw [h]; exact kinds0 op w h
  · rw [h]; exact kinds1 op w h
  · rw [h]; exact kinds2 op w h
  · rw [h]; exact kinds3 op w h
  · rw [h]; exact kinds4 op w h
  · rw [h]; exact kinds5 op w h
  · rw [h]; exact kinds6 op w h
  · rw [h]; exact kinds7 op w h


end Go.Proofs.Ytcbniifpbcgamaa
