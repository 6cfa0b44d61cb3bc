/- Layer 15: All. -/
import Derived.Test.YtcbniifpbcgamaaCodJ
namespace Go.Proofs.Ytcbniifpbcgamaa
set_option linter.unusedSimpArgs false
set_option linter.unusedVariables false
open Go.RowKit


/-- What is told of many bytes: how many are right, and how it ends. -/
def AllPost (l : List Int) (w : World) (e : Ending) (w' : World) : Prop := Ext w w' ∧ ∃ K, (∀ j, j < K → okK l j = true) ∧ 4 * K ≤ l.length ∧
  ((4 * K = l.length ∧ ∃ A ca, e = .returned (.tuple #[.slice A K ca, .int .i64 l.length, .int .i64 0]) ∧ RdI w' A K (insK l)) ∨
   (4 * K + 4 ≤ l.length ∧ okK l K = false ∧ e = .returned (.tuple #[.slice none 0 0, .int .i64 (4 * (K : Int)), .int .i64 151])) ∨
   (4 * K < l.length ∧ l.length < 4 * K + 4 ∧ e = .returned (.tuple #[.slice none 0 0, .int .i64 (4 * (K : Int)), .int .i64 1])))
set_option maxRecDepth 100000 in
set_option maxHeartbeats 4000000 in
theorem all_ (A : Option Addr) (ca : Nat) (l : List Int) (w : World) (hA : RdB w A l) (hbl : byteL l) (hlc : l.length ≤ ca) (hcm : ca ≤ maxLen) (hn : l.length ≤ 10000) :
    Calls Try.prog 13 #[.slice A l.length ca] w fun e w' => AllPost l w e w' := by
  obtain ⟨i0, hi0, hz0, hz1, hz2⟩ := info_parts info_ins
  have HI0 := hid hi0
  have HA := hid hA
  have HB := hid hbl
  clear hA hbl
  have hml : ca ≤ 9223372036854775807 := by unfold maxLen at hcm; omega
  go_enter Try.func13, Try.ntmps13
  go_wp2
  go_loopw [5, 6] (fun v at_ wr => ∃ k : Nat, 4 * k ≤ l.length ∧ at_ = .int .i64 (4 * (k : Int)) ∧ Hid (wr.ownsRow w.heap.size 23 4 v k (rowI (insK l) k)) ∧ Hid (∀ j, j < k → okK l j = true) ∧ Ext w wr) (fun _ at_ _ => l.length - (intOf at_).toNat)
  case atStart => exact ⟨0, Nat.zero_le _, rfl, hid (owns_nil _ _ _ _), hid fun j hj => absurd hj (by omega), (by repeat (first | (with_reducible exact Ext.refl _) | (with_reducible refine Ext.undrew ?_) | (with_reducible refine Ext.grow ?_ _) | (with_reducible refine Ext.drew ?_) | (with_reducible refine Ext.drewN ?_ _) | (with_reducible refine Ext.alloc ?_ _) | (with_reducible assumption) | ((with_reducible refine Ext.setCell ?_ ?_ _); rotate_left; (first | exact Nat.le_refl _ | ((try dsimp only); (try simp only [World.size_alloc, grow_size, World.size_setCell]); omega)))))⟩
  case round =>
    obtain ⟨k, hk, rfl, hown, hall, hx⟩ := hrel
    have hk0 : (0 : Int) ≤ 4 * (k : Int) := by omega
    by_cases hlt : 4 * k < l.length
    · obtain ⟨b, o, rfl, hb, _⟩ := HA.out (by omega)
      have hlt' : 4 * (k : Int) < (l.length : Int) := by omega
      by_cases hf : 4 * k + 4 ≤ l.length
      · have hf' : 4 * (k : Int) + 4 ≤ (l.length : Int) := by omega
        have HW := hid (RdB.word ((HA.out).ext hx) hf)
        have HBK := hid (byK_bd HB.out k)
        cases hok : okK l k with
        | true =>
          have HG := hid (getR_ok hok)
          have HALL := hid (upto_snoc hall.out hok)
          clear hok hall
          go_wp2_with (first | (go_at_call 11; refine Calls.mono (get_all b (o + 4 * k) (ca - 4 * k) (byK l k 0) (byK l k 1) (byK l k 2) (byK l k 3) _ HW.out (by omega) (by omega) (HBK.out 0) (HBK.out 1) (HBK.out 2) (HBK.out 3)) ?_; rw [HG.out]; rintro e w1 ⟨rfl, hy⟩; obtain ⟨d, rfl⟩ := hy.grown; clear hy) | (at_builtin; refine wpList_append_own _ rfl _ _ 29 rfl w.heap.size 23 i0 _ 4 32 Try.underlying29 hi0 hz0 hz1 hz2 rfl (by decide) _ _ _ rfl (World.ownsRow.alloc (World.ownsRow.alloc (ownsExt hown.out (Ext.grow (Ext.refl _) d)) _) _) _ 1 1 (insK l k).cells rfl rfl ?c1 (I4.one _) ?c3 ?c4 ?c5 ?_))
          case c1 =>
            intro j u hj
            rw [Addr.add_lit]
            have hj4 : j = 0 ∨ j = 1 ∨ j = 2 ∨ j = 3 := by
              have h := (List.getElem?_eq_some_iff.1 hj).1
              rw [I4.len] at h
              omega
            rcases hj4 with rfl | rfl | rfl | rfl <;> (simp [I4.cells] at hj; subst hj; simp [go_sem])
          case c3 => unfold maxLen; omega
          case c4 => omega
          case c5 => have := hx.size; simp [go_sem]; omega
          intro v' w1 hown1 hgrow _
          rw [← rowI_succ] at hown1
          have hx1 : Ext w w1 := Ext.owned (by repeat (first | (with_reducible exact Ext.refl _) | (with_reducible refine Ext.undrew ?_) | (with_reducible refine Ext.grow ?_ _) | (with_reducible refine Ext.drew ?_) | (with_reducible refine Ext.drewN ?_ _) | (with_reducible refine Ext.alloc ?_ _) | (with_reducible assumption) | ((with_reducible refine Ext.setCell ?_ ?_ _); rotate_left; (first | exact Nat.le_refl _ | ((try dsimp only); (try simp only [World.size_alloc, grow_size, World.size_setCell]); omega))))) (World.ownsRow.alloc (World.ownsRow.alloc (ownsExt hown.out (Ext.grow (Ext.refl _) d)) _) _) hgrow
          have HQ := hid (And.intro hown1 hx1)
          clear hown1 hgrow hx1
          go_wp2
          go_roundw
          case rel => exact ⟨k + 1, by omega, (by congr 1 <;> omega), hid HQ.out.1, HALL, HQ.out.2⟩
          case measure => simp [intOf]; omega
        | false =>
          have HG := hid (getR_bad hok)
          have HNO := hid hok
          clear hok
          go_wp2_with (go_at_call 11; refine Calls.mono (get_all b (o + 4 * k) (ca - 4 * k) (byK l k 0) (byK l k 1) (byK l k 2) (byK l k 3) _ HW.out (by omega) (by omega) (HBK.out 0) (HBK.out 1) (HBK.out 2) (HBK.out 3)) ?_; rw [HG.out]; rintro e w1 ⟨rfl, hy⟩; obtain ⟨d, rfl⟩ := hy.grown; clear hy)
          refine bodyPost_ret (v := .tuple #[.slice none 0 0, .int .i64 (4 * (k : Int)), .int .i64 151]) (by simp [results, Try.results13, go_sem]) rfl ?_
          exact ⟨(by repeat (first | (with_reducible exact Ext.refl _) | (with_reducible refine Ext.undrew ?_) | (with_reducible refine Ext.grow ?_ _) | (with_reducible refine Ext.drew ?_) | (with_reducible refine Ext.drewN ?_ _) | (with_reducible refine Ext.alloc ?_ _) | (with_reducible assumption) | ((with_reducible refine Ext.setCell ?_ ?_ _); rotate_left; (first | exact Nat.le_refl _ | ((try dsimp only); (try simp only [World.size_alloc, grow_size, World.size_setCell]); omega))))), k, hall.out, hk, .inr (.inl ⟨hf, HNO.out, rfl⟩)⟩
      · have hf' : ¬ 4 * (k : Int) + 4 ≤ (l.length : Int) := by omega
        go_wp2_with (go_at_call 11; refine Calls.mono (get_len _ _ _ _ (by omega)) ?_; rintro e w1 ⟨rfl, hy⟩; obtain ⟨d, rfl⟩ := hy.grown; clear hy)
        refine bodyPost_ret (v := .tuple #[.slice none 0 0, .int .i64 (4 * (k : Int)), .int .i64 1]) (by simp [results, Try.results13, go_sem]) rfl ?_
        exact ⟨(by repeat (first | (with_reducible exact Ext.refl _) | (with_reducible refine Ext.undrew ?_) | (with_reducible refine Ext.grow ?_ _) | (with_reducible refine Ext.drew ?_) | (with_reducible refine Ext.drewN ?_ _) | (with_reducible refine Ext.alloc ?_ _) | (with_reducible assumption) | ((with_reducible refine Ext.setCell ?_ ?_ _); rotate_left; (first | exact Nat.le_refl _ | ((try dsimp only); (try simp only [World.size_alloc, grow_size, World.size_setCell]); omega))))), k, hall.out, hk, .inr (.inr ⟨hlt, by omega, rfl⟩)⟩
    · have hke : 4 * k = l.length := by omega
      have hge : ¬ 4 * (k : Int) < (l.length : Int) := by omega
      obtain ⟨A', ca', rfl, hrd, _⟩ := owns_ins hown.out
      have HRD := hid hrd
      clear hrd hown
      have HKE := hid hke
      clear hke
      go_wp2
      refine bodyPost_ret (v := .tuple #[.slice A' k ca', .int .i64 (l.length : Int), .int .i64 0]) (by simp [results, Try.results13, go_sem]) rfl ?_
      exact ⟨(by repeat (first | (with_reducible exact Ext.refl _) | (with_reducible refine Ext.undrew ?_) | (with_reducible refine Ext.grow ?_ _) | (with_reducible refine Ext.drew ?_) | (with_reducible refine Ext.drewN ?_ _) | (with_reducible refine Ext.alloc ?_ _) | (with_reducible assumption) | ((with_reducible refine Ext.setCell ?_ ?_ _); rotate_left; (first | exact Nat.le_refl _ | ((try dsimp only); (try simp only [World.size_alloc, grow_size, World.size_setCell]); omega))))), k, hall.out, hk, .inl ⟨HKE.out, A', ca', rfl, HRD.out.ext (by repeat (first | (with_reducible exact Ext.refl _) | (with_reducible refine Ext.undrew ?_) | (with_reducible refine Ext.grow ?_ _) | (with_reducible refine Ext.drew ?_) | (with_reducible refine Ext.drewN ?_ _) | (with_reducible refine Ext.alloc ?_ _) | (with_reducible assumption) | ((with_reducible refine Ext.setCell ?_ ?_ _); rotate_left; (first | exact Nat.le_refl _ | ((try dsimp only); (try simp only [World.size_alloc, grow_size, World.size_setCell]); omega)))))⟩⟩

set_option maxRecDepth 100000 in
set_option maxHeartbeats 4000000 in
theorem rall (A : Option Addr) (ca : Nat) (l : List Int) (w : World) (hA : RdB w A l) (hbl : byteL l) (hlc : l.length ≤ ca) (hcm : ca ≤ maxLen) (hn : l.length ≤ 10000) :
    Calls Try.prog 14 #[.slice A l.length ca] w fun e w' => AllPost l w e w' := by
  obtain ⟨i0, hi0, hz0, hz1, hz2⟩ := info_parts info_ins
  have HI0 := hid hi0
  have HA := hid hA
  have HB := hid hbl
  clear hA hbl
  have hml : ca ≤ 9223372036854775807 := by unfold maxLen at hcm; omega
  go_enter Try.func14, Try.ntmps14
  go_wp2
  go_loopw [5, 6] (fun v at_ wr => ∃ k : Nat, 4 * k ≤ l.length ∧ at_ = .int .i64 (4 * (k : Int)) ∧ Hid (wr.ownsRow w.heap.size 23 4 v k (rowI (insK l) k)) ∧ Hid (∀ j, j < k → okK l j = true) ∧ Ext w wr) (fun _ at_ _ => l.length - (intOf at_).toNat)
  case atStart => exact ⟨0, Nat.zero_le _, rfl, hid (owns_nil _ _ _ _), hid fun j hj => absurd hj (by omega), (by repeat (first | (with_reducible exact Ext.refl _) | (with_reducible refine Ext.undrew ?_) | (with_reducible refine Ext.grow ?_ _) | (with_reducible refine Ext.drew ?_) | (with_reducible refine Ext.drewN ?_ _) | (with_reducible refine Ext.alloc ?_ _) | (with_reducible assumption) | ((with_reducible refine Ext.setCell ?_ ?_ _); rotate_left; (first | exact Nat.le_refl _ | ((try dsimp only); (try simp only [World.size_alloc, grow_size, World.size_setCell]); omega)))))⟩
  case round =>
    obtain ⟨k, hk, rfl, hown, hall, hx⟩ := hrel
    have hk0 : (0 : Int) ≤ 4 * (k : Int) := by omega
    by_cases hlt : 4 * k < l.length
    · obtain ⟨b, o, rfl, hb, _⟩ := HA.out (by omega)
      have hlt' : 4 * (k : Int) < (l.length : Int) := by omega
      by_cases hf : 4 * k + 4 ≤ l.length
      · have hf' : 4 * (k : Int) + 4 ≤ (l.length : Int) := by omega
        have HW := hid (RdB.word ((HA.out).ext hx) hf)
        have HBK := hid (byK_bd HB.out k)
        cases hok : okK l k with
        | true =>
          have HG := hid (getR_ok hok)
          have HALL := hid (upto_snoc hall.out hok)
          clear hok hall
          go_wp2_with (first | (go_at_call 12; refine Calls.mono (rget_all b (o + 4 * k) (ca - 4 * k) (byK l k 0) (byK l k 1) (byK l k 2) (byK l k 3) _ HW.out (by omega) (by omega) (HBK.out 0) (HBK.out 1) (HBK.out 2) (HBK.out 3)) ?_; rw [HG.out]; rintro e w1 ⟨rfl, hy⟩; obtain ⟨d, rfl⟩ := hy.grown; clear hy) | (at_builtin; refine wpList_append_own _ rfl _ _ 29 rfl w.heap.size 23 i0 _ 4 32 Try.underlying29 hi0 hz0 hz1 hz2 rfl (by decide) _ _ _ rfl (World.ownsRow.alloc (World.ownsRow.alloc (ownsExt hown.out (Ext.grow (Ext.refl _) d)) _) _) _ 1 1 (insK l k).cells rfl rfl ?c1 (I4.one _) ?c3 ?c4 ?c5 ?_))
          case c1 =>
            intro j u hj
            rw [Addr.add_lit]
            have hj4 : j = 0 ∨ j = 1 ∨ j = 2 ∨ j = 3 := by
              have h := (List.getElem?_eq_some_iff.1 hj).1
              rw [I4.len] at h
              omega
            rcases hj4 with rfl | rfl | rfl | rfl <;> (simp [I4.cells] at hj; subst hj; simp [go_sem])
          case c3 => unfold maxLen; omega
          case c4 => omega
          case c5 => have := hx.size; simp [go_sem]; omega
          intro v' w1 hown1 hgrow _
          rw [← rowI_succ] at hown1
          have hx1 : Ext w w1 := Ext.owned (by repeat (first | (with_reducible exact Ext.refl _) | (with_reducible refine Ext.undrew ?_) | (with_reducible refine Ext.grow ?_ _) | (with_reducible refine Ext.drew ?_) | (with_reducible refine Ext.drewN ?_ _) | (with_reducible refine Ext.alloc ?_ _) | (with_reducible assumption) | ((with_reducible refine Ext.setCell ?_ ?_ _); rotate_left; (first | exact Nat.le_refl _ | ((try dsimp only); (try simp only [World.size_alloc, grow_size, World.size_setCell]); omega))))) (World.ownsRow.alloc (World.ownsRow.alloc (ownsExt hown.out (Ext.grow (Ext.refl _) d)) _) _) hgrow
          have HQ := hid (And.intro hown1 hx1)
          clear hown1 hgrow hx1
          go_wp2
          go_roundw
          case rel => exact ⟨k + 1, by omega, (by congr 1 <;> omega), hid HQ.out.1, HALL, HQ.out.2⟩
          case measure => simp [intOf]; omega
        | false =>
          have HG := hid (getR_bad hok)
          have HNO := hid hok
          clear hok
          go_wp2_with (go_at_call 12; refine Calls.mono (rget_all b (o + 4 * k) (ca - 4 * k) (byK l k 0) (byK l k 1) (byK l k 2) (byK l k 3) _ HW.out (by omega) (by omega) (HBK.out 0) (HBK.out 1) (HBK.out 2) (HBK.out 3)) ?_; rw [HG.out]; rintro e w1 ⟨rfl, hy⟩; obtain ⟨d, rfl⟩ := hy.grown; clear hy)
          refine bodyPost_ret (v := .tuple #[.slice none 0 0, .int .i64 (4 * (k : Int)), .int .i64 151]) (by simp [results, Try.results14, go_sem]) rfl ?_
          exact ⟨(by repeat (first | (with_reducible exact Ext.refl _) | (with_reducible refine Ext.undrew ?_) | (with_reducible refine Ext.grow ?_ _) | (with_reducible refine Ext.drew ?_) | (with_reducible refine Ext.drewN ?_ _) | (with_reducible refine Ext.alloc ?_ _) | (with_reducible assumption) | ((with_reducible refine Ext.setCell ?_ ?_ _); rotate_left; (first | exact Nat.le_refl _ | ((try dsimp only); (try simp only [World.size_alloc, grow_size, World.size_setCell]); omega))))), k, hall.out, hk, .inr (.inl ⟨hf, HNO.out, rfl⟩)⟩
      · have hf' : ¬ 4 * (k : Int) + 4 ≤ (l.length : Int) := by omega
        go_wp2_with (go_at_call 12; refine Calls.mono (rget_len _ _ _ _ (by omega)) ?_; rintro e w1 ⟨rfl, hy⟩; obtain ⟨d, rfl⟩ := hy.grown; clear hy)
        refine bodyPost_ret (v := .tuple #[.slice none 0 0, .int .i64 (4 * (k : Int)), .int .i64 1]) (by simp [results, Try.results14, go_sem]) rfl ?_
        exact ⟨(by repeat (first | (with_reducible exact Ext.refl _) | (with_reducible refine Ext.undrew ?_) | (with_reducible refine Ext.grow ?_ _) | (with_reducible refine Ext.drew ?_) | (with_reducible refine Ext.drewN ?_ _) | (with_reducible refine Ext.alloc ?_ _) | (with_reducible assumption) | ((with_reducible refine Ext.setCell ?_ ?_ _); rotate_left; (first | exact Nat.le_refl _ | ((try dsimp only); (try simp only [World.size_alloc, grow_size, World.size_setCell]); omega))))), k, hall.out, hk, .inr (.inr ⟨hlt, by omega, rfl⟩)⟩
    · have hke : 4 * k = l.length := by omega
      have hge : ¬ 4 * (k : Int) < (l.length : Int) := by omega
      obtain ⟨A', ca', rfl, hrd, _⟩ := owns_ins hown.out
      have HRD := hid hrd
      clear hrd hown
      have HKE := hid hke
      clear hke
      go_wp2
      refine bodyPost_ret (v := .tuple #[.slice A' k ca', .int .i64 (l.length : Int), .int .i64 0]) (by simp [results, Try.results14, go_sem]) rfl ?_
      exact ⟨(by repeat (first | (with_reducible exact Ext.refl _) | (with_reducible refine Ext.undrew ?_) | (with_reducible refine Ext.grow ?_ _) | (with_reducible refine Ext.drew ?_) | (with_reducible refine Ext.drewN ?_ _) | (with_reducible refine Ext.alloc ?_ _) | (with_reducible assumption) | ((with_reducible refine Ext.setCell ?_ ?_ _); rotate_left; (first | exact Nat.le_refl _ | ((try dsimp only); (try simp only [World.size_alloc, grow_size, World.size_setCell]); omega))))), k, hall.out, hk, .inl ⟨HKE.out, A', ca', rfl, HRD.out.ext (by repeat (first | (with_reducible exact Ext.refl _) | (with_reducible refine Ext.undrew ?_) | (with_reducible refine Ext.grow ?_ _) | (with_reducible refine Ext.drew ?_) | (with_reducible refine Ext.drewN ?_ _) | (with_reducible refine Ext.alloc ?_ _) | (with_reducible assumption) | ((with_reducible refine Ext.setCell ?_ ?_ _); rotate_left; (first | exact Nat.le_refl _ | ((try dsimp only); (try simp only [World.size_alloc, grow_size, World.size_setCell]); omega)))))⟩⟩


end Go.Proofs.Ytcbniifpbcgamaa
