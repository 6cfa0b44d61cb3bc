/- Layer 16: asm.lines, and how it tells. -/
import Derived.Test.YtdhpbofpomefoaaDoorAsmH
import Derived.RangeFuncNested
import Derived.RangeFuncBound
import Derived.RangeFuncCalls
import Derived.RangeFuncLeaves
import Derived.Shelf.Abstract
import Derived.Shelf.RegionOpen
import Derived.WalkKit
import Derived.OwnWalkIn
import Derived.TacticsInMore
import Derived.LoopNIn
import Derived.LoopIn
namespace Go.Proofs.YtdhpbofpomefoaaDoor
set_option linter.unusedSimpArgs false
set_option linter.unusedVariables false
open Go.RowKit

/-- How long a string is. -/
def strLen : Value → Nat
  | .string s => s.size
  | _ => 0
theorem ext_take (l : List UInt8) (k : Nat) : (⟨l.toArray⟩ : ByteArray).extract 0 k = ⟨(l.take k).toArray⟩ := by
  refine ByteArray.ext (Array.toList_inj.1 ?_)
  simp [ByteArray.data_extract]
theorem ext_drop (l : List UInt8) (k : Nat) : (⟨l.toArray⟩ : ByteArray).extract k l.length = ⟨(l.drop k).toArray⟩ := by
  refine ByteArray.ext (Array.toList_inj.1 ?_)
  simp [ByteArray.data_extract]
  exact List.take_of_length_le (by rw [List.length_drop]; exact Nat.le_refl _)
theorem strLen_L (l : List UInt8) : strLen (.string ⟨l.toArray⟩) = l.length := by show l.toArray.size = l.length; simp
theorem str_ne (l : List UInt8) : ((⟨l.toArray⟩ : ByteArray) != ⟨#[]⟩) = decide (l ≠ []) := by
  cases l with
  | nil => rfl
  | cons c r => rfl
set_option maxRecDepth 100000 in
set_option maxHeartbeats 4000000 in
theorem lns_ (n : Nat) (hn : 2 ≤ n) (l0 qb : Nat) (s : List UInt8) (hs : s.length ≤ 1000000000) (Kp : World → World → Prop) (J Jx : List (List UInt8) → World → Prop)
    (hY : ∀ pre x W, J pre W → pre.length < (chL s).length → x.length ≤ s.length → YieldAt Fence.wide (n - 1) Tryd.prog l0 #[.string ⟨x.toArray⟩] W fun e W' =>
      (e = .returned (.bool true) ∧ J (pre ++ [x]) W' ∧ Kp W W') ∨ (e = .returned (.bool false) ∧ Jx (pre ++ [x]) W'))
    (W : World) (hqb : W.cell? ⟨qb, 0, none⟩ = some (.string ⟨s.toArray⟩)) (h0 : J [] W) :
    CallsIn Fence.wide n Tryd.prog 46 #[.func (.yield l0) #[] #[], .pointer (some ⟨qb, 0, none⟩)] W fun e W' => (∃ v, e = .returned v) ∧
      ((∃ ys, ys = chL s ∧ J ys W') ∨ (∃ pre : List (List UInt8), (∃ more, chL s = pre ++ more) ∧ Jx pre W')) := by
  refine callsIn_of_wp Tryd.func46 rfl trivial ?_ rfl
  simp only [Tryd.ntmps46]
  simp only [List.size_toArray, List.length_cons, List.length_nil, Nat.reduceAdd, Nat.reduceSub, Array.replicate_succ, Array.replicate_zero, List.push_toArray, List.append_toArray, List.nil_append, List.cons_append]
  have HY := hid hY
  have HJ0 := hid h0
  clear hY h0
  gi_wp2
  gi_loopw [3] (fun v wr => ∃ (pre : List (List UInt8)) (rest : List UInt8), v = .string ⟨rest.toArray⟩ ∧ Hid (chL s = pre ++ chL rest) ∧ Hid (rest.length ≤ s.length) ∧ Hid (J pre wr)) (fun v _ => strLen v)
  case atStart => exact ⟨[], s, rfl, hid rfl, hid (Nat.le_refl _), HJ0⟩
  case round =>
    obtain ⟨pre, rest, rfl, hch, hrl, hJp⟩ := hrel
    by_cases hr0 : rest = []
    · subst hr0
      gi_wp2
      all_goals (first | (refine absurd ‹_› ?_; simp; done) | skip)
      go_end0
      exact ⟨⟨_, rfl⟩, .inl ⟨_, by rw [hch.out, chL_nil, List.append_nil], hJp.out⟩⟩
    · have hne : (!rest.isEmpty) = true := by simpa using hr0
      have HR0 := hid hr0
      clear hr0
      gi_wp2
      refine ⟨trivial, (fun _ => by omega), ?_⟩
      refine CallsIn.mono (callsIn_wide.2 (idx_ rest _)) ?_
      rintro e w1 ⟨rfl, rfl⟩
      have hrl0 := hrl.out
      have hle := endL_le rest
      have hpos := endL_pos HR0.out
      obtain ⟨en, hen⟩ : ∃ k, endL rest = k := ⟨_, rfl⟩
      obtain ⟨ix, hix⟩ : ∃ k, idxL rest = k := ⟨_, rfl⟩
      have hcs := endL_idx rest
      rw [hen, hix] at hcs
      rw [hen] at hle hpos
      rw [hix]
      have HEN := hid hen
      clear hen hix
      (try simp only [])
      have HCH : Hid (chL s = (pre ++ [rest.take en]) ++ chL (rest.drop en)) := hid (by rw [hch.out, chL_cons HR0.out, HEN.out]; simp)
      have HLT : Hid (pre.length < (chL s).length) := hid (by rw [HCH.out]; simp only [List.length_append, List.length_cons, List.length_nil]; omega)
      obtain ⟨fn, tmps, assign, body, hy, hR⟩ := HY.out pre (rest.take en) w1 hJp.out HLT.out (by rw [List.length_take]; omega)
      rw [← ext_take] at hy
      rcases hcs with ⟨h1, h2, h3⟩ | ⟨h1, h2, h3⟩
      · have hw : IntKind.i64.wrap (ix + 1) = ix + 1 := by rw [h1]; rfl
        subst h2
        gi_wp2
        refine ⟨(fun _ => by omega), ?_⟩
        refine hR.mono ?_
        clear hR hy
        rintro e W4 (⟨rfl, hJ4, hk4⟩ | ⟨rfl, hJx4⟩)
        · have HJ4 := hid hJ4
          clear hJ4 hk4
          gi_wp2
          go_roundw
          case rel => exact ⟨_, [], rfl, hid (by rw [HCH.out, List.drop_length]), hid (by simp), HJ4⟩
          case measure => rw [strLen_L]; exact List.length_pos_iff.2 HR0.out
        · have HJx := hid hJx4
          clear hJx4
          gi_wp2
          refine bodyPost_ret (results_none rfl _ _ _) rfl ?_
          exact ⟨⟨_, rfl⟩, .inr ⟨_, ⟨_, HCH.out⟩, HJx.out⟩⟩
      · skip
        skip
        gi_wp2
        refine ⟨(fun _ => by omega), ?_⟩
        refine hR.mono ?_
        clear hR hy
        rintro e W4 (⟨rfl, hJ4, hk4⟩ | ⟨rfl, hJx4⟩)
        · have HJ4 := hid hJ4
          clear hJ4 hk4
          gi_wp2
          go_roundw
          case rel => exact ⟨_, rest.drop en, by rw [← ext_drop], HCH, hid (by rw [List.length_drop]; omega), HJ4⟩
          case measure => rw [ext_drop, strLen_L, strLen_L, List.length_drop]; omega
        · have HJx := hid hJx4
          clear hJx4
          gi_wp2
          refine bodyPost_ret (results_none rfl _ _ _) rfl ?_
          exact ⟨⟨_, rfl⟩, .inr ⟨_, ⟨_, HCH.out⟩, HJx.out⟩⟩

end Go.Proofs.YtdhpbofpomefoaaDoor
