/- Layer 1: Parse. -/
import Derived.Test.YtgjnobjoijehaaaOneM
namespace Go.Proofs.Ytgjnobjoijehaaa
set_option linter.unusedSimpArgs false
set_option linter.unusedVariables false
open Go.RowKit


def ParseIs (s : ByteArray) (w : World) (e : Ending) (w' : World) : Prop := e = .returned (parseV s) ∧ Ext w w'
set_option maxHeartbeats 2000000 in
theorem parse_ (s : ByteArray) (w : World) :
    Calls Try.prog 11 #[.string s] w fun e w' => ParseIs s w e w' := by
  go_enter Try.func11, Try.ntmps11
  go_wp2
  go_loopw [4] (fun v wr => ∃ (i : Nat) (p : Int), v = .int .i64 p ∧ Hid (gotP s i p) ∧ Hid (wr.heap[w.heap.size]? = some (.stringIter s i)) ∧ Hid (Ext w wr)) (fun _ wr => s.size - wr.iterPos w.heap.size)
  case atStart => exact ⟨0, 0, rfl, hid ⟨by omega, fun _ => ⟨Nat.zero_le _, rfl⟩⟩, hid (World.iter_heap _ _ _), hid (Ext.alloc (Ext.refl w) _)⟩
  case round =>
    obtain ⟨i, p, rfl, hg, hit, hx⟩ := hrel
    have hpos : Hid (wr.iterPos w.heap.size = i) := hid (by simp [World.iterPos, hit.out])
    by_cases hlt : i < s.size
    · obtain ⟨d1, d2⟩ := decode_le s i
      have HG := hid (gotP_step hg.out hlt)
      have HNX := hid fun ty => Lib.run_next_any_at (P := Try.prog) wr w.heap.size s i ty hit.out hlt
      have HIT := hid (Lib.iterAt_heap wr w.heap.size s i (i + (Utf8.decode s i).2) hit.out)
      have HX := hid (show Ext w (wr.iterAt w.heap.size s (i + (Utf8.decode s i).2)) from Lib.below_iterAt hx.out (k := w.heap.size) (Nat.le_refl _) s (i + (Utf8.decode s i).2))
      have hr0 : (0 : Int) ≤ ((Utf8.decode s i).1 : Int) := by omega
      have hr1 : ((Utf8.decode s i).1 : Int) ≤ 1114111 := by omega
      generalize wr.iterAt w.heap.size s (i + (Utf8.decode s i).2) = wt at HNX HIT HX
      obtain ⟨j, hj⟩ : ∃ j, i + (Utf8.decode s i).2 = j := ⟨_, rfl⟩
      have hji : i < j := by omega
      rw [hj] at HIT HG
      clear hj d2 hit hx
      obtain ⟨r, hr⟩ : ∃ r : Nat, (Utf8.decode s i).1 = r := ⟨_, rfl⟩
      rw [hr] at HNX HG hr0 hr1
      clear hr d1
      go_wp2
      rw [HNX.out]
      go_wp2_with fail
      refine Calls.mono (permission_ (r : Int) _ hr0 hr1) ?_
      rintro e w2 ⟨rfl, hy⟩
      have HX2 := hid (Ext.trans HX.out hy)
      have HIT2 := hid ((hy.block _ (Array.getElem?_eq_some_iff.1 HIT.out).1).trans HIT.out)
      clear hy HX HIT
      go_wp2_with fail
      refine Calls.mono (of_any _ _ [p, permR (r : Int)] _ (pair_slAt _ _ _ _ rfl) (by simp [maxLen])) ?_
      rintro e w' ⟨rfl, rfl⟩
      rw [show ofL [p, permR (r : Int)] 0 = addP p (permR (r : Int)) from rfl]
      have HIT3 := hid ((Below.heap_alloc w2 (.cells #[.int .i64 p, .int .i64 (permR (r : Int))] 3) _ (Array.getElem?_eq_some_iff.1 HIT2.out).1).trans HIT2.out)
      go_wp2
      go_roundw
      case rel => exact ⟨j, _, rfl, HG, HIT3, hid (Ext.alloc HX2.out _)⟩
      case measure =>
        rw [hpos.out]
        simp only [World.iterPos, HIT3.out]
        omega
    · have HNX := hid fun ty => Lib.run_next_end_at (P := Try.prog) wr w.heap.size s i ty hit.out hlt
      have hp := hg.out.1
      have ha : asciiL s.data.toList → p = foldP s.data.toList := fun h => by
        obtain ⟨h1, h2⟩ := hg.out.2 h
        rw [List.take_of_length_le (by simpa using (by omega : s.size ≤ i))] at h2
        exact h2
      have HY := hid fun h => parse_yes (s := s) hp h
      have HN := hid fun h => parse_no (s := s) ha h
      clear ha hg hp
      go_wp2
      rw [HNX.out]
      go_wp2_with fail
      refine Calls.mono (text p _) ?_
      rintro e w2 ⟨rfl, hy⟩
      have HX2 := hid (Ext.trans hx.out hy)
      clear hy hx
      have HE := hid (eqT_list p s)
      cases hE : eqT p s with
      | true =>
        have HV := hid (HY.out hE)
        rw [hE] at HE
        clear hE HY HN
        have hne := HE.out
        go_wp2
        refine bodyPost_ret (v := parseV s) (by rw [HV.out]; simp [results, Try.results11, go_sem]) rfl ⟨rfl, Ext.trans HX2.out (Ext.refl _)⟩
      | false =>
        have HV := hid (HN.out hE)
        rw [hE] at HE
        clear hE HY HN
        have hne := HE.out
        go_wp2
        refine bodyPost_ret (v := parseV s) (by rw [HV.out]; simp [results, Try.results11, go_sem]) rfl ⟨rfl, Ext.trans HX2.out (Ext.refl _)⟩


end Go.Proofs.Ytgjnobjoijehaaa
