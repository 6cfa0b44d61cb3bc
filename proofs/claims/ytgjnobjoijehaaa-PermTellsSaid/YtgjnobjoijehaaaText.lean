/- Layer 1: a strings.Builder of the call's own, to which one ASCII letter is written. -/
import Derived.Test.YtgjnobjoijehaaaRefB
import Derived.Maps.AppendAt
import Derived.Lib.Builder
import Derived.Lib.OthersKept
namespace Go.Proofs.Ytgjnobjoijehaaa
set_option linter.unusedSimpArgs false
set_option linter.unusedVariables false
open Go.RowKit

theorem byteInfo : (Try.prog.info? 5).map (fun i => (i.zero, i.size, i.bytes)) = some (some (.int .u8 0), 1, 1) := by kernel_rfl


theorem bldSize : (Try.prog.info? 41).map (·.size) = some 2 := by kernel_rfl
theorem bldLies : liesAt Try.prog Try.prog.depth 41 (2 / Try.prog.cellsOf 41) 0 41 1 = true := by kernel_rfl

set_option maxHeartbeats 1000000 in
theorem copyUsed (b : Nat) (w : World) (h0 : w.cell? ⟨b, 0, none⟩ = some (.pointer (some ⟨b, 0, none⟩))) :
    Calls Try.prog 29 #[.pointer (some ⟨b, 0, none⟩)] w fun e w' => e = .returned (.tuple #[]) ∧ w = w' := by
  obtain ⟨j, hj, hjs⟩ := Option.map_eq_some_iff.1 bldSize
  clear hjs
  go_enter Try.func29, Try.ntmps29
  go_wp2
  rw [Lib.run_neq_ptr_same w _ Try.underlying38 hj]
  go_wp2
  go_end0
  exact ⟨rfl, rfl⟩

set_option maxHeartbeats 1000000 in
theorem copyFresh (b : Nat) (w : World) (h0 : w.cell? ⟨b, 0, none⟩ = some (.pointer none)) (hsh : w.shape? b = some (41, 2)) (hfz : w.frozen? ⟨b, 0, none⟩ = false) :
    Calls Try.prog 29 #[.pointer (some ⟨b, 0, none⟩)] w fun e w' => e = .returned (.tuple #[]) ∧ w.setCell ⟨b, 0, none⟩ (.pointer (some ⟨b, 0, none⟩)) = w' := by
  obtain ⟨j, hj, hjs⟩ := Option.map_eq_some_iff.1 bldSize
  have hjz : j.size ≠ 0 := by omega
  clear hjs
  go_enter Try.func29, Try.ntmps29
  go_wp2
  rw [Lib.run_to_unsafe w ⟨b, 0, none⟩ Try.underlying38 Try.underlying59 hj hjz hsh (Nat.zero_lt_succ 1)]
  simp only [Result.andThen]
  rw [Oper.upon_value]
  go_wp2
  rw [run_callFunc_extern Try.func37 (by kernel_rfl) (by kernel_rfl) (by kernel_rfl) (e := Extern.AbiNoEscape.same) (by kernel_rfl)]
  rw [Lib.run_noEscape]
  simp only [Result.andThen]
  rw [Oper.upon_value]
  go_wp2
  rw [Lib.run_from_unsafe w ⟨b, 0, none⟩ Try.underlying59 Try.underlying38 hj hsh bldLies]
  simp only [Result.andThen]
  rw [Oper.upon_value]
  go_wp2
  go_end0
  exact ⟨rfl, rfl⟩

theorem copyCheck (B b : Nat) (bs : List Value) (w : World) (h : Lib.IsBuilder 41 5 B b bs w) :
    Calls Try.prog 29 #[.pointer (some ⟨b, 0, none⟩)] w fun e w' => e = .returned (.tuple #[]) ∧
      Lib.BuilderAt 41 5 B b (.pointer (some ⟨b, 0, none⟩)) bs w' ∧ w.grownBy w' (some b) := by
  rcases h with h | h
  · refine (copyFresh b w h.cell0 h.shape h.frozen0).mono ?_
    rintro e w' ⟨rfl, rfl⟩
    exact ⟨rfl, h.used _, ⟨rfl, rfl, rfl, by simp [World.setCell], fun k _ hk => Below.heap_setCell _ _ _ _ (fun e => hk (by rw [e]))⟩⟩
  · refine (copyUsed b w h.cell0).mono ?_
    rintro e w' ⟨rfl, rfl⟩
    exact ⟨rfl, h, World.grownBy.refl _ _⟩

set_option maxHeartbeats 1000000 in
/-- utf8.AppendRune of an ASCII letter, onto a row of the call's own. -/
theorem appendRune (B : Nat) (v : Value) (n : Nat) (xs : List Value) (c : Nat) (hc : c < 128) (w : World) (hown : w.ownsRow B 5 1 v n xs) (hn : n ≤ 1000000) (hB : B ≤ w.heap.size) :
    Calls Try.prog 30 #[v, .int .i32 (c : Int)] w fun e w' => ∃ v', e = .returned v' ∧ w'.ownsRow B 5 1 v' (n + 1) (xs ++ [.int .u8 (c : Int)]) ∧ w.grownBy w' v.ownBlock ∧
      (v'.ownBlock = v.ownBlock ∨ ∃ k, v'.ownBlock = some k ∧ w.heap.size ≤ k) := by
  obtain ⟨i0, hi, hz0, hz1, hz2⟩ := info_parts byteInfo
  have hm : n + 1 ≤ maxLen := by simp only [maxLen]; omega
  have HO := hid hown
  clear hown
  go_enter Try.func30, Try.ntmps30
  go_wp2_with (at_builtin; refine wpList_append_own_at _ rfl _ _ 39 rfl B 5 i0 (.int .u8 0) 1 1 Try.underlying39 hi hz0 hz1 hz2 rfl (by decide) v n xs rfl (HO.out.alloc _) ⟨w.heap.size, 0, none⟩ 1 1 [.int .u8 (c : Int)] rfl rfl (cell_one_new _ _ _) (by simp [Value.oneCell']) hm (by omega) (by simp; omega) ?_; intro v' w1 hown1 hg1 hnil1 hat1)
  go_ret
  refine ⟨v', rfl, hown1, ⟨hg1.os, hg1.tape, hg1.output, Nat.le_trans (by simp) hg1.size, fun k hk hne => (hg1.block k (by simp; omega) hne).trans (Below.heap_alloc _ _ _ hk)⟩, ?_⟩
  rcases hat1 with h | h
  · exact .inl h
  · exact .inr ⟨_, h, by simp⟩

theorem ownsRow_form {w : World} {B : Nat} {e : TypeId} {size : Nat} {v : Value} {n : Nat} {xs : List Value} (h : w.ownsRow B e size v n xs) : ∃ A cp, v = .slice A n cp := by
  rcases h.2 with ⟨rfl, rfl⟩ | ⟨g, cap, cur, rfl, _⟩
  · exact ⟨none, 0, rfl⟩
  · exact ⟨_, cap, rfl⟩

set_option maxHeartbeats 1000000 in
theorem writeRune (B b : Nat) (bs : List Value) (c : Nat) (hc : c < 128) (w : World) (h : Lib.IsBuilder 41 5 B b bs w) (hn : bs.length ≤ 1000000) (hB : B ≤ w.heap.size) :
    Calls Try.prog 25 #[.pointer (some ⟨b, 0, none⟩), .int .i32 (c : Int)] w fun e w' => e = .returned (.tuple #[.int .i64 1, .nilIface]) ∧
      Lib.IsBuilder 41 5 B b (bs ++ [.int .u8 (c : Int)]) w' ∧ Below B w w' ∧ Lib.OthersKept 5 (some b) w w' := by
  have HI := hid h
  have hlen : (bs ++ [Value.int .u8 (c : Int)]).length = bs.length + 1 := by simp
  have HL := hid hlen
  clear h hlen
  go_enter Try.func25, Try.ntmps25
  go_wp2_with fail
  refine (copyCheck B b bs w HI.out).mono ?_
  rintro e w1 ⟨rfl, ⟨hBb, v, hb, hown, hne⟩, hg1⟩
  obtain ⟨A, cp, rfl⟩ := ownsRow_form hown
  have c1 : w1.cell? ⟨b, 1, none⟩ = some (.slice A bs.length cp) := Lib.cell_of_heap hb 1
  have f1 := Lib.frozen_of_heap hb 1
  have hb1 : Below B w w1 := (Below.refl B w).grown hg1 hB (fun k e => by cases e; exact hBb)
  have hB1 : B ≤ w1.heap.size := Nat.le_trans hB hb1.size
  have hlt : b < w1.heap.size := by
    rcases Nat.lt_or_ge b w1.heap.size with h | h
    · exact h
    · rw [Array.getElem?_eq_none h] at hb; cases hb
  have HN := hid hne
  have HO := hid hown
  have HBB := hid hb
  have HG := hid hg1
  clear hne hown hb hg1
  go_wp2_with fail
  refine (appendRune B _ bs.length bs c hc w1 HO.out hn hB1).mono ?_
  rintro e w2 ⟨v', rfl, hown2, hg2, hat2⟩
  obtain ⟨A', cp', rfl⟩ := ownsRow_form hown2
  have hb2 : w2.heap[b]? = some (.cells #[.pointer (some ⟨b, 0, none⟩), .slice A bs.length cp] 41 (0, 0)) := (hg2.block b hlt (fun e => HN.out e.symm)).trans HBB.out
  have c2 : w2.cell? ⟨b, 1, none⟩ = some (.slice A bs.length cp) := Lib.cell_of_heap hb2 1
  have f2 := Lib.frozen_of_heap hb2 1
  have hbw2 : Below B w1 w2 := (Below.refl B w1).grown hg2 hB1 (fun k e => by
    exact (HO.out.lt k e).1)
  have c3 : (w2.setCell ⟨b, 1, none⟩ (.slice A' (bs.length + 1) cp')).cell? ⟨b, 1, none⟩ = some (.slice A' (bs.length + 1) cp') := World.cell?_setCell_same _ _ _ c2
  have HG2 := hid hg2
  have HB2 := hid hb2
  have HO2 := hid hown2
  have HA2 := hid hat2
  clear hg2 hb2 hown2 hat2
  go_wp2
  go_ret2
  refine ⟨by simp; omega, .inr ?_, (hb1.trans hbw2).setCell hBb _, ?_⟩
  · exact Lib.BuilderAt.put hBb HB2.out (by rw [HL.out]; exact HO2.out) (by decide)
  · have k1 : Lib.OthersKept 5 (some b) w w1 := fun k o hk hkb _ => (HG.out.block k (by
      rcases Nat.lt_or_ge k w.heap.size with h | h
      · exact h
      · rw [Array.getElem?_eq_none h] at hk; cases hk) hkb).trans hk
    have hrow : ∀ g, (Value.slice A bs.length cp).ownBlock = some g → ∃ c fz, w1.heap[g]? = some (.cells c 5 fz) := by
      intro g hg
      rcases HO.out.2 with ⟨h, _⟩ | ⟨g', cap, cur, h, _, hh, _⟩
      · rw [h] at hg; simp [Value.ownBlock] at hg
      · rw [h] at hg
        simp [Value.ownBlock] at hg
        subst hg
        exact ⟨_, _, hh⟩
    exact (k1.grown HG2.out hrow).setCell ⟨b, 1, none⟩ rfl _
end Go.Proofs.Ytgjnobjoijehaaa
