/- Layer 14: Live. -/
import Derived.Test.YtoeiemeffiiidaaDoorHepJ
import Derived.Maps.RangeRun
namespace Go.Proofs.YtoeiemeffiiidaaDoor
set_option linter.unusedSimpArgs false
set_option linter.unusedVariables false
open Go.RowKit

def takesL (lv : List Lv) : Int := (lv.map (·.takes)).sum
def entT (p : Lv × Nat) : MapEntry := ⟨.int .i64 p.1.at_, .int .i64 p.1.takes, p.2⟩
theorem entT_born (ps : List (Lv × Nat)) : (ps.map entT).map (·.born) = ps.map Prod.snd := by simp [entT, Function.comp_def]
theorem entP_born (ps : List (Lv × Nat)) : (ps.map entP).map (·.born) = ps.map Prod.snd := by simp [entP, Function.comp_def]
theorem seen_bd (seen : Array Nat) : ∀ (ps : List (Lv × Nat)), (∀ p ∈ ps, 16 ≤ p.1.takes ∧ p.1.takes ≤ 65536) → 0 ≤ seenSum (ps.map entT) seen ∧ seenSum (ps.map entT) seen ≤ 65536 * (ps.length : Int)
  | [], _ => by simp [seenSum]
  | p :: ps, h => by
    have ih := seen_bd seen ps (fun q hq => h q (by simp [hq]))
    have hp := h p (by simp)
    have hv : valOf (entT p).val = p.1.takes := rfl
    simp only [List.map_cons, seenSum, hv, List.length_cons]
    split <;> omega
theorem seen_all (ps : List (Lv × Nat)) (seen : Array Nat) (h : (leftOf (ps.map entP).toArray seen).size = 0) : seenSum (ps.map entT) seen = takesL (ps.map Prod.fst) := by
  have h1 := all_seen _ seen h
  rw [seenSum_full seen _ (fun x hx => ?_)]
  · unfold takesL
    simp [Function.comp_def, entT, valOf]
  · obtain ⟨p, hp, rfl⟩ := List.mem_map.1 hx
    exact h1 (entP p) (by simpa using ⟨_, _, hp, rfl⟩)
theorem map_next {P : Program} {w W : World} {r g c : Nat} {ps : List (Lv × Nat)} {seen : Array Nat} (ty : TypeId) (hx : Ext w W) (hw : w.heap.size ≤ r) (hr : W.heap[r]? = some (.mapIter (some g) c seen c)) (hb : W.heap[g]? = some (.map (ps.map entP).toArray c)) (hc : ∀ p ∈ ps, p.2 < c) (hn : (ps.map Prod.snd).Nodup) :
    ((leftOf (ps.map entP).toArray seen).size = 0 ∧ (Instr.next (.pointer (some ⟨r, 0, none⟩)) false ty).run P W = .ok (.tuple #[.bool false]) W) ∨
    ∃ p ∈ ps, seen.contains p.2 = false ∧ ∃ W2 : World, (Instr.next (.pointer (some ⟨r, 0, none⟩)) false ty).run P W = .ok (.tuple #[.bool true, .int .i64 p.1.at_, p.1.val]) W2 ∧ Ext w W2 ∧ W2.heap.size = W.heap.size ∧ W2.heap[r]? = some (.mapIter (some g) c (seen.push p.2) c) ∧ W2.heap[g]? = some (.map (ps.map entP).toArray c) ∧ (leftOf (ps.map entP).toArray (seen.push p.2)).size < (leftOf (ps.map entP).toArray seen).size ∧
      (Instr.entry (.pointer (some ⟨r, 0, none⟩))).run P W2 = .ok (.tuple #[.int .i64 p.1.at_, p.1.val]) W2 := by
  have hgr : ¬ g = r := fun e => by rw [e, hr] at hb; cases hb
  have hrl : r < W.heap.size := (Array.getElem?_eq_some_iff.1 hr).1
  rcases run_next_at (P := P) W ty r g c c seen (ps.map entP).toArray c hr hb (fun x hx => by
    obtain ⟨p, hp, rfl⟩ := List.mem_map.1 (show x ∈ ps.map entP by simpa using hx)
    exact hc p hp) (Nat.le_refl _) with h | ⟨e, he, w1, hw1, hrun⟩
  · exact .inl h
  · have hm := mem_left he
    have hs := left_shrinks _ _ e he
    have hel : e ∈ (ps.map entP).toArray.toList := hm.1
    obtain ⟨p, hp, rfl⟩ := List.mem_map.1 (show e ∈ ps.map entP by simpa using hm.1)
    have h1 : Ext w w1 := by
      rcases hw1 with rfl | rfl
      · exact hx
      · exact hx.drew
    have h2 : w1.heap = W.heap := by rcases hw1 with rfl | rfl <;> rfl
    have h3 : (turn w1 r (.mapIter (some g) c (seen.push p.2) c)).heap[r]? = some (.mapIter (some g) c (seen.push p.2) c) := by
      have : r < w1.heap.size := by rw [h2]; exact hrl
      simp [turn, this]
    have h4 : (turn w1 r (.mapIter (some g) c (seen.push p.2) c)).heap[g]? = some (.map (ps.map entP).toArray c) := by rw [turn_heap _ _ _ _ hgr, h2]; exact hb
    refine .inr ⟨p, hp, hm.2, turn w1 r (.mapIter (some g) c (seen.push p.2) c), hrun, h1.turn hw _, by rw [turn_size, h2], h3, h4, hs, ?_⟩
    exact run_entry_at _ r g c seen (ps.map entP).toArray c (entP p) h3 h4 hel (by rw [show ((ps.map entP).toArray.toList) = ps.map entP by simp, entP_born]; exact hn)
set_option maxRecDepth 100000 in
set_option maxHeartbeats 4000000 in
theorem live_ (W : World) (h g : Nat) (ps : List (Lv × Nat)) (c : Nat) (hl : h < W.heap.size) (c10 : W.cell? ⟨h, 10, none⟩ = some (.map (some g))) (hok : ∀ p ∈ ps, 16 ≤ p.1.takes ∧ p.1.takes ≤ 65536) (p2 : (ps.map Prod.snd).Nodup) (p3 : ∀ p ∈ ps, p.2 < c) (p4 : W.heap[g]? = some (.map (ps.map entP).toArray c)) (hnl : ps.length ≤ 100000) : Calls Tryd.prog 19 #[.pointer (some ⟨h, 0, none⟩)] W fun e W' => e = .returned (.tuple #[.int .i64 ps.length, .int .i64 (takesL (ps.map Prod.fst))]) ∧ Ext W W' := by
  have hgl := (Array.getElem?_eq_some_iff.1 p4).1
  have HOK := hid hok
  have HP2 := hid p2
  have HP3 := hid p3
  have HNL := hid hnl
  have HP4 := hid p4
  have C10 := hid c10
  clear hok p2 p3 p4 hnl
  go_enter Tryd.func19, Tryd.ntmps19
  go_wp2
  rw [run_range_map (P := Tryd.prog) W 67 3 73 g (ps.map entP).toArray c Tryd.underlying67 HP4.out]
  go_wp2
  go_loopw [4] (fun s wr => ∃ seen : Array Nat, s = .int .i64 (seenSum (ps.map entT) seen) ∧ Hid (wr.heap[W.heap.size]? = some (.mapIter (some g) c seen c)) ∧ Hid (Ext W wr)) (fun _ wr => (leftOf (ps.map entP).toArray (wr.iterSeen W.heap.size)).size)
  case atStart => exact ⟨#[], by rw [seenSum_none], hid (heap_alloc_new _ _), hid (by repeat (first | (with_reducible exact Ext.refl _) | (with_reducible refine Ext.undrew ?_) | (with_reducible refine Ext.grow ?_ _) | (with_reducible refine Ext.drew ?_) | (with_reducible refine Ext.drewN ?_ _) | (with_reducible refine Ext.alloc ?_ _) | (with_reducible assumption) | ((with_reducible refine Ext.setCell ?_ ?_ _); rotate_left; (first | exact Nat.le_refl _ | ((try dsimp only); (try simp only [World.size_alloc, grow_size, World.size_setCell]); omega)))))⟩
  case round =>
    obtain ⟨seen, rfl, hit, hx⟩ := hrel
    have hbr := (hx.out.block g hgl).trans HP4.out
    have hcr := (hx.out.cells h 10 hl).trans C10.out
    have hsr := hx.out.size
    have hlr : h < wr.heap.size := by omega
    rcases map_next (P := Tryd.prog) 0 hx.out (Nat.le_refl _) hit.out hbr HP3.out HP2.out with ⟨hz, hrun⟩ | ⟨⟨⟨pa, pk, pt⟩, pb⟩, hp, hs, W2, hrun, hx2, hs2, hr2, hb2, hm, hent⟩
    · have HNX := hid hrun
      have hall := hid (seen_all ps seen hz)
      clear hrun hz
      go_wp2
      rw [HNX.out]
      go_wp2
      rw [run_len_map (P := Tryd.prog) (w := wr) 67 3 g (ps.map entP).toArray c (by kernel_rfl) hbr]
      go_wp2
      rw [hall.out]
      exact bodyPost_ret (v := .tuple #[.int .i64 ps.length, .int .i64 (takesL (ps.map Prod.fst))]) (by simp [results, Tryd.results19, go_sem, goInt]) rfl ⟨rfl, hx.out⟩
    · have hpush : seenSum (ps.map entT) (seen.push pb) = seenSum (ps.map entT) seen + pt := seenSum_push seen (entT ⟨⟨pa, pk, pt⟩, pb⟩) hs (ps.map entT) (by rw [entT_born]; exact HP2.out) (List.mem_map.2 ⟨_, hp, rfl⟩)
      obtain ⟨b1, b2⟩ := seen_bd seen ps HOK.out
      have b3 : 16 ≤ pt ∧ pt ≤ 65536 := HOK.out _ hp
      have b4 := HNL.out
      have b5 : seenSum (ps.map entT) seen + pt ≤ 6553665536 := by omega
      obtain ⟨sm, hsm⟩ : ∃ z, seenSum (ps.map entT) seen = z := ⟨_, rfl⟩
      rw [hsm] at hpush b1 b5 ⊢
      have HPU := hid hpush
      have HNX : Hid ((Instr.next (.pointer (some ⟨W.heap.size, 0, none⟩)) false 0).run Tryd.prog wr = .ok (.tuple #[.bool true, .int .i64 pa, .agg #[.int .i64 pk, .int .i64 pt]]) W2) := hid hrun
      have HEN : Hid ((Instr.entry (.pointer (some ⟨W.heap.size, 0, none⟩))).run Tryd.prog W2 = .ok (.tuple #[.int .i64 pa, .agg #[.int .i64 pk, .int .i64 pt]]) W2) := hid hent
      have HX2 := hid hx2
      have HR2 := hid hr2
      have HM := hid hm
      have HIT := hit
      have HRL : Hid (W.heap.size < W2.heap.size) := hid ((Array.getElem?_eq_some_iff.1 hr2).1)
      clear hrun hent hx2 hr2 hb2 hm hpush hsm b2 b4 hs hp hbr hcr hit hx hs2 hsr hlr
      obtain ⟨b3, b6⟩ := b3
      go_wp2
      rw [HNX.out]
      go_wp2
      rw [HEN.out]
      go_wp2
      go_roundw
      case rel => exact ⟨seen.push pb, by rw [HPU.out], hid ((heap_alloc_old _ _ HRL.out).trans HR2.out), hid (Ext.trans HX2.out (by repeat (first | (with_reducible exact Ext.refl _) | (with_reducible refine Ext.undrew ?_) | (with_reducible refine Ext.grow ?_ _) | (with_reducible refine Ext.drew ?_) | (with_reducible refine Ext.drewN ?_ _) | (with_reducible refine Ext.alloc ?_ _) | (with_reducible assumption) | ((with_reducible refine Ext.setCell ?_ ?_ _); rotate_left; (first | exact Nat.le_refl _ | ((try dsimp only); (try simp only [World.size_alloc, grow_size, World.size_setCell]); omega))))))⟩
      case measure =>
        have e1 : wr.iterSeen W.heap.size = seen := by unfold World.iterSeen; rw [HIT.out]
        rw [e1]
        unfold World.iterSeen
        rw [heap_alloc_old _ _ HRL.out, HR2.out]
        exact HM.out
theorem hLive (w W : World) (h ck q fq p pq g bq bf n : Nat) (fr tu ra rp full : Int) (T : Nat → Prop) (x : HSt) (k : Hp w W h ck q fq p pq g bq bf n fr tu ra rp full T x) (hnl : x.lv.length ≤ 100000) : Calls Tryd.prog 19 #[.pointer (some ⟨h, 0, none⟩)] W fun e W' => e = .returned (.tuple #[.int .i64 x.lv.length, .int .i64 (takesL x.lv)]) ∧ Ext W W' := by
  obtain ⟨vq, vf, k, hT⟩ := k
  have hok := k.okl.1
  obtain ⟨ps, c, p1, p2, p3, p4⟩ := k.mp
  rw [← p1] at hnl hok ⊢
  have e1 : (ps.map Prod.fst).length = ps.length := by simp
  rw [e1] at hnl ⊢
  exact live_ W h g ps c k.hl k.c10 (fun p hp => (hok p.1 (List.mem_map.2 ⟨p, hp, rfl⟩)).2.2) p2 p3 p4 hnl

end Go.Proofs.YtoeiemeffiiidaaDoor
