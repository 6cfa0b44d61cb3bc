/- Layer 13: the document's Due. -/
import Derived.Test.YtlbemgkdpagoiaaQuaJ
namespace Go.Proofs.Ytlbemgkdpagoiaa
set_option linter.unusedSimpArgs false
set_option linter.unusedVariables false
open Go.RowKit

def lenV : Value → Nat
  | .slice _ n _ => n
  | _ => 0
set_option maxRecDepth 100000 in
set_option maxHeartbeats 4000000 in
theorem rqdue_ (q base : Nat) (full : Int) (v : Value) (l : List Hd) (w : World) (h : Rq w q base full v l) (now : Int) (hl : l.length ≤ 1000000) (ht : ∀ h ∈ l, 0 ≤ h.time ∧ h.time ≤ 2199023255552) :
    Calls Try.prog 13 #[.pointer (some ⟨q, 0, none⟩), .int .i64 now] w fun e w' => ∃ vr v', e = .returned vr ∧ Rq w' q base full v' (l.drop (l.takeWhile (dueB now)).length) ∧ ownsAt w' w.heap.size 29 3 vr (l.takeWhile (dueB now)).length (hdList (l.takeWhile (dueB now))) ∧ Only (fun i => i = q) w w' ∧ ∀ g, v'.ownBlock = some g → v.ownBlock = some g ∨ w.heap.size ≤ g := by
  have HQ := hid h
  have HT := hid ht
  have hq0 := h.1
  have hbs : base ≤ q := h.2.2.2.2.1
  clear h ht
  obtain ⟨i0, z0, hi0, hz0, hz1, hz2, hz3⟩ := held_info
  go_enter Try.func13, Try.ntmps13
  go_wp2
  go_loopw [5] (fun o wr => ∃ (k : Nat) (vo v' : Value), k ≤ (l.takeWhile (dueB now)).length ∧ o = vo ∧ Hid (ownsAt wr w.heap.size 29 3 vo k (hdList (l.take k))) ∧ Hid (Rq wr q base full v' (l.drop k)) ∧ Hid (Only (fun i => i = q) w wr) ∧ Hid (∀ g, vo.ownBlock = some g → ¬ v'.ownBlock = some g) ∧ Hid (∀ g, v'.ownBlock = some g → v.ownBlock = some g ∨ w.heap.size ≤ g)) (fun o _ => l.length - lenV o)
  case atStart => exact ⟨0, _, v, Nat.zero_le _, rfl, hid (ownsAt_nil _ _ _ _), hid HQ.out, hid (Only.refl _ _), hid (fun g hg => by cases hg), hid (fun g hg => .inl hg)⟩
  case round =>
    obtain ⟨k, vo, v', hk, rfl, HO, hR, hOn, hdj, hfr⟩ := hrel
    obtain ⟨A, ca, rfl, hca, hcn⟩ := hR.out.2.2.2.1.shape
    have hsz := hOn.out.size
    have hkl : k ≤ l.length := Nat.le_trans hk (List.takeWhile_prefix _).length_le
    have hlen : (l.take k).length = k := by rw [List.length_take]; omega
    cases hdr : l.drop k with
    | nil =>
      rw [hdr] at hR
      have hlk : l.length ≤ k := by simpa using hdr
      have hte := tw_end _ l k hk hlk
      have hqc := hR.out.2.1.2
      have hq1 := hR.out.1
      go_wp2
      go_ret
      exact ⟨_, _, rfl, by rw [← hte, hlen, hdr]; exact hR.out, by rw [← hte, hlen]; exact HO.out, hOn.out, hfr.out⟩
    | cons x r =>
      rw [hdr] at hR
      have hlk : k < l.length := by
        rcases Nat.lt_or_ge k l.length with h | h
        · exact h
        · rw [List.drop_eq_nil_of_le h] at hdr; cases hdr
      have hgx : l[k] = x := by rw [List.drop_eq_getElem_cons hlk] at hdr; exact (List.cons.inj hdr).1
      have hdr2 : l.drop (k + 1) = r := by rw [List.drop_eq_getElem_cons hlk] at hdr; exact (List.cons.inj hdr).2
      have hrl : r.length + 1 ≤ 1000000 := by have := congrArg List.length hdr; rw [List.length_drop, List.length_cons] at this; omega
      try rw [hdr] at hca
      replace hca : r.length + 1 ≤ ca := hca
      replace hR : Hid (Rq wr q base full (.slice A (r.length + 1) ca) (x :: r)) := hR
      obtain ⟨g, o, rfl, hgb, hg, hcell, _⟩ := hR.out.2.2.2.1.at_ rfl (by simp)
      have c0 := hcell 0 (.int .i64 x.at_) rfl
      have c1 := hcell 1 (.int .i64 x.n) rfl
      have c2 := hcell 2 (.int .i64 x.time) rfl
      rw [Nat.add_zero] at c0
      have hqc := hR.out.2.1.2
      have hq1 := hR.out.1
      have htx := HT.out x (by rw [← hgx]; exact List.getElem_mem _)
      have hx0 : -9223372036854775808 ≤ x.time := by omega
      have hx1 : x.time ≤ 9223372036854775807 := by omega
      have hn0 : (0 : Int) < ((r.length + 1 : Nat) : Int) := by omega
      by_cases hdue : whenT x.time ≤ now
      · have h4 := tw_go _ l k hk hlk (by rw [hgx]; simpa [dueB] using hdue)
        clear hcell
        go_upto_region 3 with (go_at_call 30; refine (rwhen _ _ hx0 hx1).mono ?_; rintro e w1 ⟨rfl, rfl⟩)
        go_upto_region 4 with (at_builtin; refine wpList_plain rfl fun K hK => ?_; refine wp_append_at _ _ _ 33 rfl w.heap.size 29 i0 z0 3 24 Try.underlying33 hi0 hz0 hz2 hz3 hz1 (by decide) u5 k (hdList (l.take k)) rfl (HO.out.ext (Ext.alloc (Ext.refl _) _)) ⟨wr.heap.size, 0, none⟩ 1 1 [.int .i64 x.at_, .int .i64 x.n, .int .i64 x.time] rfl rfl (fun j u hj => by rw [Addr.add_lit]; exact (Row.new wr _ _).range j u hj) (hd_one x) (by unfold maxLen; omega) (by omega) (by simp; omega) (by omega) ?_; intro v1 W4 hown1 hgrow1 hat1; refine hK _ _ ?_; clear hK K)
        have hlu := fun g hg => HO.out.lt g hg
        have hS : Only (fun i => u5.ownBlock = some i) wr W4 := grown_only (Only.alloc (Only.refl _ _) _) hgrow1 fun g e => e
        have HR4 : Hid (Rq W4 q base full (.slice (some ⟨g, o * 3, none⟩) (r.length + 1) ca) (x :: r)) := hid (hR.out.only hS (fun e => by have := hlu _ e; omega) (fun g' e1 e2 => hdj.out g' e2 ((own_len _ _ _ _ _).trans e1)))
        have hOn4 : Hid (Only (fun i => i = q) w W4) := hid (hOn.out.trans hS fun i e => .inr (hlu i e).1)
        have HO4 : Hid (ownsAt W4 w.heap.size 29 3 v1 (k + 1) (hdList (l.take (k + 1)))) := hid (by rw [List.take_succ_eq_append_getElem hlk, hgx, hdList_append, hdList_one]; exact hown1)
        obtain ⟨g2, o2, e2, _, hg4, hcell4, _⟩ := HR4.out.2.2.2.1.at_ rfl (by simp)
        simp only [Option.some.injEq, Addr.mk.injEq, and_true] at e2
        obtain ⟨rfl, e2⟩ := e2
        obtain rfl : o = o2 := by omega
        clear e2
        have hq4 := HR4.out.2.1.2
        have hq4l := HR4.out.1
        have hc4l : g < W4.heap.size := hg4
        have HC4 := hid hcell4
        clear hcell4 hgrow1 hown1 hat1 hdj hS hR c0 c1 c2 hqc hq1
        by_cases hca1 : ca = 1
        · subst hca1
          obtain rfl : r = [] := List.eq_nil_of_length_eq_zero (by omega)
          go_wp2_with (at_builtin; refine wpList_append_own _ rfl _ _ 33 rfl W4.heap.size 29 i0 z0 3 24 Try.underlying33 hi0 hz0 hz2 hz3 hz1 (by decide) _ _ _ rfl (owns_empty W4 29 3) ⟨g, o * 3, none⟩ 0 0 (hdList ([] : List Hd)) rfl (hdList_length []) (fun j u hj => by simp [hdList] at hj) (hdList_ones []) (by unfold maxLen; omega) (by omega) (by first | omega | simp) ?_; intro v2 w2 hown2 hgrow2 _; (try simp only [Nat.zero_add, List.nil_append] at hown2); have hown2 := ownsAt_of hown2; obtain ⟨A2, c2, rfl, _, _⟩ := hown2.shape; have hown2 := hid hown2; have hE2 := hid (Ext.only (Ext.alloc (Ext.refl W4) _) (grownOnly (S := fun i => i = W4.heap.size) hgrow2 (fun g hg => (Option.some.inj (show some W4.heap.size = some g from hg)).symm)) (by rintro i rfl; exact Nat.le_refl _)); have hq2 := (hE2.out.frozens q 1 HR4.out.1).trans HR4.out.2.2.1.2; have hq3 := (hE2.out.cells q 1 HR4.out.1).trans HR4.out.2.1.2; clear hgrow2)
          go_roundw
          case rel =>
            have hs : ∀ u, Only (fun i => i = q) w2 (w2.setCell ⟨q, 1, none⟩ u) := fun u => Only.setCell (S := fun i => i = q) (Only.refl _ _) (.inl rfl) u
            have hR2 := HR4.out.ext hE2.out
            have hl2 := fun g hg => hown2.out.lt g hg
            have hl1 := fun g hg => HO4.out.lt g hg
            have h20 := hR2.2.1.1
            have h21 := hR2.2.2.1.1
            have hqW := HR4.out.1
            refine ⟨k + 1, v1, .slice A2 0 c2, by omega, rfl, hid ((HO4.out.ext hE2.out).only (hs _) (fun g hg => by have := hl1 g hg; omega)), hid ⟨by simpa using hR2.1, ⟨by simp [go_sem, h20], by simp [go_sem, hq3]⟩, ⟨by simp [go_sem, h21], by simp [go_sem, hq2]⟩, ?_, hR2.2.2.2.2.1, fun g hg => by have := hl2 g hg; omega⟩, hid ((hOn4.out.transExt hE2.out).trans' (hs _)), hid (fun g hg hg2 => by have := hl1 g hg; have := hl2 g hg2; omega), hid (fun g hg => .inr (by have := hl2 g hg; have := hOn4.out.size; omega))⟩
            rw [hdr2]
            exact (ownsAt.mono (hown2.out.only (hs _) (fun g hg => by have := hl2 g hg; omega)) (by have := hOn4.out.size; omega))
          case measure =>
            obtain ⟨A1, c1, e1, _⟩ := HO4.out.shape
            obtain ⟨A0, c0, e0, _⟩ := HO.out.shape
            rw [e1, e0]
            show l.length - (k + 1) < l.length - k
            omega
        · go_wp2_with (at_builtin; refine wpList_append_own _ rfl _ _ 33 rfl W4.heap.size 29 i0 z0 3 24 Try.underlying33 hi0 hz0 hz2 hz3 hz1 (by decide) _ _ _ rfl (owns_empty W4 29 3) ⟨g, o * 3 + 3, none⟩ r.length (ca - 1) (hdList r) rfl (hdList_length r) (fun j u hj => by rw [Addr.add_lit, (Ext.alloc (Ext.refl W4) _).cells g _ hc4l, Nat.add_assoc]; exact HC4.out (3 + j) u (by rw [show hdList (x :: r) = x.cells ++ hdList r from rfl, List.getElem?_append_right (by simp [Hd.cells])]; simpa [Hd.cells] using hj)) (hdList_ones r) (by unfold maxLen; omega) (by omega) (by first | omega | simp) ?_; intro v2 w2 hown2 hgrow2 _; (try simp only [Nat.zero_add, List.nil_append] at hown2); have hown2 := ownsAt_of hown2; obtain ⟨A2, c2, rfl, _, _⟩ := hown2.shape; have hown2 := hid hown2; have hE2 := hid (Ext.only (Ext.alloc (Ext.refl W4) _) (grownOnly (S := fun i => i = W4.heap.size) hgrow2 (fun g hg => (Option.some.inj (show some W4.heap.size = some g from hg)).symm)) (by rintro i rfl; exact Nat.le_refl _)); have hq2 := (hE2.out.frozens q 1 HR4.out.1).trans HR4.out.2.2.1.2; have hq3 := (hE2.out.cells q 1 HR4.out.1).trans HR4.out.2.1.2; clear hgrow2)
          go_roundw
          case rel =>
            have hs : ∀ u, Only (fun i => i = q) w2 (w2.setCell ⟨q, 1, none⟩ u) := fun u => Only.setCell (S := fun i => i = q) (Only.refl _ _) (.inl rfl) u
            have hR2 := HR4.out.ext hE2.out
            have hl2 := fun g hg => hown2.out.lt g hg
            have hl1 := fun g hg => HO4.out.lt g hg
            have h20 := hR2.2.1.1
            have h21 := hR2.2.2.1.1
            have hqW := HR4.out.1
            refine ⟨k + 1, v1, .slice A2 r.length c2, by omega, rfl, hid ((HO4.out.ext hE2.out).only (hs _) (fun g hg => by have := hl1 g hg; omega)), hid ⟨by simpa using hR2.1, ⟨by simp [go_sem, h20], by simp [go_sem, hq3]⟩, ⟨by simp [go_sem, h21], by simp [go_sem, hq2]⟩, ?_, hR2.2.2.2.2.1, fun g hg => by have := hl2 g hg; omega⟩, hid ((hOn4.out.transExt hE2.out).trans' (hs _)), hid (fun g hg hg2 => by have := hl1 g hg; have := hl2 g hg2; omega), hid (fun g hg => .inr (by have := hl2 g hg; have := hOn4.out.size; omega))⟩
            rw [hdr2]
            exact (ownsAt.mono (hown2.out.only (hs _) (fun g hg => by have := hl2 g hg; omega)) (by have := hOn4.out.size; omega))
          case measure =>
            obtain ⟨A1, c1, e1, _⟩ := HO4.out.shape
            obtain ⟨A0, c0, e0, _⟩ := HO.out.shape
            rw [e1, e0]
            show l.length - (k + 1) < l.length - k
            omega
      · have hte := tw_stop _ l k hk hlk (by rw [hgx]; simpa [dueB] using hdue)
        clear hcell
        go_wp2_with (go_at_call 30; refine (rwhen _ _ hx0 hx1).mono ?_; rintro e w1 ⟨rfl, rfl⟩)
        go_ret
        exact ⟨_, _, rfl, by rw [← hte, hlen, hdr]; exact hR.out, by rw [← hte, hlen]; exact HO.out, hOn.out, hfr.out⟩

end Go.Proofs.Ytlbemgkdpagoiaa
