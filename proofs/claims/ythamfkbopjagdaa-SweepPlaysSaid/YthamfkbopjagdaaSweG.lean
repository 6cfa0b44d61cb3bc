/- Layer 10: All. -/
import Derived.Test.YthamfkbopjagdaaSweF
namespace Go.Proofs.Ythamfkbopjagdaa
set_option linter.unusedSimpArgs false
set_option linter.unusedVariables false
open Go.RowKit

/-- What the barrier makes of one. -/
def capBar (mm : Nat) (P : Nat → Bool) (c : Cap) : Cap := { c with tag := c.tag && !hitsP mm P c.tag c.base c.top }
def capsF (zs : List Cap) : List Value := zs.flatMap capL
theorem capL_length (c : Cap) : (capL c).length = 6 := rfl
theorem capsF_length : ∀ zs : List Cap, (capsF zs).length = 6 * zs.length
  | [] => rfl
  | z :: zs => by
    have := capsF_length zs
    unfold capsF at this ⊢
    rw [List.flatMap_cons, List.length_append, this, List.length_cons, capL_length]
    omega
theorem capsF_snoc (zs : List Cap) (z : Cap) : capsF (zs ++ [z]) = capsF zs ++ capL z := by simp [capsF]
theorem capsF_at : ∀ (zs : List Cap) (k j : Nat) (hk : k < zs.length), j < 6 → (capsF zs)[k * 6 + j]? = (capL zs[k])[j]?
  | [], k, j, hk, _ => absurd hk (Nat.not_lt_zero _)
  | z :: zs, 0, j, _, hj => by
    unfold capsF
    rw [List.flatMap_cons, Nat.zero_mul, Nat.zero_add, List.getElem?_append_left (by rw [capL_length]; exact hj)]
    rfl
  | z :: zs, k + 1, j, hk, hj => by
    have := capsF_at zs k j (by simpa using hk) hj
    unfold capsF at this ⊢
    rw [List.flatMap_cons, List.getElem?_append_right (by rw [capL_length]; omega), capL_length, show (k + 1) * 6 + j - 6 = k * 6 + j by omega, this]
    rfl
theorem ownsAt.caps {w : World} {base n c : Nat} {A : Option Addr} {zs : List Cap} (h : ownsAt w base 24 6 (.slice A n c) n (capsF zs)) (hn : zs.length = n) : SlAtN w A 6 (zs.map capL) := fun h0 => by
  rw [List.length_map] at h0
  obtain ⟨g, o, e, _, hl, hc, _⟩ := h.at_ rfl (by omega)
  refine ⟨g, o * 6, e, hl, fun i hi j hj => ?_⟩
  rw [List.length_map] at hi
  rw [List.getElem_map]
  have h1 := capsF_at zs i j hi hj
  obtain ⟨u, hu⟩ : ∃ u, (capL zs[i])[j]? = some u := ⟨(capL zs[i])[j]'(by rw [capL_length]; exact hj), List.getElem?_eq_getElem _⟩
  rw [hu] at h1 ⊢
  have := hc _ u h1
  rwa [← Nat.add_assoc] at this
theorem Cap.facts {w : World} {A : Option Addr} {zs : List Cap} (h : SlAtN w A 6 (zs.map capL)) {k : Nat} (hk : k < zs.length) (z : Cap) (hz : zs[k] = z) : ∃ b o, A = some ⟨b, o, none⟩ ∧ b < w.heap.size ∧ w.rangeAt b (o + k * 6) (capL z) := by
  obtain ⟨b, o, hA, hb, hc⟩ := h (by simpa using Nat.lt_of_le_of_lt (Nat.zero_le _) hk)
  have hc := hc k (by simpa using hk)
  simp only [List.getElem_map, hz] at hc
  refine ⟨b, o, hA, hb, fun j v hj => ?_⟩
  have hlt : j < 6 := by have := (List.getElem?_eq_some_iff.1 hj).1; rwa [capL_length] at this
  rw [hc j hlt, hj]
theorem info_capA : (Try.prog.info? 24).map (fun i => (i.zero, i.size, i.bytes)) = some (some (.agg #[.bool false, .int .i64 0, .int .i64 0, .int .i64 0, .int .i64 0, .int .i64 0]), 6, 48) := by kernel_rfl
def AllIs (W : World) (zs : List Cap) (e : Ending) (W' : World) : Prop := ∃ A ca, e = .returned (.slice A zs.length ca) ∧ Hid (SlAtN W' A 6 (zs.map capL)) ∧ Hid (Ext W W')
theorem capL_one (y : Cap) : ∀ u ∈ capL y, u.oneCell' = true := by
  intro u hu
  simp [capL] at hu
  rcases hu with rfl | rfl | rfl | rfl | rfl | rfl <;> rfl
set_option maxRecDepth 100000 in
set_option maxHeartbeats 4000000 in
theorem all_ (w W : World) (q g s p pq n mm : Nat) (B : Nat → Int) (T D P : Nat → Bool) (runs : Bool) (A : Option Addr) (ca : Nat) (L : List Nat) (gone : Nat) (h : SWB w W q g s p pq n mm B T D P runs A ca L gone) (A0 : Option Addr) (c0 m : Nat) (zs : List Cap) (hm : zs.length = m) (hs : SlAtN W A0 6 (zs.map capL)) (hzs : m ≤ 100000) (hwf : ∀ z ∈ zs, z.base ≤ 9223372036854775807) : Calls Try.prog 45 #[.pointer (some ⟨s, 0, none⟩), .slice A0 m c0] W fun e W' => AllIs W (zs.map (capBar mm P)) e W' := by
  obtain ⟨i0, hi0, hz0, hz1, hz2⟩ := info_parts info_capA
  have HS := hid h
  have HSL := hid hs
  have HWF := hid hwf
  have HM := hid hm
  clear h hs hwf hm
  go_enter Try.func45, Try.ntmps45
  go_wp2
  go_loopw [5, 10] (fun v i wr => ∃ k : Nat, k ≤ m ∧ i = .int .i64 k ∧ Hid (ownsAt wr W.heap.size 24 6 v k (capsF ((zs.take k).map (capBar mm P)))) ∧ Hid (Ext W wr)) (fun _ i _ => m - (intOf i).toNat)
  case atStart => exact ⟨0, Nat.zero_le _, rfl, hid (ownsAt_nil _ _ _ _), hid (Ext.refl _)⟩
  case round =>
    obtain ⟨k, hk, rfl, HO, HE⟩ := hrel
    have hk0 : (0 : Int) ≤ (k : Int) := by omega
    by_cases hlt : k < m
    · have hk1 : (k : Int) < (m : Int) := by omega
      have hkl : k < zs.length := by rw [HM.out]; exact hlt
      obtain ⟨z, hz⟩ : ∃ z, zs[k] = z := ⟨_, rfl⟩
      have hzb : z.base ≤ 9223372036854775807 := by rw [← hz]; exact HWF.out _ (List.getElem_mem hkl)
      obtain ⟨b0, o, rfl, hb0, hop⟩ := Cap.facts HSL.out hkl z hz
      have HOP := hid (rg_ext hop hb0 HE.out)
      have hb1 : b0 < wr.heap.size := Nat.lt_of_lt_of_le hb0 HE.out.size
      have HTK : Hid ((zs.take (k + 1)).map (capBar mm P) = (zs.take k).map (capBar mm P) ++ [capBar mm P z]) := hid (by rw [List.take_succ_eq_append_getElem hkl, hz, List.map_append]; rfl)
      have HLN : Hid (k ≤ 100000) := hid (by omega)
      obtain ⟨y, hy⟩ : ∃ y, capBar mm P z = y := ⟨_, rfl⟩
      rw [hy] at HTK
      have HY : Hid ((Value.agg #[.bool (z.tag && !hitsP mm P z.tag z.base z.top), .int .i64 z.base, .int .i64 z.top, .int .i64 z.at_, .int .i64 z.perms, .int .i64 z.type]) = .agg #[.bool y.tag, .int .i64 y.base, .int .i64 y.top, .int .i64 y.at_, .int .i64 y.perms, .int .i64 y.type]) := hid (by rw [← hy]; rfl)
      clear hop hz hkl hy
      have c0 : wr.cell? ⟨b0, o + k * 6, none⟩ = some (.bool z.tag) := HOP.out 0 _ rfl
      have c1 : wr.cell? ⟨b0, o + k * 6 + 1, none⟩ = some (.int .i64 z.base) := HOP.out 1 _ rfl
      have c2 : wr.cell? ⟨b0, o + k * 6 + 2, none⟩ = some (.int .i64 z.top) := HOP.out 2 _ rfl
      have c3 : wr.cell? ⟨b0, o + k * 6 + 3, none⟩ = some (.int .i64 z.at_) := HOP.out 3 _ rfl
      have c4 : wr.cell? ⟨b0, o + k * 6 + 4, none⟩ = some (.int .i64 z.perms) := HOP.out 4 _ rfl
      have c5 : wr.cell? ⟨b0, o + k * 6 + 5, none⟩ = some (.int .i64 z.type) := HOP.out 5 _ rfl
      go_upto_region 5 with (fail)
      refine wp_gen (fun V => Hid (Ext wr V) ∧ Hid (CapB V wr.heap.size (capL z))) ⟨hid (by repeat (first | (with_reducible exact Ext.refl _) | (with_reducible refine Ext.undrew ?_) | (with_reducible refine Ext.grow ?_ _) | (with_reducible refine Ext.drew ?_) | (with_reducible refine Ext.drewN ?_ _) | (with_reducible refine Ext.alloc ?_ _) | (with_reducible assumption) | ((with_reducible refine Ext.setCell ?_ ?_ _); rotate_left; (first | exact Nat.le_refl _ | ((try dsimp only); (try simp only [World.size_alloc, grow_size, World.size_setCell]); omega))))), hid (CapB.new wr _ _)⟩ ?_
      clear c0 c1 c2 c3 c4 c5 hb1 HOP
      rintro W1 ⟨HX1, HC1⟩
      generalize wr.heap.size = xb at HC1 ⊢
      have d0 : World.cell? W1 ⟨xb, 0, none⟩ = some (.bool z.tag) := HC1.out.2 0 _ rfl
      have d1 : World.cell? W1 ⟨xb, 1, none⟩ = some (.int .i64 z.base) := HC1.out.2 1 _ rfl
      have d2 : World.cell? W1 ⟨xb, 2, none⟩ = some (.int .i64 z.top) := HC1.out.2 2 _ rfl
      have d3 : World.cell? W1 ⟨xb, 3, none⟩ = some (.int .i64 z.at_) := HC1.out.2 3 _ rfl
      have d4 : World.cell? W1 ⟨xb, 4, none⟩ = some (.int .i64 z.perms) := HC1.out.2 4 _ rfl
      have d5 : World.cell? W1 ⟨xb, 5, none⟩ = some (.int .i64 z.type) := HC1.out.2 5 _ rfl
      have dl := HC1.out.1
      go_wp2_with (first | (go_at_call 37; refine (barrier_ w _ q g s p pq n mm B T D P runs A ca L gone (HS.out.ext (HE.out.trans HX1.out)) z.tag z.base z.top z.at_ z.perms z.type hzb).mono ?_; rw [HY.out]; rintro e W2 ⟨rfl, hx2⟩) | (at_builtin; refine wpList_plain rfl fun K hK => ?_; go_loud (refine wp_append_at _ _ _ 68 rfl W.heap.size 24 i0 _ 6 48 Try.underlying68 hi0 hz0 hz1 hz2 rfl (by decide) _ _ _ rfl ((HO.out.ext (HX1.out.trans hx2)).ext (Ext.alloc (Ext.refl _) _)) ⟨W2.heap.size, 0, none⟩ 1 1 [.bool y.tag, .int .i64 y.base, .int .i64 y.top, .int .i64 y.at_, .int .i64 y.perms, .int .i64 y.type] rfl rfl (fun j u hj => by rw [Addr.add_lit]; exact (Row.new W2 #[.bool y.tag, .int .i64 y.base, .int .i64 y.top, .int .i64 y.at_, .int .i64 y.perms, .int .i64 y.type] _).range j u hj) (capL_one y) (by unfold maxLen; have := HLN.out; omega) (by have := HLN.out; omega) (by have := HE.out.size; have := HX1.out.size; have := hx2.size; simp; omega) (by decide) ?_); intro v5 w5 hown5 hgrow5 hat5; refine hK _ _ ?_))
      have HO5 : Hid (ownsAt w5 W.heap.size 24 6 v5 (k + 1) (capsF ((zs.take (k + 1)).map (capBar mm P)))) := hid (by
        rw [HTK.out, capsF_snoc]
        exact hown5)
      have HE5 : Hid (Ext W w5) := hid (Ext.only (((HE.out.trans HX1.out).trans hx2).trans (Ext.alloc (Ext.refl _) _)) (grownOnly (S := fun i => W.heap.size ≤ i) hgrow5 (fun g e => (HO.out.lt g e).1)) (fun i hi => hi))
      clear hown5 hgrow5 hat5
      go_wp2
      go_roundw
      case rel => exact ⟨k + 1, by omega, by go_num, HO5, HE5⟩
      case measure => simp [intOf]; omega
    · obtain rfl : m = k := by omega
      have hk1 : ¬ (m : Int) < (m : Int) := by omega
      obtain ⟨A1, c1, rfl, _, _⟩ := HO.out.shape
      rw [List.take_of_length_le (by rw [HM.out]; exact Nat.le_refl _)] at HO
      have HLE : Hid ((zs.map (capBar mm P)).length = m) := hid (by rw [List.length_map]; exact HM.out)
      go_wp2
      go_ret
      exact ⟨A1, c1, by rw [HLE.out]; rfl, hid (HO.out.caps HLE.out), HE⟩

end Go.Proofs.Ythamfkbopjagdaa
