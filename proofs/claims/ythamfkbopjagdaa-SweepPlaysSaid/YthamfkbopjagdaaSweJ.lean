/- Layer 10: filled. -/
import Derived.Test.YthamfkbopjagdaaSweB
import Derived.Test.YthamfkbopjagdaaMOpenS
namespace Go.Proofs.Ythamfkbopjagdaa
set_option linter.unusedSimpArgs false
set_option linter.unusedVariables false
open Go.RowKit

/-- What calls make of a memory. -/
instance : Inhabited Cap := ⟨⟨false, 0, 0, 0, 0, 0⟩⟩
def fill1 (n : Nat) (z : TOp) (m : (Nat → Int) × (Nat → Bool) × (Nat → Bool)) : (Nat → Int) × (Nat → Bool) × (Nat → Bool) :=
  if z.what < 2 then (stoB n z.at_ z.bl m.1, stoT n z.at_ z.bl.length m.2.1, m.2.2) else (capB n z.at_ z.c m.1, capT n z.at_ z.c m.2.1, capD n z.at_ z.c m.2.2)
def fillM (n : Nat) (m : (Nat → Int) × (Nat → Bool) × (Nat → Bool)) (zs : List TOp) : (Nat → Int) × (Nat → Bool) × (Nat → Bool) := zs.foldl (fun m z => fill1 n z m) m
theorem fillM_snoc (n : Nat) (m : (Nat → Int) × (Nat → Bool) × (Nat → Bool)) (zs : List TOp) (z : TOp) : fillM n m (zs ++ [z]) = fill1 n z (fillM n m zs) := by simp [fillM]
/-- What calls make of a map. -/
def fillP (mm : Nat) (P : Nat → Bool) (ps : List SOp) : Nat → Bool := ps.foldl (fun P z => paintP mm P z.f z.t z.b) P
theorem fillP_snoc (mm : Nat) (P : Nat → Bool) (ps : List SOp) (z : SOp) : fillP mm P (ps ++ [z]) = paintP mm (fillP mm P ps) z.f z.t z.b := by simp [fillP]
/-- A memory and a map side by side. -/
structure MP (w W : World) (q g p pq n mm : Nat) (m : (Nat → Int) × (Nat → Bool) × (Nat → Bool)) (P : Nat → Bool) : Prop where
  h1 : HM w W q g n m.1 m.2.1 m.2.2
  h2 : Sh W p pq mm P
  ap : ¬ q = p ∧ ¬ q = pq ∧ ¬ g = p ∧ ¬ g = pq
  lo : w.heap.size ≤ p ∧ w.heap.size ≤ pq
section
variable {w W W1 : World} {q g p pq n mm : Nat} {m m' : (Nat → Int) × (Nat → Bool) × (Nat → Bool)} {P P' : Nat → Bool}
theorem MP.ext (h : MP w W q g p pq n mm m P) (x : Ext W W1) : MP w W1 q g p pq n mm m P := ⟨h.h1.ext x, h.h2.ext x, h.ap, h.lo⟩
theorem MP.mem (h : MP w W q g p pq n mm m P) (k : HM w W1 q g n m'.1 m'.2.1 m'.2.2) (x : Only (· = g) W W1) : MP w W1 q g p pq n mm m' P :=
  ⟨k, h.h2.only x (fun e => h.ap.2.2.1 e.symm) (fun e => h.ap.2.2.2 e.symm), h.ap, h.lo⟩
theorem MP.map (h : MP w W q g p pq n mm m P) (k : Sh W1 p pq mm P') (x : Only (· = pq) W W1) : MP w W1 q g p pq n mm m P' :=
  ⟨h.h1.only x h.ap.2.1 h.ap.2.2.2 (by rintro i rfl; exact h.lo.2), k, h.ap, h.lo⟩
end
def Gp (g pq i : Nat) : Prop := i = g ∨ i = pq
set_option maxRecDepth 100000 in
set_option maxHeartbeats 4000000 in
theorem filled_ (w W0 : World) (q g p pq n mm : Nat) (m0 : (Nat → Int) × (Nat → Bool) × (Nat → Bool)) (P0 : Nat → Bool) (h : MP w W0 q g p pq n mm m0 P0) (A1 : Option Addr) (c1 : Nat) (zs : List TOp) (hs : SlAtN w A1 10 (zs.map TOp.cells)) (hz : ∀ z ∈ zs, z.good w) (hl : zs.length ≤ maxLen)
    (A2 : Option Addr) (c2 : Nat) (ps : List SOp) (hp : SlAtN w A2 3 (ps.map SOp.cells)) (hl2 : ps.length ≤ maxLen) :
    Calls Try.prog 40 #[.pointer (some ⟨q, 0, none⟩), .pointer (some ⟨p, 0, none⟩), .slice A1 zs.length c1, .slice A2 ps.length c2] W0 fun e W' => e = .returned (.tuple #[]) ∧ Hid (MP w W' q g p pq n mm (fillM n m0 zs) (fillP mm P0 ps) ∧ Only (Gp g pq) W0 W') := by
  unfold maxLen at hl hl2
  have HMP := hid h
  have HSL := hid hs
  have HWZ := hid hz
  have HPL := hid hp
  clear h hs hz hp
  go_enter Try.func40, Try.ntmps40
  go_wp2
  go_loopw [8] (fun i wr => ∃ k : Nat, k ≤ zs.length ∧ i = .int .i64 k ∧ Hid (MP w wr q g p pq n mm (fillM n m0 (zs.take k)) P0 ∧ Only (Gp g pq) W0 wr)) (fun i _ => zs.length - (intOf i).toNat)
  case atStart => exact ⟨0, Nat.zero_le _, rfl, hid ⟨HMP.out, Only.refl _ _⟩⟩
  case round =>
    clear HMP
    obtain ⟨k, hk, rfl, HR⟩ := hrel
    have hk3 : (0 : Int) ≤ (k : Int) := by omega
    by_cases hlt : k < zs.length
    · obtain ⟨z, hz⟩ : ∃ z, zs[k] = z := ⟨_, rfl⟩
      have hzg : Hid (z.good w) := hid (by rw [← hz]; exact HWZ.out _ (List.getElem_mem hlt))
      have HTK : Hid (zs.take (k + 1) = zs.take k ++ [z]) := hid (by rw [List.take_succ_eq_append_getElem hlt, hz])
      obtain ⟨b0, o, rfl, hb0, hop⟩ := TOp.facts HSL.out hlt z hz
      have HOP := hid (rg_ext hop hb0 HR.out.1.h1.2.1)
      have hzA : Hid (∀ t, w.heap.size ≤ t → 0 < z.bl.length → ∀ b o, z.A = some ⟨b, o, none⟩ → ¬ b = t) := hid (fun t ht h0 b o e => by
        obtain ⟨b', o', e', hl', _⟩ := hzg.out.2.2.1.2.2.1 h0
        rw [e] at e'
        cases e'
        omega)
      have hk1 : (k : Int) < (zs.length : Int) := by omega
      clear hop hz
      have c0 : World.cell? wr ⟨b0, o + k * 10, none⟩ = some (.int .i64 z.what) := HOP.out 0 _ rfl
      by_cases hwh : z.what < 2
      · skip
        have c1 : World.cell? wr ⟨b0, o + k * 10 + 1, none⟩ = some (.int .i64 z.at_) := HOP.out 1 _ rfl
        have c2 : World.cell? wr ⟨b0, o + k * 10 + 2, none⟩ = some (.slice z.A z.bl.length z.ca) := HOP.out 2 _ rfl
        go_upto_region 4 with (fail)
        have hbb : ¬ b0 = g := by have := HR.out.1.h1.2.2.1; omega
        have hbl : b0 < wr.heap.size := Nat.lt_of_lt_of_le hb0 HR.out.1.h1.2.1.size
        refine wp_region_turn (q := g) (.rd 0 (.rd 1 (.rd 2 (.rd 3 (.rd 4 (.rd 5 (.rd 6 (.rd 7 (.rd 8 (.rd 9 (.rd 10 (.ac 11 .done)))))))))))) (by kernel_rfl) (by kernel_rfl) (fun _ _ d _ _ h => by cases d <;> exact h) (by simp only [Ord.map, nthOp, List.append]; rfl) ?_
        intro d0
        have hxg : Ext wr (Go.Proofs.Ythamfkbopjagdaa.grow wr d0) := Ext.grow (Ext.refl _) d0
        have HG := hid (HR.out.1.ext hxg)
        repeat (refine turn_read (by rfl) (fun K hK => ?_); go_big_quiet_op; refine hK _ ?_; clear hK K)
        refine turn_act (by rfl) (fun K hK => ?_)
        go_wp2_with (go_at_call 16; refine (fSto w _ q g n _ _ _ HG.out.h1 z.at_ z.A z.bl.length z.ca z.bl rfl (hzg.out.2.2.1.2.2.1.ext HG.out.h1.2.1) hzg.out.2.2.1.2.2.2 hzg.out.2.2.1.1 (hzA.out g HR.out.1.h1.2.2.1)).mono ?_; rintro e W5 ⟨rfl, HMx, HOx⟩)
        refine ⟨_, Only.refl _ _, HOx.out, ?_⟩
        refine turn_nil ?_
        have HN : Hid (MP w W5 q g p pq n mm (fillM n m0 (zs.take (k + 1))) P0 ∧ Only (Gp g pq) W0 W5) := hid ⟨by
          rw [HTK.out, fillM_snoc]
          refine HG.out.mem ?_ HOx.out
          unfold fill1
          rw [if_pos hwh]
          exact HMx.out, (HR.out.2.transExt hxg).trans HOx.out (fun i e => .inl (.inl e))⟩
        clear HG hxg hbb hbl c1 c2 HOP HR HMx HOx
        go_wp2
        go_roundw
        case rel => exact ⟨k + 1, by omega, by go_num, HN⟩
        case measure => simp [intOf]; omega
      · skip
        have c1 : World.cell? wr ⟨b0, o + k * 10 + 1, none⟩ = some (.int .i64 z.at_) := HOP.out 1 _ rfl
        have c3 : World.cell? wr ⟨b0, o + k * 10 + 3, none⟩ = some (.bool z.c.tag) := HOP.out 3 _ rfl
        have c4 : World.cell? wr ⟨b0, o + k * 10 + 4, none⟩ = some (.int .i64 z.c.base) := HOP.out 4 _ rfl
        have c5 : World.cell? wr ⟨b0, o + k * 10 + 5, none⟩ = some (.int .i64 z.c.top) := HOP.out 5 _ rfl
        have c6 : World.cell? wr ⟨b0, o + k * 10 + 6, none⟩ = some (.int .i64 z.c.at_) := HOP.out 6 _ rfl
        have c7 : World.cell? wr ⟨b0, o + k * 10 + 7, none⟩ = some (.int .i64 z.c.perms) := HOP.out 7 _ rfl
        have c8 : World.cell? wr ⟨b0, o + k * 10 + 8, none⟩ = some (.int .i64 z.c.type) := HOP.out 8 _ rfl
        go_upto_region 5 with (fail)
        have hbb : ¬ b0 = g := by have := HR.out.1.h1.2.2.1; omega
        have hbl : b0 < wr.heap.size := Nat.lt_of_lt_of_le hb0 HR.out.1.h1.2.1.size
        refine wp_region_turn (q := g) (.rd 0 (.rd 1 (.rd 2 (.rd 3 (.rd 4 (.rd 5 (.rd 6 (.rd 7 (.rd 8 (.rd 9 (.rd 10 (.ac 11 .done)))))))))))) (by kernel_rfl) (by kernel_rfl) (fun _ _ d _ _ h => by cases d <;> exact h) (by simp only [Ord.map, nthOp, List.append]; rfl) ?_
        intro d0
        have hxg : Ext wr (Go.Proofs.Ythamfkbopjagdaa.grow wr d0) := Ext.grow (Ext.refl _) d0
        have HG := hid (HR.out.1.ext hxg)
        repeat (refine turn_read (by rfl) (fun K hK => ?_); go_big_quiet_op; refine hK _ ?_; clear hK K)
        refine turn_act (by rfl) (fun K hK => ?_)
        go_wp2_with (go_at_call 18; refine (fSc w _ q g n _ _ _ HG.out.h1 z.at_ z.c.tag z.c.base z.c.top z.c.at_ z.c.perms z.c.type).mono ?_; rintro e W5 ⟨rfl, HMx, HOx⟩)
        refine ⟨_, Only.refl _ _, HOx.out, ?_⟩
        refine turn_nil ?_
        have HN : Hid (MP w W5 q g p pq n mm (fillM n m0 (zs.take (k + 1))) P0 ∧ Only (Gp g pq) W0 W5) := hid ⟨by
          rw [HTK.out, fillM_snoc]
          refine HG.out.mem ?_ HOx.out
          unfold fill1
          rw [if_neg (by omega)]
          exact HMx.out, (HR.out.2.transExt hxg).trans HOx.out (fun i e => .inl (.inl e))⟩
        clear HG hxg hbb hbl c1 c3 c4 c5 c6 c7 c8 HOP HR HMx HOx
        go_wp2
        go_roundw
        case rel => exact ⟨k + 1, by omega, by go_num, HN⟩
        case measure => simp [intOf]; omega
    · obtain rfl : k = zs.length := by omega
      have hk1 : ¬ (zs.length : Int) < (zs.length : Int) := by omega
      rw [List.take_of_length_le (Nat.le_refl _)] at HR
      go_wp2
      go_loopw [9] (fun i wr => ∃ k : Nat, k ≤ ps.length ∧ i = .int .i64 k ∧ Hid (MP w wr q g p pq n mm (fillM n m0 zs) (fillP mm P0 (ps.take k)) ∧ Only (Gp g pq) W0 wr)) (fun i _ => ps.length - (intOf i).toNat)
      case atStart => exact ⟨0, Nat.zero_le _, rfl, HR⟩
      case round =>
        clear HR
        obtain ⟨k, hk, rfl, HR⟩ := hrel
        have hk3 : (0 : Int) ≤ (k : Int) := by omega
        by_cases hlt : k < ps.length
        · obtain ⟨z, hz⟩ : ∃ z, ps[k] = z := ⟨_, rfl⟩
          have HTK : Hid (ps.take (k + 1) = ps.take k ++ [z]) := hid (by rw [List.take_succ_eq_append_getElem hlt, hz])
          obtain ⟨b0, o, rfl, hb0, e0, e1, e2⟩ := op_at HPL.out hlt z hz
          have hb1 : b0 < wr.heap.size := Nat.lt_of_lt_of_le hb0 HR.out.1.h1.2.1.size
          have c0 := (HR.out.1.h1.2.1.cells b0 _ hb0).trans e0
          have c1 := (HR.out.1.h1.2.1.cells b0 _ hb0).trans e1
          have c2 := (HR.out.1.h1.2.1.cells b0 _ hb0).trans e2
          have hk1 : (k : Int) < (ps.length : Int) := by omega
          clear hz e0 e1 e2
          go_upto_region 9 with (fail)
          have hbb : ¬ b0 = pq := by have := HR.out.1.lo.2; omega
          refine wp_region_turn (q := pq) (.rd 0 (.rd 1 (.rd 2 (.rd 3 (.rd 4 (.rd 5 (.rd 6 (.rd 7 (.rd 8 (.rd 9 (.rd 10 (.rd 11 (.rd 12 (.rd 13 (.rd 14 (.rd 15 (.ac 16 .done))))))))))))))))) (by kernel_rfl) (by kernel_rfl) (fun _ _ d _ _ h => by cases d <;> exact h) (by simp only [Ord.map, nthOp, List.append]; rfl) ?_
          intro d0
          have hxg : Ext wr (Go.Proofs.Ythamfkbopjagdaa.grow wr d0) := Ext.grow (Ext.refl _) d0
          have HG := hid (HR.out.1.ext hxg)
          repeat (refine turn_read (by rfl) (fun K hK => ?_); go_big_quiet_op; refine hK _ ?_; clear hK K)
          refine turn_act (by rfl) (fun K hK => ?_)
          go_wp2_with (go_at_call 20; refine (paint_any HG.out.h2 z.f z.t z.b).mono ?_; rintro e W5 ⟨rfl, HMx0, HOx0⟩; have HMx := hid HMx0; have HOx := hid HOx0; clear HMx0 HOx0)
          refine ⟨_, Only.refl _ _, HOx.out, ?_⟩
          refine turn_nil ?_
          have HN : Hid (MP w W5 q g p pq n mm (fillM n m0 zs) (fillP mm P0 (ps.take (k + 1))) ∧ Only (Gp g pq) W0 W5) := hid ⟨by
            rw [HTK.out, fillP_snoc]
            exact HG.out.map HMx.out HOx.out, (HR.out.2.transExt hxg).trans HOx.out (fun i e => .inl (.inr e))⟩
          clear HG hxg hbb hb1 c0 c1 c2 HR HMx HOx
          go_wp2
          go_roundw
          case rel => exact ⟨k + 1, by omega, by go_num, HN⟩
          case measure => simp [intOf]; omega
        · obtain rfl : k = ps.length := by omega
          have hk1 : ¬ (ps.length : Int) < (ps.length : Int) := by omega
          rw [List.take_of_length_le (Nat.le_refl _)] at HR
          go_wp2
          go_end0
          exact ⟨rfl, HR⟩

end Go.Proofs.Ythamfkbopjagdaa
