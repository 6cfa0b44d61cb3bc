/- Layer 10: the document's sweeper. -/
import Derived.Test.YthamfkbopjagdaaSweE
namespace Go.Proofs.Ythamfkbopjagdaa
set_option linter.unusedSimpArgs false
set_option linter.unusedVariables false
open Go.RowKit

/-- The document's sweep: the memory, the map, the sweeper. -/
structure SWR (w W : World) (r gb gt gp s p pq n nb nt mm : Nat) (B : Nat → Int) (T D P : Nat → Bool) (runs : Bool) (A : Option Addr) (ca : Nat) (L : List Nat) (gone : Nat) : Prop where
  h0 : Ext w W
  h1 : Rm W r gb gt gp n nb nt B T D
  h2 : Rf W p pq mm P
  h3 : Sw W s r p runs A ca L gone
  a1 : ¬ s = r ∧ ¬ s = gb ∧ ¬ s = gt ∧ ¬ s = gp ∧ ¬ s = p ∧ ¬ s = pq
  a2 : ¬ r = pq ∧ ¬ gb = pq ∧ ¬ gt = pq ∧ ¬ gp = pq ∧ ¬ gb = p ∧ ¬ gt = p ∧ ¬ gp = p
  lo : w.heap.size ≤ s ∧ w.heap.size ≤ gb ∧ w.heap.size ≤ gt ∧ w.heap.size ≤ gp ∧ w.heap.size ≤ pq
  la : ∀ b o, A = some ⟨b, o, none⟩ → ¬ b = gb ∧ ¬ b = gt ∧ ¬ b = gp ∧ ¬ b = pq
  lb : ∀ x ∈ L, x < n
/-- What the document's sweep may turn. -/
def Qs (gb gt gp s i : Nat) : Prop := Tri gb gt gp i ∨ i = s
section
variable {w W W1 : World} {r gb gt gp s p pq n nb nt mm : Nat} {B B' : Nat → Int} {T D P T' D' P' : Nat → Bool} {runs runs' : Bool} {A A' : Option Addr} {ca ca' : Nat} {L L' : List Nat} {gone gone' : Nat}
theorem SWR.ext (h : SWR w W r gb gt gp s p pq n nb nt mm B T D P runs A ca L gone) (x : Ext W W1) : SWR w W1 r gb gt gp s p pq n nb nt mm B T D P runs A ca L gone := ⟨h.h0.trans x, h.h1.ext x, h.h2.ext x, h.h3.ext x, h.a1, h.a2, h.lo, h.la, h.lb⟩
theorem SWR.mem (h : SWR w W r gb gt gp s p pq n nb nt mm B T D P runs A ca L gone) (m : Rm W1 r gb gt gp n nb nt B' T' D') (x : Only (Tri gb gt gp) W W1) : SWR w W1 r gb gt gp s p pq n nb nt mm B' T' D' P runs A ca L gone := by
  obtain ⟨a1, a2, a3, a4, a5, a6⟩ := h.a1
  obtain ⟨b1, b2, b3, b4, b5, b6, b7⟩ := h.a2
  obtain ⟨l1, l2, l3, l4, l5⟩ := h.lo
  exact ⟨Ext.only h.h0 x (fun i hi => by rcases hi with e | e | e <;> omega), m, h.h2.only x (by rintro (e | e | e) <;> omega) (by rintro (e | e | e) <;> omega), h.h3.only x (by rintro (e | e | e) <;> omega) (fun b o e => by have := h.la b o e; rintro (e | e | e) <;> omega), h.a1, h.a2, h.lo, h.la, h.lb⟩
theorem SWR.map (h : SWR w W r gb gt gp s p pq n nb nt mm B T D P runs A ca L gone) (m : Rf W1 p pq mm P') (x : Only (· = pq) W W1) : SWR w W1 r gb gt gp s p pq n nb nt mm B T D P' runs A ca L gone := by
  obtain ⟨a1, a2, a3, a4, a5, a6⟩ := h.a1
  obtain ⟨b1, b2, b3, b4, b5, b6, b7⟩ := h.a2
  obtain ⟨l1, l2, l3, l4, l5⟩ := h.lo
  exact ⟨Ext.only h.h0 x (fun i hi => by subst hi; exact l5), h.h1.only x b1 b2 b3 b4, m, h.h3.only x a6 (fun b o e => (h.la b o e).2.2.2), h.a1, h.a2, h.lo, h.la, h.lb⟩
theorem SWR.own (h : SWR w W r gb gt gp s p pq n nb nt mm B T D P runs A ca L gone) (m : Sw W1 s r p runs' A' ca' L' gone') (x : Only (· = s) W W1) (hl : ∀ b o, A' = some ⟨b, o, none⟩ → ¬ b = gb ∧ ¬ b = gt ∧ ¬ b = gp ∧ ¬ b = pq) (hb : ∀ x ∈ L', x < n) : SWR w W1 r gb gt gp s p pq n nb nt mm B T D P runs' A' ca' L' gone' := by
  obtain ⟨a1, a2, a3, a4, a5, a6⟩ := h.a1
  obtain ⟨l1, l2, l3, l4, l5⟩ := h.lo
  exact ⟨Ext.only h.h0 x (fun i hi => by subst hi; exact l1), h.h1.only x (fun e => a1 e.symm) (fun e => a2 e.symm) (fun e => a3 e.symm) (fun e => a4 e.symm), h.h2.only x (fun e => a5 e.symm) (fun e => a6 e.symm), m, h.a1, h.a2, h.lo, hl, hb⟩
theorem SWR.onlyS {S : Nat → Prop} (h : SWR w W r gb gt gp s p pq n nb nt mm B T D P runs A ca L gone) (x : Only S W W1) (k : ¬ S r ∧ ¬ S gb ∧ ¬ S gt ∧ ¬ S gp ∧ ¬ S s ∧ ¬ S p ∧ ¬ S pq) (ka : ∀ b o, A = some ⟨b, o, none⟩ → ¬ S b) (kl : ∀ i, S i → w.heap.size ≤ i) : SWR w W1 r gb gt gp s p pq n nb nt mm B T D P runs A ca L gone :=
  ⟨Ext.only h.h0 x kl, h.h1.only x k.1 k.2.1 k.2.2.1 k.2.2.2.1, h.h2.only x k.2.2.2.2.2.1 k.2.2.2.2.2.2, h.h3.only x k.2.2.2.2.1 ka, h.a1, h.a2, h.lo, h.la, h.lb⟩
end
set_option maxRecDepth 100000 in
set_option maxHeartbeats 4000000 in
theorem rwruns (s q p : Nat) (runs : Bool) (A : Option Addr) (ca : Nat) (L : List Nat) (gone : Nat) (w : World) (h : Sw w s q p runs A ca L gone) : Calls Try.prog 27 #[.pointer (some ⟨s, 0, none⟩)] w fun e w' => e = .returned (.bool runs) ∧ w = w' := by
  have c2 := h.c2
  have hlt := h.lt
  clear h
  go_enter Try.func27, Try.ntmps27
  go_wp2
  go_ret
  exact ⟨rfl, rfl⟩
set_option maxRecDepth 100000 in
set_option maxHeartbeats 4000000 in
theorem rwleft (s q p : Nat) (runs : Bool) (A : Option Addr) (ca : Nat) (L : List Nat) (gone : Nat) (w : World) (h : Sw w s q p runs A ca L gone) : Calls Try.prog 29 #[.pointer (some ⟨s, 0, none⟩)] w fun e w' => e = .returned (.int .i64 (L.length : Int)) ∧ w = w' := by
  have c3 := h.c3
  have hlt := h.lt
  clear h
  go_enter Try.func29, Try.ntmps29
  go_wp2
  go_ret
  exact ⟨rfl, rfl⟩
set_option maxRecDepth 100000 in
set_option maxHeartbeats 4000000 in
theorem rwgone (s q p : Nat) (runs : Bool) (A : Option Addr) (ca : Nat) (L : List Nat) (gone : Nat) (w : World) (h : Sw w s q p runs A ca L gone) : Calls Try.prog 31 #[.pointer (some ⟨s, 0, none⟩)] w fun e w' => e = .returned (.int .i64 (gone : Int)) ∧ w = w' := by
  have c4 := h.c4
  have hlt := h.lt
  clear h
  go_enter Try.func31, Try.ntmps31
  go_wp2
  go_ret
  exact ⟨rfl, rfl⟩
set_option maxRecDepth 100000 in
set_option maxHeartbeats 4000000 in
theorem rwnew_ (q p : Nat) (w : World) : Calls Try.prog 15 #[.pointer (some ⟨q, 0, none⟩), .pointer (some ⟨p, 0, none⟩)] w fun e w' => ∃ s, e = .returned (.pointer (some ⟨s, 0, none⟩)) ∧ Hid (Sw w' s q p false none 0 [] 0) ∧ Hid (Ext w w') ∧ Hid (w.heap.size ≤ s) := by
  go_enter Try.func15, Try.ntmps15
  go_wp2
  go_ret
  exact ⟨_, rfl, hid ⟨by simp, by simp [go_sem], by simp [go_sem], by simp [go_sem], by simp [go_sem], by simp [go_sem], fun y => by simp [go_sem], fun h => absurd h (by simp), ⟨Nat.le_refl _, fun _ => rfl⟩, fun b o e => (by cases e), fun b o e => (by cases e)⟩, hid (Ext.alloc (Ext.refl _) _), hid (Nat.le_refl _)⟩
set_option maxRecDepth 100000 in
set_option maxHeartbeats 4000000 in
theorem rmdirty2_ (r gb gt gp n nb nt : Nat) (B : Nat → Int) (T D : Nat → Bool) (w : World) (h : Rm w r gb gt gp n nb nt B T D) : Calls Try.prog 36 #[.pointer (some ⟨r, 0, none⟩)] w fun e w' => ∃ A ca, e = .returned (.slice A (whichN D n).length ca) ∧ Hid (RdN w' A (whichN D n)) ∧ Hid (Ext w w') ∧ Hid ((whichN D n).length ≤ ca ∧ (A = none → ca = 0) ∧ ∀ b o, A = some ⟨b, o, none⟩ → w.heap.size ≤ b ∧ b < w'.heap.size) := by
  have HH := hid h
  have c2 := h.c2
  have hlr := h.lr
  have hlb := h.lb
  have hlt := h.lt
  have hlp := h.lp
  have hbd := h.bd
  have heb : nb ≤ 16777216 := by have := h.eb; omega
  have het : nt ≤ 1048576 := by have := h.et; omega
  obtain ⟨e1, e2, e3, e4, e5, e6⟩ := h.ne
  obtain ⟨i0, hi0, hz0, hz1, hz2⟩ := info_parts info_int
  have hmb : n ≤ 1048576 := by omega
  clear h
  go_enter Try.func36, Try.ntmps36
  go_wp2
  clear c2 hlr hlb hlt hlp
  go_loopw [3, 4] (fun v i wr => ∃ k : Nat, k ≤ n ∧ i = .int .i64 k ∧ Hid (ownsAt wr w.heap.size 3 1 v (whichN D k).length (ints (whichN D k))) ∧ Hid (Ext w wr)) (fun _ i _ => n - (intOf i).toNat)
  case atStart => exact ⟨0, Nat.zero_le _, rfl, hid (ownsAt_nil _ _ _ _), hid (Ext.refl _)⟩
  case round =>
    obtain ⟨k, hk, rfl, HO, HE⟩ := hrel
    have hk0 : (0 : Int) ≤ (k : Int) := by omega
    have HM := hid (HH.out.ext HE.out)
    have c2 := HM.out.c2
    have hlr := HM.out.lr
    have hlp := HM.out.lp
    by_cases hlt' : k < n
    · have hk1 : (k : Int) < (n : Int) := by omega
      have hdt := (HM.out.dt k hlt').1
      have hwl := whichN_len D k
      cases hD : D k with
      | false =>
        rw [hD] at hdt
        have HW := hid (whichN_no hD)
        clear hD
        go_wp2
        go_roundw
        case rel => exact ⟨k + 1, by omega, by go_num, by rw [HW.out]; exact HO, HE⟩
        case measure => simp [intOf]; omega
      | true =>
        rw [hD] at hdt
        have HW := hid (whichN_yes hD)
        clear hD
        go_wp2_with (at_builtin; refine wpList_plain rfl fun K hK => ?_; refine wp_append_at _ _ _ 52 rfl w.heap.size 3 i0 _ 1 8 Try.underlying52 hi0 hz0 hz1 hz2 rfl (by decide) _ _ _ rfl (HO.out.ext (Ext.alloc (Ext.refl _) _)) ⟨wr.heap.size, 0, none⟩ 1 1 [.int .i64 (k : Int)] rfl rfl (fun j u hj => by rw [Addr.add_lit]; exact (Row.new wr #[.int .i64 (k : Int)] _).range j u hj) (fun u hu => by simp at hu; subst hu; rfl) (by unfold maxLen; (try simp only [List.length_map]); omega) (by (try simp only [List.length_map]); omega) (by have := HE.out.size; simp; omega) (by decide) ?_; intro v5 w5 hown5 hgrow5 hat5; refine hK _ _ ?_)
        have HO5 : Hid (ownsAt w5 w.heap.size 3 1 v5 (whichN D (k + 1)).length (ints (whichN D (k + 1)))) := hid (by
          rw [HW.out, ints_append, List.length_append]
          exact hown5)
        have HE5 : Hid (Ext w w5) := hid (Ext.only (HE.out.trans (Ext.alloc (Ext.refl _) _)) (grownOnly (S := fun i => w.heap.size ≤ i) hgrow5 (fun g e => (HO.out.lt g e).1)) (fun i hi => hi))
        clear hown5 hgrow5 hat5
        go_wp2
        go_roundw
        case rel => exact ⟨k + 1, by omega, by go_num, HO5, HE5⟩
        case measure => simp [intOf]; omega
    · obtain rfl : n = k := by omega
      have hk1 : ¬ (n : Int) < (n : Int) := by omega
      obtain ⟨A, ca, rfl, hsh1, hsh2⟩ := HO.out.shape
      have HSH := hid (And.intro hsh1 hsh2)
      clear hsh1 hsh2
      go_wp2
      go_ret
      exact ⟨A, ca, (by first | rfl | (rw [List.length_map]; rfl)), hid (HO.out.rdN rfl), HE, hid ⟨HSH.out.1, HSH.out.2, fun b o e => HO.out.lt b (by rw [e]; rfl)⟩⟩
set_option maxRecDepth 100000 in
set_option maxHeartbeats 4000000 in
theorem rbegin_no (w W : World) (r gb gt gp s p pq n nb nt mm : Nat) (B : Nat → Int) (T D P : Nat → Bool)  (A : Option Addr) (ca : Nat) (L : List Nat) (gone : Nat) (h : SWR w W r gb gt gp s p pq n nb nt mm B T D P true A ca L gone) : Calls Try.prog 23 #[.pointer (some ⟨s, 0, none⟩)] W fun e W' => e = .returned (.bool false) ∧ W = W' := by
  have c2 := h.h3.c2
  have hlt := h.h3.lt
  clear h
  go_enter Try.func23, Try.ntmps23
  go_wp2
  go_ret
  exact ⟨rfl, rfl⟩
set_option maxRecDepth 100000 in
set_option maxHeartbeats 4000000 in
theorem rbegin_ (w W : World) (r gb gt gp s p pq n nb nt mm : Nat) (B : Nat → Int) (T D P : Nat → Bool)  (A : Option Addr) (ca : Nat) (L : List Nat) (gone : Nat) (h : SWR w W r gb gt gp s p pq n nb nt mm B T D P false A ca L gone) : Calls Try.prog 23 #[.pointer (some ⟨s, 0, none⟩)] W fun e W' => ∃ A' ca', e = .returned (.bool true) ∧ Hid (SWR w W' r gb gt gp s p pq n nb nt mm B T D P true A' ca' (whichN D n) gone) ∧ Hid (Only (Qs gb gt gp s) W W') ∧ Hid (∀ b o, A' = some ⟨b, o, none⟩ → W.heap.size ≤ b) := by
  have HS := hid h
  have c0 := h.h3.c0
  have c2 := h.h3.c2
  have hlt := h.h3.lt
  clear h
  go_enter Try.func23, Try.ntmps23
  go_wp2_with (go_at_call 36; refine (rmdirty2_ r gb gt gp n nb nt B T D _ HS.out.h1).mono ?_; rintro e W1 ⟨A1, ca1, rfl, HR1, HX1, HL1⟩; have HS1 := hid (HS.out.ext HX1.out); have d2 := HS1.out.h3.c2; have d3 := HS1.out.h3.c3; have f2 := HS1.out.h3.fz 2; have f3 := HS1.out.h3.fz 3; have hl1 := HS1.out.h3.lt)
  go_ret
  have hlow := HL1.out.2.2
  have hsz : s < W.heap.size ∧ gb < W.heap.size ∧ gt < W.heap.size ∧ gp < W.heap.size ∧ pq < W.heap.size := ⟨HS.out.h3.lt, HS.out.h1.lb, HS.out.h1.lt, HS.out.h1.lp, HS.out.h2.ltq⟩
  have hr1 : RdN (W1.setCell ⟨s, 3, none⟩ (.slice A1 (whichN D n).length ca1)) A1 (whichN D n) := HR1.out.set (fun b o e => by have := (hlow b o e).1; omega)
  have s1 := HS1.out.h3.setLeft (A' := A1) (ca' := ca1) (L' := whichN D n) rfl HR1.out ⟨HL1.out.1, HL1.out.2.1⟩ (fun b o e => by have := (hlow b o e).1; omega) (fun b o e => (hlow b o e).2)
  have s2 := s1.setRuns true
  have x2 : Only (· = s) W1 ((W1.setCell ⟨s, 3, none⟩ (.slice A1 (whichN D n).length ca1)).setCell ⟨s, 2, none⟩ (.bool true)) := Only.setCell (Only.setCell (S := (· = s)) (Only.refl _ _) (.inl rfl) _) (.inl rfl) _
  refine ⟨A1, ca1, rfl, hid (HS1.out.own s2 x2 (fun b o e => by have := (hlow b o e).1; omega) (fun x hx => (whichN_mem.1 hx).1)), hid ((Only.ofExt HX1.out).trans x2 (fun i e => .inl (.inr e))), hid (fun b o e => (hlow b o e).1)⟩
set_option maxRecDepth 100000 in
set_option maxHeartbeats 4000000 in
theorem rpage_ (w W : World) (r gb gt gp s p pq n nb nt mm : Nat) (B : Nat → Int) (T D P : Nat → Bool) (runs : Bool) (A : Option Addr) (ca : Nat) (L : List Nat) (gone : Nat) (h : SWR w W r gb gt gp s p pq n nb nt mm B T D P runs A ca L gone) (pg : Nat) (hpg : pg < n) (hgone : gone ≤ 4611686018427387904) (hB : ∀ y, 0 ≤ B y ∧ B y ≤ 255) : Calls Try.prog 58 #[.pointer (some ⟨s, 0, none⟩), .int .i64 (pg : Int)] W fun e W' => e = .returned (.tuple #[]) ∧ Hid (SWR w W' r gb gt gp s p pq n nb nt mm B (swpR mm P B T (16 * pg) (16 * pg + 16)) (cleanD n (pg : Int) (swpR mm P B T (16 * pg) (16 * pg + 16)) D) P runs A ca L (gone + cntR mm P B T (16 * pg) 16)) ∧ Hid (Only (Qs gb gt gp s) W W') := by
  obtain ⟨W0, rfl⟩ : ∃ x, x = W := ⟨_, rfl⟩
  have HS := hid h
  have HGB := hid hgone
  have HBR := hid hB
  have hp0 : (0 : Int) ≤ (pg : Int) := by omega
  have hpb : (pg : Int) ≤ 65536 := by have := h.h1.bd; omega
  clear h hgone hB
  go_enter Try.func58, Try.ntmps58
  go_wp2
  go_loopw [4] (fun i wr => ∃ k : Nat, k ≤ 16 ∧ i = .int .i64 (256 * (pg : Int) + 16 * (k : Int)) ∧ Hid (SWR w wr r gb gt gp s p pq n nb nt mm B (swpR mm P B T (16 * pg) (16 * pg + k)) D P runs A ca L (gone + cntR mm P B T (16 * pg) k)) ∧ Hid (Only (Qs gb gt gp s) W0 wr)) (fun i _ => 16 * 16 + 256 * pg - (intOf i).toNat)
  case atStart => exact ⟨0, by omega, by go_num, hid (by rw [Nat.add_zero, swpR_zero, cntR_zero]; exact HS.out), hid (Only.refl _ _)⟩
  case round =>
    clear HS
    obtain ⟨k, hk, rfl, HS, HO⟩ := hrel
    by_cases hk16 : k < 16
    · skip
      have hk0 : (0 : Int) ≤ (k : Int) := by omega
      have hk1 : (256 * (pg : Int) + 16 * (k : Int)) < 256 * (pg : Int) + 256 := by omega
      have hkn : 16 * pg + k < 16 * n := by omega
      have hXE : Hid ((256 * (pg : Int) + 16 * (k : Int)) = 16 * ((16 * pg + k : Nat) : Int)) := hid (by omega)
      obtain ⟨c, hcc⟩ : ∃ c, getL (bytesAt B (16 * (16 * pg + k)) 16) (swpR mm P B T (16 * pg) (16 * pg + k) (16 * pg + k)) = c := ⟨_, rfl⟩
      have HCC := hid hcc
      have HAT : Hid (hitsP mm P c.tag c.base c.top = hitAt mm P B T (16 * pg + k)) := hid (by
        rw [← hcc]
        exact hitAt_congr (mm := mm) (P := P) (B := B) (swpR_at mm P B T (16 * pg) k))
      have hcb : c.base ≤ 9223372036854775807 := by rw [← hcc]; exact getL_base_le HBR.out
      clear hcc
      have c0 := HS.out.h3.c0
      have hlt := HS.out.h3.lt
      go_upto_region 4 with (go_at_call 73; refine (rLc _ r gb gt gp n nb nt B _ D HS.out.h1 (256 * (pg : Int) + 16 * (k : Int)) (16 * pg + k) hkn hXE.out c HCC.out).mono ?_; rintro e W1 ⟨rfl, hX1⟩; have HX1 := hid hX1; clear hX1)
      clear c0 hlt
      refine wp_gen (fun W => Hid (SWR w W r gb gt gp s p pq n nb nt mm B (swpR mm P B T (16 * pg) (16 * pg + k)) D P runs A ca L (gone + cntR mm P B T (16 * pg) k)) ∧ Hid (CapB W W1.heap.size [.bool c.tag, .int .i64 c.base, .int .i64 c.top, .int .i64 c.at_, .int .i64 c.perms, .int .i64 c.type]) ∧ Hid (Only (Qs gb gt gp s) W0 W)) ⟨hid ((HS.out.ext HX1.out).ext (by repeat (first | (with_reducible exact Ext.refl _) | (with_reducible refine Ext.undrew ?_) | (with_reducible refine Ext.grow ?_ _) | (with_reducible refine Ext.drew ?_) | (with_reducible refine Ext.drewN ?_ _) | (with_reducible refine Ext.alloc ?_ _) | (with_reducible assumption) | ((with_reducible refine Ext.setCell ?_ ?_ _); rotate_left; (first | exact Nat.le_refl _ | ((try dsimp only); (try simp only [World.size_alloc, grow_size, World.size_setCell]); omega)))))), hid (CapB.new W1 _ _), hid ((HO.out.transExt HX1.out).transExt (by repeat (first | (with_reducible exact Ext.refl _) | (with_reducible refine Ext.undrew ?_) | (with_reducible refine Ext.grow ?_ _) | (with_reducible refine Ext.drew ?_) | (with_reducible refine Ext.drewN ?_ _) | (with_reducible refine Ext.alloc ?_ _) | (with_reducible assumption) | ((with_reducible refine Ext.setCell ?_ ?_ _); rotate_left; (first | exact Nat.le_refl _ | ((try dsimp only); (try simp only [World.size_alloc, grow_size, World.size_setCell]); omega))))))⟩ ?_
      clear HS HO HX1
      rintro W2 ⟨HS2, HC2, HO2⟩
      generalize W1.heap.size = xb at HC2 ⊢
      have c0 := HS2.out.h3.c0
      have c1 := HS2.out.h3.c1
      have hlt := HS2.out.h3.lt
      have d0 : World.cell? W2 ⟨xb, 0, none⟩ = some (.bool c.tag) := HC2.out.2 0 _ rfl
      have d1 : World.cell? W2 ⟨xb, 1, none⟩ = some (.int .i64 c.base) := HC2.out.2 1 _ rfl
      have d2 : World.cell? W2 ⟨xb, 2, none⟩ = some (.int .i64 c.top) := HC2.out.2 2 _ rfl
      have d3 : World.cell? W2 ⟨xb, 3, none⟩ = some (.int .i64 c.at_) := HC2.out.2 3 _ rfl
      have d4 : World.cell? W2 ⟨xb, 4, none⟩ = some (.int .i64 c.perms) := HC2.out.2 4 _ rfl
      have d5 : World.cell? W2 ⟨xb, 5, none⟩ = some (.int .i64 c.type) := HC2.out.2 5 _ rfl
      have dl := HC2.out.1
      obtain ⟨hv, hhv⟩ : ∃ b, hitsP mm P c.tag c.base c.top = b := ⟨_, rfl⟩
      have HHV := hid hhv
      have HHA : Hid (hitAt mm P B T (16 * pg + k) = hv) := hid (HAT.out.symm.trans hhv)
      clear hhv HAT
      cases hv with
      | false =>
        refine wp_region_step (.rd 0 (.rd 1 (.rd 2 (.rd 3 (.rd 4 (.ac 5 .done)))))) (by kernel_rfl) (by kernel_rfl) (fun _ _ d _ _ h => by cases d <;> exact h) (by simp only [Ord.map, nthOp, List.append]; rfl) ?_
        intro d0
        repeat (refine step_read (by rfl) (fun K hK => ?_); go_big_quiet_op; refine hK _ ?_; clear hK K)
        refine step_act (by rfl) (fun K hK => ?_)
        go_wp2_with (go_at_call 60; refine (rhits_ p pq mm P c.tag c.base c.top c.at_ c.perms c.type _ (HS2.out.h2.ext (by repeat (first | (with_reducible exact Ext.refl _) | (with_reducible refine Ext.undrew ?_) | (with_reducible refine Ext.grow ?_ _) | (with_reducible refine Ext.drew ?_) | (with_reducible refine Ext.drewN ?_ _) | (with_reducible refine Ext.alloc ?_ _) | (with_reducible assumption) | ((with_reducible refine Ext.setCell ?_ ?_ _); rotate_left; (first | exact Nat.le_refl _ | ((try dsimp only); (try simp only [World.size_alloc, grow_size, World.size_setCell]); omega)))))) hcb).mono ?_; rw [HHV.out]; rintro e W3 ⟨rfl, hx3⟩)
        refine ⟨_, Ext.refl _, hx3, ?_⟩
        refine step_nil ?_
        have hx23 := (Ext.grow (Ext.refl W2) d0).trans hx3
        have HS3 := hid (HS2.out.ext hx23)
        have HO3 := hid (HO2.out.transExt hx23)
        clear HS2 HO2 HC2 hx3 hx23 c0 c1 hlt d1 d2 d3 d4 d5 dl
        go_wp2
        go_roundw
        case rel => exact ⟨k + 1, by omega, by go_num, hid (by rw [← swpR_no mm P B T (16 * pg) k HHA.out, cntR_no mm P B T (16 * pg) k HHA.out]; exact HS3.out), HO3⟩
        case measure => simp [intOf]; omega
      | true =>
        refine wp_region_step (.rd 0 (.rd 1 (.rd 2 (.rd 3 (.rd 4 (.ac 5 .done)))))) (by kernel_rfl) (by kernel_rfl) (fun _ _ d _ _ h => by cases d <;> exact h) (by simp only [Ord.map, nthOp, List.append]; rfl) ?_
        intro d0
        repeat (refine step_read (by rfl) (fun K hK => ?_); go_big_quiet_op; refine hK _ ?_; clear hK K)
        refine step_act (by rfl) (fun K hK => ?_)
        go_wp2_with (go_at_call 60; refine (rhits_ p pq mm P c.tag c.base c.top c.at_ c.perms c.type _ (HS2.out.h2.ext (by repeat (first | (with_reducible exact Ext.refl _) | (with_reducible refine Ext.undrew ?_) | (with_reducible refine Ext.grow ?_ _) | (with_reducible refine Ext.drew ?_) | (with_reducible refine Ext.drewN ?_ _) | (with_reducible refine Ext.alloc ?_ _) | (with_reducible assumption) | ((with_reducible refine Ext.setCell ?_ ?_ _); rotate_left; (first | exact Nat.le_refl _ | ((try dsimp only); (try simp only [World.size_alloc, grow_size, World.size_setCell]); omega)))))) hcb).mono ?_; rw [HHV.out]; rintro e W3 ⟨rfl, hx3⟩)
        refine ⟨_, Ext.refl _, hx3, ?_⟩
        refine step_nil ?_
        have hx23 := (Ext.grow (Ext.refl W2) d0).trans hx3
        have HS3 := hid (HS2.out.ext hx23)
        have HO3 := hid (HO2.out.transExt hx23)
        clear HS2 HO2 HC2 hx3 hx23 c0 c1 hlt d1 d2 d3 d4 d5 dl
        have c0 := HS3.out.h3.c0
        have hlt := HS3.out.h3.lt
        go_upto_region 6 with (go_at_call 74; refine (rStrip _ r gb gt gp n nb nt B _ D HS3.out.h1 (256 * (pg : Int) + 16 * (k : Int))).mono ?_; rintro e W4 ⟨rfl, HM4, HO4⟩)
        clear c0 hlt
        have HST : Hid (stripT n (256 * (pg : Int) + 16 * (k : Int)) (swpR mm P B T (16 * pg) (16 * pg + k)) = swpR mm P B T (16 * pg) (16 * pg + (k + 1))) := hid (by
          rw [hXE.out]
          unfold stripT
          have ht : tagAt n (swpR mm P B T (16 * pg) (16 * pg + k)) (16 * ((16 * pg + k : Nat) : Int)) = true := by
            unfold tagAt
            rw [decide_eq_true (show placeP n (16 * ((16 * pg + k : Nat) : Int)) from ⟨by omega, by omega, by omega⟩), show (16 * ((16 * pg + k : Nat) : Int)).toNat / 16 = 16 * pg + k by omega, swpR_at]
            rw [hitAt_tag HHA.out]
            rfl
          rw [if_pos ht, show (16 * ((16 * pg + k : Nat) : Int)).toNat / 16 = 16 * pg + k by omega]
          exact swpR_yes mm P B T (16 * pg) k HHA.out)
        rw [HST.out] at HM4
        have HS4 := hid (HS3.out.mem HM4.out HO4.out)
        have HO5 : Hid (Only (Qs gb gt gp s) W0 W4) := hid (HO3.out.trans HO4.out (fun i e => .inl (.inl e)))
        clear HS3 HO3 HM4 HO4 HST
        have c4 := HS4.out.h3.c4
        have hlt := HS4.out.h3.lt
        have hfz := HS4.out.h3.fz 4
        have hgb : gone + cntR mm P B T (16 * pg) k ≤ 4611686018427387920 := by have := cntR_le mm P B T (16 * pg) k; have := HGB.out; omega
        obtain ⟨gk, hgk⟩ : ∃ x, gone + cntR mm P B T (16 * pg) k = x := ⟨_, rfl⟩
        have HGK := hid hgk
        rw [hgk] at c4 hgb
        have hgi : (gk : Int) ≤ 4611686018427387920 := by omega
        have hgi0 : (0 : Int) ≤ (gk : Int) := by omega
        have HS5 : Hid (SWR w (W4.setCell ⟨s, 4, none⟩ (.int .i64 ((gk + 1 : Nat) : Int))) r gb gt gp s p pq n nb nt mm B (swpR mm P B T (16 * pg) (16 * pg + (k + 1))) D P runs A ca L (gk + 1)) := hid (HS4.out.own (HS4.out.h3.setGone _) (Only.setCell (S := (· = s)) (Only.refl _ _) (.inl rfl) _) HS4.out.la HS4.out.lb)
        have HO6 : Hid (Only (Qs gb gt gp s) W0 (W4.setCell ⟨s, 4, none⟩ (.int .i64 ((gk + 1 : Nat) : Int)))) := hid (Only.setCell HO5.out (.inl (.inr rfl)) _)
        have HCK : Hid (gone + cntR mm P B T (16 * pg) (k + 1) = gk + 1) := hid (by rw [cntR_yes mm P B T (16 * pg) k HHA.out, ← hgk]; omega)
        rw [show ((gk + 1 : Nat) : Int) = (gk : Int) + 1 by omega] at HS5 HO6
        clear HS4 HO5 hgk
        go_wp2
        go_roundw
        case rel => exact ⟨k + 1, by omega, by go_num, hid (by rw [HCK.out]; exact HS5.out), HO6⟩
        case measure => simp [intOf]; omega
    · obtain rfl : k = 16 := by omega
      have hk1 : ¬ (256 * (pg : Int) + 16 * ((16 : Nat) : Int)) < 256 * (pg : Int) + 256 := by omega
      have c0 := HS.out.h3.c0
      have hlt := HS.out.h3.lt
      go_wp2_with (go_at_call 75; refine (rClean _ r gb gt gp n nb nt B _ D HS.out.h1 (pg : Int)).mono ?_; rintro e W4 ⟨rfl, HM4, HO4⟩)
      go_end0
      exact ⟨rfl, hid (HS.out.mem HM4.out HO4.out), hid (HO.out.trans HO4.out (fun i e => .inl (.inl e)))⟩

end Go.Proofs.Ythamfkbopjagdaa
