/- Layer 17: readHead. -/
import Derived.Test.YtgldlkoohfclpaaImS
import Derived.Test.YtgldlkoohfclpaaImR
import Derived.Deep.DeepCutAuto
namespace Go.Proofs.Ytgldlkoohfclpaa
set_option linter.unusedSimpArgs false
set_option linter.unusedVariables false
open Go.RowKit

theorem Row.set1 {w : World} {b j : Nat} {vs : List Value} (h : Row w b 0 vs) (v : Value) : Row (w.setCell ⟨b, j, none⟩ v) b 0 (vs.set j v) := by
  refine ⟨by rw [World.size_setCell]; exact h.lt, fun i u hi => ?_, fun i hi => ?_⟩
  · rw [Nat.zero_add]
    by_cases c : j = i
    · subst c
      have hl : j < vs.length := by have := (List.getElem?_eq_some_iff.1 hi).1; rwa [List.length_set] at this
      rw [List.getElem?_set_self hl] at hi
      cases hi
      have h1 := h.at_ j _ (List.getElem?_eq_getElem hl)
      rw [Nat.zero_add] at h1
      simp [go_sem, h1]
    · rw [List.getElem?_set_ne c] at hi
      have h1 := h.at_ i u hi
      rw [Nat.zero_add] at h1
      simp [go_sem, h1, c]
  · rw [World.frozen?_setCell]
    exact h.free i (by rwa [List.length_set] at hi)
def hN (bl : List Int) (i : Nat) : Nat := (numB bl i 1).toNat
theorem hN_eq {bl : List Int} (hb : byteL bl) (i : Nat) : numB bl i 1 = (hN bl i : Int) ∧ hN bl i ≤ 255 := by
  have h := atB_byte hb i
  have e := numB_one bl i
  unfold hN
  omega
def cm0 (bl : List Int) (i : Nat) : Cmp := ⟨none, 0, [], numB bl (9 + 3 * i + 2) 1⟩
def ln0 (bl : List Int) (i : Nat) : Int := numB bl (9 + 3 * i) 2
def lk0 (bl : List Int) (b i : Nat) : Lnk := ⟨numB bl (b + 4 * i) 1, numB bl (b + 4 * i + 1) 1, numB bl (b + 4 * i + 2) 2⟩
def sh0 (bl : List Int) (b i : Nat) : Shr := ⟨numB bl (b + 2 * i) 1, numB bl (b + 2 * i + 1) 1⟩
/-- What holds of a world while a head is read. -/
structure RH (w W : World) (rb q g xb : Nat) (A : Option Addr) (ca : Nat) (bl : List Int) (k : Nat) (xs : List Value) : Prop where
  on : Only (fun i => i = q) w W
  ql : q < w.heap.size
  ab : ∀ b o, 0 < bl.length → A = some ⟨b, o, none⟩ → b < w.heap.size ∧ ¬ b = q
  h1 : w.heap.size ≤ rb
  h2 : rb < g
  h3 : g < xb
  c : W.cell? ⟨rb, 0, none⟩ = some (.pointer (some ⟨q, 0, none⟩))
  rg : Row W g 0 [.bool false, .int .i64 0, .int .i64 0, .slice none 0 0, .slice none 0 0, .slice none 0 0]
  rx : Row W xb 0 xs
  rr : RdrAt W q A ca bl k
theorem RH.more {w W W' : World} {rb q g xb : Nat} {A : Option Addr} {ca : Nat} {bl : List Int} {k : Nat} {xs : List Value} {k' : Nat} {S : Nat → Prop} (h : RH w W rb q g xb A ca bl k xs) (x : Only S W W') (hS : ∀ i, S i → i = q ∨ xb < i) (hr : RdrAt W' q A ca bl k') : RH w W' rb q g xb A ca bl k' xs := by
  have a1 := h.ql
  have a2 := h.h1
  have a3 := h.h2
  have a4 := h.h3
  exact { on := Only.trans h.on x (fun i hi => (hS i hi).imp id (fun h => by omega)), ql := h.ql, ab := h.ab, h1 := h.h1, h2 := h.h2, h3 := h.h3, c := (x.cells rb 0 (by have := h.rx.lt; omega) (fun e => by have := hS _ e; omega)).trans h.c, rg := h.rg.only x (fun e => by have := hS _ e; omega), rx := h.rx.only x (fun e => by have := hS _ e; omega), rr := hr }
theorem RH.ext {w W W' : World} {rb q g xb : Nat} {A : Option Addr} {ca : Nat} {bl : List Int} {k : Nat} {xs : List Value} (h : RH w W rb q g xb A ca bl k xs) (x : Ext W W') : RH w W' rb q g xb A ca bl k xs := h.more (Only.ofExt (S := fun _ => False) x) (fun _ h => h.elim) (h.rr.ext x)
theorem RH.setx {w W : World} {rb q g xb : Nat} {A : Option Addr} {ca : Nat} {bl : List Int} {k : Nat} {xs : List Value} (h : RH w W rb q g xb A ca bl k xs) (j : Nat) (v : Value) : RH w (W.setCell ⟨xb, j, none⟩ v) rb q g xb A ca bl k (xs.set j v) := by
  have a1 := h.ql
  have a2 := h.h1
  have a3 := h.h2
  have a4 := h.h3
  have x := Only.setCell (S := fun i => i = xb) (Only.refl (fun i => i = xb) W) (.inl rfl) (o := j) v
  exact { on := Only.trans h.on x (fun i hi => .inr (by rw [hi]; omega)), ql := h.ql, ab := h.ab, h1 := h.h1, h2 := h.h2, h3 := h.h3, c := (x.cells rb 0 (by have := h.rx.lt; omega) (fun e => by omega)).trans h.c, rg := h.rg.only x (fun e => by omega), rx := h.rx.set1 v, rr := h.rr.only x (fun e => by omega) (fun b o h0 e _ e2 => by have := (h.ab b o h0 e).1; omega) }
/-- What readHead leaves. -/
structure RHP (w w' : World) (q : Nat) (A : Option Addr) (ca : Nat) (bl : List Int) (CA LA SA NA : Option Addr) (cc lc sc ncp : Nat) (nc nl ns : Nat) : Prop where
  co : ownsAt w' w.heap.size 53 2 (.slice CA nc cc) nc (rowF Cmp.cells ((List.range nc).map (cm0 bl)))
  lo : ownsAt w' w.heap.size 68 3 (.slice LA nl lc) nl (rowF Lnk.cells ((List.range nl).map (lk0 bl (9 + 3 * nc))))
  so : ownsAt w' w.heap.size 70 2 (.slice SA ns sc) ns (rowF Shr.cells ((List.range ns).map (sh0 bl (9 + 3 * nc + 4 * nl))))
  no : ownsAt w' w.heap.size 3 1 (.slice NA nc ncp) nc (rowF intF ((List.range nc).map (ln0 bl)))
  al : ∀ g, (Value.slice CA nc cc).ownBlock = some g → ¬ (Value.slice LA nl lc).ownBlock = some g
  as_ : ∀ g, (Value.slice CA nc cc).ownBlock = some g → ¬ (Value.slice SA ns sc).ownBlock = some g
  an : ∀ g, (Value.slice CA nc cc).ownBlock = some g → ¬ (Value.slice NA nc ncp).ownBlock = some g
  rr : RdrAt w' q A ca bl (9 + 3 * nc + 4 * nl + 2 * ns)
  on : Only (fun i => i = q) w w'
set_option maxRecDepth 100000 in
set_option maxHeartbeats 4000000 in
theorem readHead_ (w : World) (q : Nat) (A : Option Addr) (ca : Nat) (bl : List Int) (h : RdrAt w q A ca bl 0) (hb : byteL bl) (hn : bl.length ≤ 1000000) : Calls Try.prog 30 #[.pointer (some ⟨q, 0, none⟩)] w fun e w' => ∃ CA LA SA NA cc lc sc ncp, e = .returned (.tuple #[.agg #[.bool (numB bl 2 1 == 1), .int .i64 (numB bl 3 1), .int .i64 (numB bl 4 2), .slice CA (hN bl 6) cc, .slice LA (hN bl 7) lc, .slice SA (hN bl 8) sc], .slice NA (hN bl 6) ncp]) ∧ Hid (RHP w w' q A ca bl CA LA SA NA cc lc sc ncp (hN bl 6) (hN bl 7) (hN bl 8)) := by
  have HAB := hid (show ∀ b o, 0 < bl.length → A = some ⟨b, o, none⟩ → b < w.heap.size ∧ ¬ b = q from fun b o h0 e => by
    obtain ⟨b2, o2, e2, hb2, _⟩ := h.rd h0
    rw [e] at e2
    cases e2
    exact ⟨hb2, h.ne b o h0 e⟩)
  have HQL := hid h.lt
  have HRW := hid h
  have HBB := hid hb
  have HNN := hid hn
  have HN0 := hid (fun W (h : RdrAt W q A ca bl 2) => number1_ W q A ca bl 2 (by omega) h hb hn)
  have HN1 := hid (fun W (h : RdrAt W q A ca bl 3) => number1_ W q A ca bl 3 (by omega) h hb hn)
  have HN2 := hid (fun W (h : RdrAt W q A ca bl 4) => number2_ W q A ca bl 4 (by omega) h hb hn)
  have HN3 := hid (fun W (h : RdrAt W q A ca bl 6) => number1_ W q A ca bl 6 (by omega) h hb hn)
  have HN4 := hid (fun W (h : RdrAt W q A ca bl 7) => number1_ W q A ca bl 7 (by omega) h hb hn)
  have HN5 := hid (fun W (h : RdrAt W q A ca bl 8) => number1_ W q A ca bl 8 (by omega) h hb hn)
  obtain ⟨z0, hz0⟩ : ∃ y, numB bl 2 1 = y := ⟨_, rfl⟩
  rw [hz0] at HN0 ⊢
  obtain ⟨z1, hz1⟩ : ∃ y, numB bl 3 1 = y := ⟨_, rfl⟩
  rw [hz1] at HN1 ⊢
  obtain ⟨z2, hz2⟩ : ∃ y, numB bl 4 2 = y := ⟨_, rfl⟩
  rw [hz2] at HN2 ⊢
  obtain ⟨nc, hnc⟩ : ∃ y, hN bl 6 = y := ⟨_, rfl⟩
  have HEc := hN_eq hb 6
  rw [hnc] at HEc ⊢
  rw [HEc.1] at HN3
  have HBc := hid HEc.2
  clear HEc hnc
  obtain ⟨nl, hnl⟩ : ∃ y, hN bl 7 = y := ⟨_, rfl⟩
  have HEl := hN_eq hb 7
  rw [hnl] at HEl ⊢
  rw [HEl.1] at HN4
  have HBl := hid HEl.2
  clear HEl hnl
  obtain ⟨ns, hns⟩ : ∃ y, hN bl 8 = y := ⟨_, rfl⟩
  have HEs := hN_eq hb 8
  rw [hns] at HEs ⊢
  rw [HEs.1] at HN5
  have HBs := hid HEs.2
  clear HEs hns
  have ql := h.lt
  have c1 := h.c1
  have f1 := h.f1
  clear h hb hn
  go_enter Try.func30, Try.ntmps30
  go_upto_region 2 with (fail)
  refine wp_gen (fun V => Hid (RdrAt V q A ca bl 2) ∧ Hid (Only (fun i => i = q) w V) ∧ V.cell? ⟨w.heap.size, 0, none⟩ = some (.pointer (some ⟨q, 0, none⟩)) ∧ Hid (Row V (w.heap.size + 1) 0 [.bool false, .int .i64 0, .int .i64 0, .slice none 0 0, .slice none 0 0, .slice none 0 0])) ?_ ?_
  · have hq1 : ¬ q = w.heap.size := by omega
    have hq2 : ¬ q = w.heap.size + 1 := by omega
    have hx := ((Ext.refl (w.setCell ⟨q, 1, none⟩ (.int .i64 2))).alloc (.cells #[.pointer (some ⟨q, 0, none⟩)] 60)).alloc (.cells #[.bool false, .int .i64 0, .int .i64 0, .slice none 0 0, .slice none 0 0, .slice none 0 0] 26)
    refine ⟨hid ((HRW.out.turn 2 2 rfl).ext hx), hid (Only.transExt (Only.setCell (S := (fun i => i = q)) (Only.refl (fun i => i = q) w) (.inl rfl) _) hx), by simp [go_sem, hq1], hid ?_⟩
    have h9 := Row.new ((w.setCell ⟨q, 1, none⟩ (.int .i64 2)).alloc (.cells #[.pointer (some ⟨q, 0, none⟩)] 60)) #[.bool false, .int .i64 0, .int .i64 0, .slice none 0 0, .slice none 0 0, .slice none 0 0] 26
    rw [World.size_alloc, World.size_setCell] at h9
    exact h9
  rintro V ⟨HR, HON, hrc, HG⟩
  obtain ⟨rb, hrb⟩ : ∃ y, w.heap.size = y := ⟨_, rfl⟩
  have hwr : w.heap.size ≤ rb := by omega
  have hrq : ¬ rb = q := by omega
  have hqrb : q < rb := by omega
  have hgq : ¬ rb + 1 = q := by omega
  rw [hrb] at hrc HG ⊢
  have hrl : rb < V.heap.size := by have := HG.out.lt; omega
  clear hrb c1 f1 HRW
  go_cut [4] (fun s4 wx => ∃ xb : Nat, s4 = .pointer (some ⟨xb, 0, none⟩) ∧ Hid (RH w wx rb q (rb + 1) xb A ca bl 6 [.bool (z0 == 1), .int .i64 z1, .int .i64 z2, .slice none 0 0, .slice none 0 0, .slice none 0 0]))
  case first =>
    refine wp_region_only (S := (fun i => i = q)) (.rd 0 (.rd 3 (.rd 5 (.br 1 (.rd 2 (.br 4 (.br 6 (.rd 7 (.ac 8 (.ac 9 .done))) 8 (.ac 6 (.rd 7 (.ac 9 .done)))) 8 (.ac 4 (.ac 6 (.rd 7 (.ac 9 .done)))))) 8 (.ac 1 (.rd 2 (.ac 4 (.ac 6 (.rd 7 (.ac 9 .done)))))))))) (by kernel_rfl) (by kernel_rfl) (fun _ _ d _ _ h => by cases d <;> exact h) (by simp only [Ord.map, nthOp, List.append]; rfl) ?_
    intro d1
    have HOW5 := hid (HON.out.grow d1)
    have HG5 := hid (HG.out.ext (Ext.grow (Ext.refl V) d1))
    have HR0 := hid (HR.out.ext (Ext.grow (Ext.refl V) d1))
    have hrc := ((Ext.grow (Ext.refl V) d1).cells rb 0 hrl).trans hrc
    have hrl := Nat.lt_of_lt_of_le hrl (Ext.grow (Ext.refl V) d1).size
    generalize Go.Proofs.Ytgldlkoohfclpaa.grow V d1 = W5 at HOW5 HG5 HR0 hrc hrl ⊢
    have HS0 := hid (Only.refl (fun i => i = q) W5)
    have hgl := HG5.out.lt
    refine only_read (by rfl) (fun K hK => ?_)
    refine quiet_load1 60 (.tmp 1) rfl (rb) (0) rfl (Value.pointer (some ⟨q, 0, none⟩)) _ (fun w' hw' => (hw'.cells rb 0 hrl hrq).trans hrc) Try.underlying60 rfl ?_
    refine hK _ ?_
    clear hK K
    simp only [Act.put, List.setIfInBounds_toArray, List.set_cons_zero, List.set_cons_succ]
    refine only_read (by rfl) (fun K hK => ?_)
    refine quiet_load1 60 (.tmp 1) rfl (rb) (0) rfl (Value.pointer (some ⟨q, 0, none⟩)) _ (fun w' hw' => (hw'.cells rb 0 hrl hrq).trans hrc) Try.underlying60 rfl ?_
    refine hK _ ?_
    clear hK K
    simp only [Act.put, List.setIfInBounds_toArray, List.set_cons_zero, List.set_cons_succ]
    refine only_read (by rfl) (fun K hK => ?_)
    refine quiet_load1 60 (.tmp 1) rfl (rb) (0) rfl (Value.pointer (some ⟨q, 0, none⟩)) _ (fun w' hw' => (hw'.cells rb 0 hrl hrq).trans hrc) Try.underlying60 rfl ?_
    refine hK _ ?_
    clear hK K
    simp only [Act.put, List.setIfInBounds_toArray, List.set_cons_zero, List.set_cons_succ]
    refine only_br ?_ ?_
    · refine only_act (by rfl) (fun K hK => ?_)
      go_wp2_with (go_at_call 55; refine (HN0.out W5 HR0.out).mono ?_; rintro e V1 ⟨rfl, HR1, HT1⟩)
      have HS1 := hid (Only.trans' HS0.out HT1.out)
      refine ⟨_, Only.refl _ _, HS1.out, ?_⟩
      refine only_read (by rfl) (fun K hK => ?_)
      refine quiet_runD 14 rfl (.bool (z0 == 1)) (fun w => by go_simp) ?_
      refine hK _ ?_
      clear hK K
      simp only [Act.put, List.setIfInBounds_toArray, List.set_cons_zero, List.set_cons_succ]
      refine only_br ?_ ?_
      · refine only_act (by rfl) (fun K hK => ?_)
        go_wp2_with (go_at_call 55; refine (HN1.out V1 HR1.out).mono ?_; rintro e V2 ⟨rfl, HR2, HT2⟩)
        have HS2 := hid (Only.trans' HS1.out HT2.out)
        refine ⟨_, Only.refl _ _, HS2.out, ?_⟩
        refine only_br ?_ ?_
        · refine only_act (by rfl) (fun K hK => ?_)
          go_wp2_with (go_at_call 55; refine (HN2.out V2 HR2.out).mono ?_; rintro e V3 ⟨rfl, HR3, HT3⟩)
          have HS3 := hid (Only.trans' HS2.out HT3.out)
          refine ⟨_, Only.refl _ _, HS3.out, ?_⟩
          refine only_read (by rfl) (fun K hK => ?_)
          refine quiet_runD 19 rfl (.agg #[.bool (z0 == 1), .int .i64 z1, .int .i64 z2, .slice none 0 0, .slice none 0 0, .slice none 0 0]) (fun w => by kernel_rfl) ?_
          refine hK _ ?_
          clear hK K
          simp only [Act.put, List.setIfInBounds_toArray, List.set_cons_zero, List.set_cons_succ]
          refine only_act (by rfl) (fun K hK => ?_)
          go_wp2_with fail
          refine ⟨_, Only.refl _ _, Only.alloc HS3.out _, ?_⟩
          refine only_gen (fun W => Hid (Ext V3 W) ∧ Hid (Row W V3.heap.size 0 [.bool false, .int .i64 0, .int .i64 0, .slice none 0 0, .slice none 0 0, .slice none 0 0])) ⟨hid ((Ext.refl _).alloc _), hid (Row.new V3 _ _)⟩ ?_
          rintro V4 ⟨hE4, HX4⟩
          have HR4 := hid (HR3.out.ext hE4.out)
          have HS4 := hid (HS3.out.transExt hE4.out)
          obtain ⟨xb, hxb⟩ : ∃ y, V3.heap.size = y := ⟨_, rfl⟩
          have hxs : W5.heap.size ≤ xb := by rw [← hxb]; exact HS3.out.size
          rw [hxb] at HX4 ⊢
          clear hxb
          have r1 := HX4.out
          have r1l := r1.lt
          have r1c0 := r1.range 0 _ rfl
          have r1f0 := r1.free 0 (by show 0 < 6; decide)
          have r1c1 := r1.range 1 _ rfl
          have r1f1 := r1.free 1 (by show 1 < 6; decide)
          have r1c2 := r1.range 2 _ rfl
          have r1f2 := r1.free 2 (by show 2 < 6; decide)
          have r1c3 := r1.range 3 _ rfl
          have r1f3 := r1.free 3 (by show 3 < 6; decide)
          have r1c4 := r1.range 4 _ rfl
          have r1f4 := r1.free 4 (by show 4 < 6; decide)
          have r1c5 := r1.range 5 _ rfl
          have r1f5 := r1.free 5 (by show 5 < 6; decide)
          simp only [Nat.zero_add] at r1c1 r1c2 r1c3 r1c4 r1c5 r1f1 r1f2 r1f3 r1f4 r1f5
          clear r1
          refine only_act (by rfl) (fun K hK => ?_)
          go_wp2_with fail
          refine ⟨_, Only.refl _ _, (Only.setCell (S := (fun i => i = q)) (Only.setCell (S := (fun i => i = q)) (Only.setCell (S := (fun i => i = q)) (Only.setCell (S := (fun i => i = q)) (Only.setCell (S := (fun i => i = q)) (Only.setCell (S := (fun i => i = q)) HS4.out (.inr hxs) (o := 0) (.bool (z0 == 1))) (.inr hxs) (o := 1) (.int .i64 z1)) (.inr hxs) (o := 2) (.int .i64 z2)) (.inr hxs) (o := 3) (.slice none 0 0)) (.inr hxs) (o := 4) (.slice none 0 0)) (.inr hxs) (o := 5) (.slice none 0 0)), ?_⟩
          clear r1l r1c0 r1f0 r1c1 r1f1 r1c2 r1f2 r1c3 r1f3 r1c4 r1f4 r1c5 r1f5
          refine only_nil ?_
          go_wp2_with fail
          go_meet
          exact ⟨xb, rfl, hid (RH.setx (RH.setx (RH.setx (RH.setx (RH.setx (RH.setx (RH.mk (Only.trans' HOW5.out HS4.out) HQL.out HAB.out hwr (Nat.lt_succ_self rb) (Nat.lt_of_lt_of_le hgl hxs) ((HS4.out.cells rb 0 hrl hrq).trans hrc) (HG5.out.only HS4.out hgq) HX4.out HR4.out) 0 _) 1 _) 2 _) 3 _) 4 _) 5 _)⟩
        · refine only_act (by rfl) (fun K hK => ?_)
          go_wp2_with fail
          refine ⟨_, Only.refl _ _, Only.alloc HS2.out _, ?_⟩
          refine only_gen (fun W => Hid (Ext V2 W) ∧ Hid (Row W V2.heap.size 0 [.bool false, .int .i64 0, .int .i64 0, .slice none 0 0, .slice none 0 0, .slice none 0 0])) ⟨hid ((Ext.refl _).alloc _), hid (Row.new V2 _ _)⟩ ?_
          rintro V3 ⟨hE3, HX3⟩
          have HR3 := hid (HR2.out.ext hE3.out)
          have HS3 := hid (HS2.out.transExt hE3.out)
          obtain ⟨xb, hxb⟩ : ∃ y, V2.heap.size = y := ⟨_, rfl⟩
          have hxs : W5.heap.size ≤ xb := by rw [← hxb]; exact HS2.out.size
          rw [hxb] at HX3 ⊢
          clear hxb
          refine only_act (by rfl) (fun K hK => ?_)
          go_wp2_with (go_at_call 55; refine (HN2.out V3 HR3.out).mono ?_; rintro e V4 ⟨rfl, HR4, HT4⟩)
          have HS4 := hid (Only.trans' HS3.out HT4.out)
          have HX4 := hid (HX3.out.only HT4.out (fun e => by omega))
          refine ⟨_, Only.refl _ _, HS4.out, ?_⟩
          refine only_read (by rfl) (fun K hK => ?_)
          refine quiet_runD 19 rfl (.agg #[.bool (z0 == 1), .int .i64 z1, .int .i64 z2, .slice none 0 0, .slice none 0 0, .slice none 0 0]) (fun w => by kernel_rfl) ?_
          refine hK _ ?_
          clear hK K
          simp only [Act.put, List.setIfInBounds_toArray, List.set_cons_zero, List.set_cons_succ]
          have r1 := HX4.out
          have r1l := r1.lt
          have r1c0 := r1.range 0 _ rfl
          have r1f0 := r1.free 0 (by show 0 < 6; decide)
          have r1c1 := r1.range 1 _ rfl
          have r1f1 := r1.free 1 (by show 1 < 6; decide)
          have r1c2 := r1.range 2 _ rfl
          have r1f2 := r1.free 2 (by show 2 < 6; decide)
          have r1c3 := r1.range 3 _ rfl
          have r1f3 := r1.free 3 (by show 3 < 6; decide)
          have r1c4 := r1.range 4 _ rfl
          have r1f4 := r1.free 4 (by show 4 < 6; decide)
          have r1c5 := r1.range 5 _ rfl
          have r1f5 := r1.free 5 (by show 5 < 6; decide)
          simp only [Nat.zero_add] at r1c1 r1c2 r1c3 r1c4 r1c5 r1f1 r1f2 r1f3 r1f4 r1f5
          clear r1
          refine only_act (by rfl) (fun K hK => ?_)
          go_wp2_with fail
          refine ⟨_, Only.refl _ _, (Only.setCell (S := (fun i => i = q)) (Only.setCell (S := (fun i => i = q)) (Only.setCell (S := (fun i => i = q)) (Only.setCell (S := (fun i => i = q)) (Only.setCell (S := (fun i => i = q)) (Only.setCell (S := (fun i => i = q)) HS4.out (.inr hxs) (o := 0) (.bool (z0 == 1))) (.inr hxs) (o := 1) (.int .i64 z1)) (.inr hxs) (o := 2) (.int .i64 z2)) (.inr hxs) (o := 3) (.slice none 0 0)) (.inr hxs) (o := 4) (.slice none 0 0)) (.inr hxs) (o := 5) (.slice none 0 0)), ?_⟩
          clear r1l r1c0 r1f0 r1c1 r1f1 r1c2 r1f2 r1c3 r1f3 r1c4 r1f4 r1c5 r1f5
          refine only_nil ?_
          go_wp2_with fail
          go_meet
          exact ⟨xb, rfl, hid (RH.setx (RH.setx (RH.setx (RH.setx (RH.setx (RH.setx (RH.mk (Only.trans' HOW5.out HS4.out) HQL.out HAB.out hwr (Nat.lt_succ_self rb) (Nat.lt_of_lt_of_le hgl hxs) ((HS4.out.cells rb 0 hrl hrq).trans hrc) (HG5.out.only HS4.out hgq) HX4.out HR4.out) 0 _) 1 _) 2 _) 3 _) 4 _) 5 _)⟩
      · refine only_act (by rfl) (fun K hK => ?_)
        go_wp2_with fail
        refine ⟨_, Only.refl _ _, Only.alloc HS1.out _, ?_⟩
        refine only_gen (fun W => Hid (Ext V1 W) ∧ Hid (Row W V1.heap.size 0 [.bool false, .int .i64 0, .int .i64 0, .slice none 0 0, .slice none 0 0, .slice none 0 0])) ⟨hid ((Ext.refl _).alloc _), hid (Row.new V1 _ _)⟩ ?_
        rintro V2 ⟨hE2, HX2⟩
        have HR2 := hid (HR1.out.ext hE2.out)
        have HS2 := hid (HS1.out.transExt hE2.out)
        obtain ⟨xb, hxb⟩ : ∃ y, V1.heap.size = y := ⟨_, rfl⟩
        have hxs : W5.heap.size ≤ xb := by rw [← hxb]; exact HS1.out.size
        rw [hxb] at HX2 ⊢
        clear hxb
        refine only_act (by rfl) (fun K hK => ?_)
        go_wp2_with (go_at_call 55; refine (HN1.out V2 HR2.out).mono ?_; rintro e V3 ⟨rfl, HR3, HT3⟩)
        have HS3 := hid (Only.trans' HS2.out HT3.out)
        have HX3 := hid (HX2.out.only HT3.out (fun e => by omega))
        refine ⟨_, Only.refl _ _, HS3.out, ?_⟩
        refine only_act (by rfl) (fun K hK => ?_)
        go_wp2_with (go_at_call 55; refine (HN2.out V3 HR3.out).mono ?_; rintro e V4 ⟨rfl, HR4, HT4⟩)
        have HS4 := hid (Only.trans' HS3.out HT4.out)
        have HX4 := hid (HX3.out.only HT4.out (fun e => by omega))
        refine ⟨_, Only.refl _ _, HS4.out, ?_⟩
        refine only_read (by rfl) (fun K hK => ?_)
        refine quiet_runD 19 rfl (.agg #[.bool (z0 == 1), .int .i64 z1, .int .i64 z2, .slice none 0 0, .slice none 0 0, .slice none 0 0]) (fun w => by kernel_rfl) ?_
        refine hK _ ?_
        clear hK K
        simp only [Act.put, List.setIfInBounds_toArray, List.set_cons_zero, List.set_cons_succ]
        have r1 := HX4.out
        have r1l := r1.lt
        have r1c0 := r1.range 0 _ rfl
        have r1f0 := r1.free 0 (by show 0 < 6; decide)
        have r1c1 := r1.range 1 _ rfl
        have r1f1 := r1.free 1 (by show 1 < 6; decide)
        have r1c2 := r1.range 2 _ rfl
        have r1f2 := r1.free 2 (by show 2 < 6; decide)
        have r1c3 := r1.range 3 _ rfl
        have r1f3 := r1.free 3 (by show 3 < 6; decide)
        have r1c4 := r1.range 4 _ rfl
        have r1f4 := r1.free 4 (by show 4 < 6; decide)
        have r1c5 := r1.range 5 _ rfl
        have r1f5 := r1.free 5 (by show 5 < 6; decide)
        simp only [Nat.zero_add] at r1c1 r1c2 r1c3 r1c4 r1c5 r1f1 r1f2 r1f3 r1f4 r1f5
        clear r1
        refine only_act (by rfl) (fun K hK => ?_)
        go_wp2_with fail
        refine ⟨_, Only.refl _ _, (Only.setCell (S := (fun i => i = q)) (Only.setCell (S := (fun i => i = q)) (Only.setCell (S := (fun i => i = q)) (Only.setCell (S := (fun i => i = q)) (Only.setCell (S := (fun i => i = q)) (Only.setCell (S := (fun i => i = q)) HS4.out (.inr hxs) (o := 0) (.bool (z0 == 1))) (.inr hxs) (o := 1) (.int .i64 z1)) (.inr hxs) (o := 2) (.int .i64 z2)) (.inr hxs) (o := 3) (.slice none 0 0)) (.inr hxs) (o := 4) (.slice none 0 0)) (.inr hxs) (o := 5) (.slice none 0 0)), ?_⟩
        clear r1l r1c0 r1f0 r1c1 r1f1 r1c2 r1f2 r1c3 r1f3 r1c4 r1f4 r1c5 r1f5
        refine only_nil ?_
        go_wp2_with fail
        go_meet
        exact ⟨xb, rfl, hid (RH.setx (RH.setx (RH.setx (RH.setx (RH.setx (RH.setx (RH.mk (Only.trans' HOW5.out HS4.out) HQL.out HAB.out hwr (Nat.lt_succ_self rb) (Nat.lt_of_lt_of_le hgl hxs) ((HS4.out.cells rb 0 hrl hrq).trans hrc) (HG5.out.only HS4.out hgq) HX4.out HR4.out) 0 _) 1 _) 2 _) 3 _) 4 _) 5 _)⟩
    · refine only_act (by rfl) (fun K hK => ?_)
      go_wp2_with fail
      refine ⟨_, Only.refl _ _, Only.alloc HS0.out _, ?_⟩
      refine only_gen (fun W => Hid (Ext W5 W) ∧ Hid (Row W W5.heap.size 0 [.bool false, .int .i64 0, .int .i64 0, .slice none 0 0, .slice none 0 0, .slice none 0 0])) ⟨hid ((Ext.refl _).alloc _), hid (Row.new W5 _ _)⟩ ?_
      rintro V1 ⟨hE1, HX1⟩
      have HR1 := hid (HR0.out.ext hE1.out)
      have HS1 := hid (HS0.out.transExt hE1.out)
      obtain ⟨xb, hxb⟩ : ∃ y, W5.heap.size = y := ⟨_, rfl⟩
      have hxs : W5.heap.size ≤ xb := by rw [← hxb]; exact HS0.out.size
      rw [hxb] at HX1 ⊢
      clear hxb
      refine only_act (by rfl) (fun K hK => ?_)
      go_wp2_with (go_at_call 55; refine (HN0.out V1 HR1.out).mono ?_; rintro e V2 ⟨rfl, HR2, HT2⟩)
      have HS2 := hid (Only.trans' HS1.out HT2.out)
      have HX2 := hid (HX1.out.only HT2.out (fun e => by omega))
      refine ⟨_, Only.refl _ _, HS2.out, ?_⟩
      refine only_read (by rfl) (fun K hK => ?_)
      refine quiet_runD 14 rfl (.bool (z0 == 1)) (fun w => by go_simp) ?_
      refine hK _ ?_
      clear hK K
      simp only [Act.put, List.setIfInBounds_toArray, List.set_cons_zero, List.set_cons_succ]
      refine only_act (by rfl) (fun K hK => ?_)
      go_wp2_with (go_at_call 55; refine (HN1.out V2 HR2.out).mono ?_; rintro e V3 ⟨rfl, HR3, HT3⟩)
      have HS3 := hid (Only.trans' HS2.out HT3.out)
      have HX3 := hid (HX2.out.only HT3.out (fun e => by omega))
      refine ⟨_, Only.refl _ _, HS3.out, ?_⟩
      refine only_act (by rfl) (fun K hK => ?_)
      go_wp2_with (go_at_call 55; refine (HN2.out V3 HR3.out).mono ?_; rintro e V4 ⟨rfl, HR4, HT4⟩)
      have HS4 := hid (Only.trans' HS3.out HT4.out)
      have HX4 := hid (HX3.out.only HT4.out (fun e => by omega))
      refine ⟨_, Only.refl _ _, HS4.out, ?_⟩
      refine only_read (by rfl) (fun K hK => ?_)
      refine quiet_runD 19 rfl (.agg #[.bool (z0 == 1), .int .i64 z1, .int .i64 z2, .slice none 0 0, .slice none 0 0, .slice none 0 0]) (fun w => by kernel_rfl) ?_
      refine hK _ ?_
      clear hK K
      simp only [Act.put, List.setIfInBounds_toArray, List.set_cons_zero, List.set_cons_succ]
      have r1 := HX4.out
      have r1l := r1.lt
      have r1c0 := r1.range 0 _ rfl
      have r1f0 := r1.free 0 (by show 0 < 6; decide)
      have r1c1 := r1.range 1 _ rfl
      have r1f1 := r1.free 1 (by show 1 < 6; decide)
      have r1c2 := r1.range 2 _ rfl
      have r1f2 := r1.free 2 (by show 2 < 6; decide)
      have r1c3 := r1.range 3 _ rfl
      have r1f3 := r1.free 3 (by show 3 < 6; decide)
      have r1c4 := r1.range 4 _ rfl
      have r1f4 := r1.free 4 (by show 4 < 6; decide)
      have r1c5 := r1.range 5 _ rfl
      have r1f5 := r1.free 5 (by show 5 < 6; decide)
      simp only [Nat.zero_add] at r1c1 r1c2 r1c3 r1c4 r1c5 r1f1 r1f2 r1f3 r1f4 r1f5
      clear r1
      refine only_act (by rfl) (fun K hK => ?_)
      go_wp2_with fail
      refine ⟨_, Only.refl _ _, (Only.setCell (S := (fun i => i = q)) (Only.setCell (S := (fun i => i = q)) (Only.setCell (S := (fun i => i = q)) (Only.setCell (S := (fun i => i = q)) (Only.setCell (S := (fun i => i = q)) (Only.setCell (S := (fun i => i = q)) HS4.out (.inr hxs) (o := 0) (.bool (z0 == 1))) (.inr hxs) (o := 1) (.int .i64 z1)) (.inr hxs) (o := 2) (.int .i64 z2)) (.inr hxs) (o := 3) (.slice none 0 0)) (.inr hxs) (o := 4) (.slice none 0 0)) (.inr hxs) (o := 5) (.slice none 0 0)), ?_⟩
      clear r1l r1c0 r1f0 r1c1 r1f1 r1c2 r1f2 r1c3 r1f3 r1c4 r1f4 r1c5 r1f5
      refine only_nil ?_
      go_wp2_with fail
      go_meet
      exact ⟨xb, rfl, hid (RH.setx (RH.setx (RH.setx (RH.setx (RH.setx (RH.setx (RH.mk (Only.trans' HOW5.out HS4.out) HQL.out HAB.out hwr (Nat.lt_succ_self rb) (Nat.lt_of_lt_of_le hgl hxs) ((HS4.out.cells rb 0 hrl hrq).trans hrc) (HG5.out.only HS4.out hgq) HX4.out HR4.out) 0 _) 1 _) 2 _) 3 _) 4 _) 5 _)⟩
  case rest =>
    clear HR HON hrc HG hrl
    obtain ⟨xb, rfl, HH⟩ := hcut
    go_upto_region 3 with (fail)
    refine wp_region_only (S := (fun i => i = q)) (.rd 0 (.rd 2 (.rd 4 (.ac 1 (.ac 3 (.ac 5 (.rd 6 (.rd 7 (.rd 8 .done))))))))) (by kernel_rfl) (by kernel_rfl) (fun _ _ d _ _ h => by cases d <;> exact h) (by simp only [Ord.map, nthOp, List.append]; rfl) ?_
    intro d2
    have HH5 := hid (HH.out.ext (Ext.grow (Ext.refl wc) d2))
    generalize Go.Proofs.Ytgldlkoohfclpaa.grow wc d2 = W5 at HH5 ⊢
    have hrc := HH5.out.c
    have hrl : rb < W5.heap.size := by have := HH5.out.rg.lt; have := HH5.out.h2; omega
    have HS0 := hid (Only.refl (fun i => i = q) W5)
    have HR0 := hid HH5.out.rr
    refine only_read (by rfl) (fun K hK => ?_)
    refine quiet_load1 60 (.tmp 1) rfl (rb) (0) rfl (Value.pointer (some ⟨q, 0, none⟩)) _ (fun w' hw' => (hw'.cells rb 0 hrl hrq).trans hrc) Try.underlying60 rfl ?_
    refine hK _ ?_
    clear hK K
    simp only [Act.put, List.setIfInBounds_toArray, List.set_cons_zero, List.set_cons_succ]
    refine only_read (by rfl) (fun K hK => ?_)
    refine quiet_load1 60 (.tmp 1) rfl (rb) (0) rfl (Value.pointer (some ⟨q, 0, none⟩)) _ (fun w' hw' => (hw'.cells rb 0 hrl hrq).trans hrc) Try.underlying60 rfl ?_
    refine hK _ ?_
    clear hK K
    simp only [Act.put, List.setIfInBounds_toArray, List.set_cons_zero, List.set_cons_succ]
    refine only_read (by rfl) (fun K hK => ?_)
    refine quiet_load1 60 (.tmp 1) rfl (rb) (0) rfl (Value.pointer (some ⟨q, 0, none⟩)) _ (fun w' hw' => (hw'.cells rb 0 hrl hrq).trans hrc) Try.underlying60 rfl ?_
    refine hK _ ?_
    clear hK K
    simp only [Act.put, List.setIfInBounds_toArray, List.set_cons_zero, List.set_cons_succ]
    refine only_act (by rfl) (fun K hK => ?_)
    go_wp2_with (go_at_call 55; refine (HN3.out W5 HR0.out).mono ?_; rintro e V1 ⟨rfl, HR1, HT1⟩)
    have HS1 := hid (Only.trans' HS0.out HT1.out)
    refine ⟨_, Only.refl _ _, HS1.out, ?_⟩
    refine only_act (by rfl) (fun K hK => ?_)
    go_wp2_with (go_at_call 55; refine (HN4.out V1 HR1.out).mono ?_; rintro e V2 ⟨rfl, HR2, HT2⟩)
    have HS2 := hid (Only.trans' HS1.out HT2.out)
    refine ⟨_, Only.refl _ _, HS2.out, ?_⟩
    refine only_act (by rfl) (fun K hK => ?_)
    go_wp2_with (go_at_call 55; refine (HN5.out V2 HR2.out).mono ?_; rintro e V3 ⟨rfl, HR3, HT3⟩)
    have HS3 := hid (Only.trans' HS2.out HT3.out)
    refine ⟨_, Only.refl _ _, HS3.out, ?_⟩
    refine only_read (by rfl) (fun K hK => ?_)
    go_big_quiet_op
    refine hK _ ?_
    clear hK K
    refine only_read (by rfl) (fun K hK => ?_)
    go_big_quiet_op
    refine hK _ ?_
    clear hK K
    refine only_read (by rfl) (fun K hK => ?_)
    go_big_quiet_op
    refine hK _ ?_
    clear hK K
    refine only_nil ?_
    go_upto_region 4 with (fail)
    have HH3 := hid (HH5.out.more HS3.out (fun i hi => .inl hi) HR3.out)
    clear HH5 HS3 HR3
    generalize V3 = V3 at HH3 ⊢
    have hxl := HH3.out.rx.lt
    go_upto_region 5 with (fail)
    refine wp_gen (fun W => Hid (RH w W rb q (rb + 1) xb A ca bl 9 [.bool (z0 == 1), .int .i64 z1, .int .i64 z2, .slice none 0 0, .slice none 0 0, .slice none 0 0]) ∧ Hid (Row W V3.heap.size 0 [.slice none 0 0])) ⟨hid (HH3.out.ext ((Ext.refl _).alloc _)), hid (Row.new V3 _ _)⟩ ?_
    rintro V4 ⟨HH4, HRL⟩
    obtain ⟨lb, hlb⟩ : ∃ y, V3.heap.size = y := ⟨_, rfl⟩
    rw [hlb] at HRL hxl ⊢
    clear hlb HH3 hrc hrl HS0 HR0 HR1 HT1 HS1 HR2 HT2 HS2 HT3
    have hgx : rb + 1 < xb := HH4.out.h3
    have hlb1 : lb + 1 ≤ V4.heap.size := HRL.out.lt
    have HLL := hid HRL.out.lt
    have HSC := hid (sevCmp_ 57 (.pointer (some ⟨lb, 0, none⟩)) (.pointer (some ⟨rb, 0, none⟩)) nc (by have := HBc.out; omega) (cm0 bl) (fun k v W => CmC W (lb + 1) rb q lb A ca bl (9 + 3 * k) v ((List.range k).map (ln0 bl))) (TnC q lb) (.slice none 0 0) V4
      ⟨⟨hlb1, by omega, by omega, fun b o h0 e => by have := HAB.out b o h0 e; exact ⟨by omega, this.2⟩, hrq, HH4.out.c, HH4.out.rr⟩, ⟨Nat.lt_succ_self lb, hlb1, HRL.out.range 0 _ rfl, HRL.out.free 0 (by decide), ownsAt_nil _ _ _ _⟩, by omega, by omega, fun b o h0 e e2 => by have := (HAB.out b o h0 e).1; omega⟩
      (fun args w2 => enterOf Try.func57 (by kernel_rfl) rfl args w2)
      (fun k hk s W hI => (tkCmp_ W (lb + 1) rb q lb A ca bl (9 + 3 * k) s _ (by have := HBc.out; omega) (by rw [List.length_map, List.length_range]; have := HBc.out; omega) hI HBB.out HNN.out).mono (fun e W2 hp => by
        obtain ⟨v2, he, h1, h2, h3⟩ := hp
        exact ⟨v2, he, hid (by have := h1.out; rwa [show 9 + 3 * k + 3 = 9 + 3 * (k + 1) by omega, show ((List.range k).map (ln0 bl) ++ [numB bl (9 + 3 * k) 2]) = (List.range (k + 1)).map (ln0 bl) from (map_range_succ (ln0 bl) k).symm] at this), h2, h3⟩))
      (fun k s W hI i hi => by
        have a1 := hI.rd.ql
        have a2 := hI.rd.bs
        have a3 := hI.ln.lt
        rcases hi with hi | hi | hi
        · omega
        · omega
        · exact (hI.ln.o.lt i hi).2)
      (fun k s W W2 S hI x hS => ⟨hI.rd.only x (fun i hi => Nat.le_trans hlb1 (hS i hi).2), hI.ln.only x (fun hs => (hS _ hs).1 (.inr (.inl rfl))) (fun g e hs => (hS _ hs).1 (.inr (.inr e))), hI.n1, hI.n2, hI.n3⟩))
    clear HRL
    go_wp2_with fail
    refine HSC.out.mono ?_
    rintro e W5 ⟨CA, cc, rfl, HCO, v', HI, HO, HT, HAP⟩
    have HH5 := hid (HH4.out.more HO.out (fun i hi => by
      rcases hi with hi | hi | hi
      · exact .inl hi
      · exact .inr (by omega)
      · cases hi) HI.out.rd.r)
    have HCO1 := hid (HCO.out.lower hlb1)
    have HAN := hid (show ∀ g, (Value.slice CA nc cc).ownBlock = some g → ¬ v'.ownBlock = some g from fun g e e2 => HAP.out g e (.inr (.inr e2)))
    have HLN := hid HI.out.ln
    have hsz := HO.out.size
    clear HSC HCO HI HO HT HAP HH4
    have r1 := HH5.out.rx
    have r1l := r1.lt
    have r1c0 := r1.range 0 _ rfl
    have r1f0 := r1.free 0 (by show 0 < 6; decide)
    have r1c1 := r1.range 1 _ rfl
    have r1f1 := r1.free 1 (by show 1 < 6; decide)
    have r1c2 := r1.range 2 _ rfl
    have r1f2 := r1.free 2 (by show 2 < 6; decide)
    have r1c3 := r1.range 3 _ rfl
    have r1f3 := r1.free 3 (by show 3 < 6; decide)
    have r1c4 := r1.range 4 _ rfl
    have r1f4 := r1.free 4 (by show 4 < 6; decide)
    have r1c5 := r1.range 5 _ rfl
    have r1f5 := r1.free 5 (by show 5 < 6; decide)
    simp only [Nat.zero_add] at r1c1 r1c2 r1c3 r1c4 r1c5 r1f1 r1f2 r1f3 r1f4 r1f5
    clear r1
    go_upto_region 6 with (fail)
    refine wp_gen (fun W => Hid (RH w W rb q (rb + 1) xb A ca bl (9 + 3 * nc) [.bool (z0 == 1), .int .i64 z1, .int .i64 z2, .slice CA nc cc, .slice none 0 0, .slice none 0 0]) ∧ Hid (ownsAt W (lb + 1) 53 2 (.slice CA nc cc) nc (rowF Cmp.cells ((List.range nc).map (cm0 bl)))) ∧ Hid (LnC W (lb + 1) lb v' ((List.range nc).map (ln0 bl))) ∧ lb + 1 ≤ W.heap.size) ⟨hid (HH5.out.setx 3 _), hid (HCO1.out.only (Only.setCell (S := fun i => i = xb) (Only.refl (fun i => i = xb) W5) (.inl rfl) (o := 3) (.slice CA nc cc)) (fun g e e2 => by have := (HCO1.out.lt g e).1; omega)), hid (HLN.out.only (Only.setCell (S := fun i => i = xb) (Only.refl (fun i => i = xb) W5) (.inl rfl) (o := 3) (.slice CA nc cc)) (by omega) (fun g e e2 => by have := (HLN.out.o.lt g e).1; omega)), by rw [World.size_setCell]; omega⟩ ?_
    clear r1l r1c0 r1f0 r1c1 r1f1 r1c2 r1f2 r1c3 r1f3 r1c4 r1f4 r1c5 r1f5
    clear HH5 HCO1 HLN hsz hlb1
    rintro V6 ⟨HH6, HCO, HLN, hlb1⟩
    have HS6 := hid (sevLnk_ 59 (.pointer (some ⟨rb, 0, none⟩)) nl (by have := HBl.out; omega) (lk0 bl (9 + 3 * nc)) (fun k _ W => RdC W (lb + 1) rb q A ca bl (9 + 3 * nc + 4 * k)) (fun _ i => i = q) (.slice none 0 0) V6 (⟨hlb1, by omega, by omega, fun b o h0 e => by have := HAB.out b o h0 e; exact ⟨by omega, this.2⟩, hrq, HH6.out.c, HH6.out.rr⟩) (fun args w2 => enterOf Try.func59 (by kernel_rfl) rfl args w2)
      (fun k hk s W hI => (tkLnk_ W (lb + 1) rb q A ca bl (9 + 3 * nc + 4 * k) (by have := HBc.out; have := HBl.out; have := HBl.out; omega) hI HBB.out HNN.out).mono (fun e W2 hp => ⟨s, hp.1, hid (by have := hp.2.1.out; rwa [show 9 + 3 * nc + 4 * k + 4 = 9 + 3 * nc + 4 * (k + 1) by omega] at this), hp.2.2, hid (fun i hi => .inl hi)⟩))
      (fun k s W hI i hi => by rw [hi]; exact Nat.lt_of_lt_of_le hI.ql hI.bs)
      (fun k s W W2 S hI x hS => hI.only x (fun i hi => Nat.le_trans hlb1 (hS i hi).2)))
    go_wp2_with fail
    refine HS6.out.mono ?_
    rintro e W7 ⟨LA, lc, rfl, HLO, s7, HI, HO, HT, HAP⟩
    have HH7 := hid (HH6.out.more HO.out (fun i hi => .inl hi) HI.out.r)
    have HAL := hid (show ∀ g, (Value.slice CA nc cc).ownBlock = some g → ¬ (Value.slice LA nl lc).ownBlock = some g from fun g e e2 => by have := (HCO.out.lt g e).2; have := (HLO.out.lt g e2).1; omega)
    have HCO1 := hid (HCO.out.only HO.out (fun g e e2 => by have := (HCO.out.lt g e).1; omega))
    have HLN1 := hid (HLN.out.only HO.out (by omega) (fun g e e2 => by have := (HLN.out.o.lt g e).1; omega))
    have HLO1 := hid (HLO.out.lower hlb1)
    have hsz := HO.out.size
    clear HS6 HI HO HT HAP HH6 HCO HLN HLO s7
    have r1 := HH7.out.rx
    have r1l := r1.lt
    have r1c0 := r1.range 0 _ rfl
    have r1f0 := r1.free 0 (by show 0 < 6; decide)
    have r1c1 := r1.range 1 _ rfl
    have r1f1 := r1.free 1 (by show 1 < 6; decide)
    have r1c2 := r1.range 2 _ rfl
    have r1f2 := r1.free 2 (by show 2 < 6; decide)
    have r1c3 := r1.range 3 _ rfl
    have r1f3 := r1.free 3 (by show 3 < 6; decide)
    have r1c4 := r1.range 4 _ rfl
    have r1f4 := r1.free 4 (by show 4 < 6; decide)
    have r1c5 := r1.range 5 _ rfl
    have r1f5 := r1.free 5 (by show 5 < 6; decide)
    simp only [Nat.zero_add] at r1c1 r1c2 r1c3 r1c4 r1c5 r1f1 r1f2 r1f3 r1f4 r1f5
    clear r1
    go_upto_region 7 with (fail)
    refine wp_gen (fun W => Hid (RH w W rb q (rb + 1) xb A ca bl (9 + 3 * nc + 4 * nl) [.bool (z0 == 1), .int .i64 z1, .int .i64 z2, .slice CA nc cc, .slice LA nl lc, .slice none 0 0]) ∧ Hid (ownsAt W (lb + 1) 53 2 (.slice CA nc cc) nc (rowF Cmp.cells ((List.range nc).map (cm0 bl)))) ∧ Hid (LnC W (lb + 1) lb v' ((List.range nc).map (ln0 bl))) ∧ Hid (ownsAt W (lb + 1) 68 3 (.slice LA nl lc) nl (rowF Lnk.cells ((List.range nl).map (lk0 bl (9 + 3 * nc))))) ∧ lb + 1 ≤ W.heap.size) ⟨hid (HH7.out.setx 4 _), hid (HCO1.out.only (Only.setCell (S := fun i => i = xb) (Only.refl (fun i => i = xb) W7) (.inl rfl) (o := 4) (.slice LA nl lc)) (fun g e e2 => by have := (HCO1.out.lt g e).1; omega)), hid (HLN1.out.only (Only.setCell (S := fun i => i = xb) (Only.refl (fun i => i = xb) W7) (.inl rfl) (o := 4) (.slice LA nl lc)) (by omega) (fun g e e2 => by have := (HLN1.out.o.lt g e).1; omega)), hid (HLO1.out.only (Only.setCell (S := fun i => i = xb) (Only.refl (fun i => i = xb) W7) (.inl rfl) (o := 4) (.slice LA nl lc)) (fun g e e2 => by have := (HLO1.out.lt g e).1; omega)), by rw [World.size_setCell]; omega⟩ ?_
    clear r1l r1c0 r1f0 r1c1 r1f1 r1c2 r1f2 r1c3 r1f3 r1c4 r1f4 r1c5 r1f5
    clear HH7 HCO1 HLN1 HLO1 hsz hlb1
    rintro V8 ⟨HH8, HCO, HLN, HLO, hlb1⟩
    have HS8 := hid (sevShr_ 61 (.pointer (some ⟨rb, 0, none⟩)) ns (by have := HBs.out; omega) (sh0 bl (9 + 3 * nc + 4 * nl)) (fun k _ W => RdC W (lb + 1) rb q A ca bl (9 + 3 * nc + 4 * nl + 2 * k)) (fun _ i => i = q) (.slice none 0 0) V8 (⟨hlb1, by omega, by omega, fun b o h0 e => by have := HAB.out b o h0 e; exact ⟨by omega, this.2⟩, hrq, HH8.out.c, HH8.out.rr⟩) (fun args w2 => enterOf Try.func61 (by kernel_rfl) rfl args w2)
      (fun k hk s W hI => (tkShr_ W (lb + 1) rb q A ca bl (9 + 3 * nc + 4 * nl + 2 * k) (by have := HBc.out; have := HBl.out; have := HBs.out; omega) hI HBB.out HNN.out).mono (fun e W2 hp => ⟨s, hp.1, hid (by have := hp.2.1.out; rwa [show 9 + 3 * nc + 4 * nl + 2 * k + 2 = 9 + 3 * nc + 4 * nl + 2 * (k + 1) by omega] at this), hp.2.2, hid (fun i hi => .inl hi)⟩))
      (fun k s W hI i hi => by rw [hi]; exact Nat.lt_of_lt_of_le hI.ql hI.bs)
      (fun k s W W2 S hI x hS => hI.only x (fun i hi => Nat.le_trans hlb1 (hS i hi).2)))
    go_wp2_with fail
    refine HS8.out.mono ?_
    rintro e W9 ⟨SA, sc, rfl, HSO, s7, HI, HO, HT, HAP⟩
    have HH9 := hid (HH8.out.more HO.out (fun i hi => .inl hi) HI.out.r)
    have HAS := hid (show ∀ g, (Value.slice CA nc cc).ownBlock = some g → ¬ (Value.slice SA ns sc).ownBlock = some g from fun g e e2 => by have := (HCO.out.lt g e).2; have := (HSO.out.lt g e2).1; omega)
    have HCO1 := hid (HCO.out.only HO.out (fun g e e2 => by have := (HCO.out.lt g e).1; omega))
    have HLN1 := hid (HLN.out.only HO.out (by omega) (fun g e e2 => by have := (HLN.out.o.lt g e).1; omega))
    have HLO1 := hid (HLO.out.only HO.out (fun g e e2 => by have := (HLO.out.lt g e).1; omega))
    have HSO1 := hid (HSO.out.lower hlb1)
    have hsz := HO.out.size
    clear HS8 HI HO HT HAP HH8 HCO HLN HLO HSO s7
    have r1 := HH9.out.rx
    have r1l := r1.lt
    have r1c0 := r1.range 0 _ rfl
    have r1f0 := r1.free 0 (by show 0 < 6; decide)
    have r1c1 := r1.range 1 _ rfl
    have r1f1 := r1.free 1 (by show 1 < 6; decide)
    have r1c2 := r1.range 2 _ rfl
    have r1f2 := r1.free 2 (by show 2 < 6; decide)
    have r1c3 := r1.range 3 _ rfl
    have r1f3 := r1.free 3 (by show 3 < 6; decide)
    have r1c4 := r1.range 4 _ rfl
    have r1f4 := r1.free 4 (by show 4 < 6; decide)
    have r1c5 := r1.range 5 _ rfl
    have r1f5 := r1.free 5 (by show 5 < 6; decide)
    simp only [Nat.zero_add] at r1c1 r1c2 r1c3 r1c4 r1c5 r1f1 r1f2 r1f3 r1f4 r1f5
    clear r1
    go_upto_region 8 with (fail)
    refine wp_gen (fun W => Hid (RH w W rb q (rb + 1) xb A ca bl (9 + 3 * nc + 4 * nl + 2 * ns) [.bool (z0 == 1), .int .i64 z1, .int .i64 z2, .slice CA nc cc, .slice LA nl lc, .slice SA ns sc]) ∧ Hid (ownsAt W (lb + 1) 53 2 (.slice CA nc cc) nc (rowF Cmp.cells ((List.range nc).map (cm0 bl)))) ∧ Hid (LnC W (lb + 1) lb v' ((List.range nc).map (ln0 bl))) ∧ Hid (ownsAt W (lb + 1) 68 3 (.slice LA nl lc) nl (rowF Lnk.cells ((List.range nl).map (lk0 bl (9 + 3 * nc))))) ∧ Hid (ownsAt W (lb + 1) 70 2 (.slice SA ns sc) ns (rowF Shr.cells ((List.range ns).map (sh0 bl (9 + 3 * nc + 4 * nl))))) ∧ lb + 1 ≤ W.heap.size) ⟨hid (HH9.out.setx 5 _), hid (HCO1.out.only (Only.setCell (S := fun i => i = xb) (Only.refl (fun i => i = xb) W9) (.inl rfl) (o := 5) (.slice SA ns sc)) (fun g e e2 => by have := (HCO1.out.lt g e).1; omega)), hid (HLN1.out.only (Only.setCell (S := fun i => i = xb) (Only.refl (fun i => i = xb) W9) (.inl rfl) (o := 5) (.slice SA ns sc)) (by omega) (fun g e e2 => by have := (HLN1.out.o.lt g e).1; omega)), hid (HLO1.out.only (Only.setCell (S := fun i => i = xb) (Only.refl (fun i => i = xb) W9) (.inl rfl) (o := 5) (.slice SA ns sc)) (fun g e e2 => by have := (HLO1.out.lt g e).1; omega)), hid (HSO1.out.only (Only.setCell (S := fun i => i = xb) (Only.refl (fun i => i = xb) W9) (.inl rfl) (o := 5) (.slice SA ns sc)) (fun g e e2 => by have := (HSO1.out.lt g e).1; omega)), by rw [World.size_setCell]; omega⟩ ?_
    clear r1l r1c0 r1f0 r1c1 r1f1 r1c2 r1f2 r1c3 r1f3 r1c4 r1f4 r1c5 r1f5
    clear HH9 HCO1 HLN1 HLO1 HSO1 hsz hlb1
    rintro VA ⟨HHA, HCO, HLN, HLO, HSO, hlb1⟩
    obtain ⟨NA, ncp, hv', _, _⟩ := HLN.out.o.shape
    rw [show ((List.range nc).map (ln0 bl)).length = nc by simp] at hv'
    subst hv'
    refine wp_region_only (S := (fun i => i = rb + 1)) (.rd 0 (.rd 1 (.ac 2 (.rd 3 .done)))) (by kernel_rfl) (by kernel_rfl) (fun _ _ d _ _ h => by cases d <;> exact h) (by simp only [Ord.map, nthOp, List.append]; rfl) ?_
    intro d3
    have hex := Ext.grow (Ext.refl VA) d3
    have HH5 := hid (HHA.out.ext hex)
    have HCO5 := hid (HCO.out.ext hex)
    have HLN5 := hid (HLN.out.ext hex)
    have HLO5 := hid (HLO.out.ext hex)
    have HSO5 := hid (HSO.out.ext hex)
    have hlb5 := Nat.le_trans hlb1 hex.size
    generalize Go.Proofs.Ytgldlkoohfclpaa.grow VA d3 = W5 at HH5 HCO5 HLN5 HLO5 HSO5 hlb5 ⊢
    clear hex HHA HCO HLN HLO HSO
    have hrx := HH5.out.rx.range
    have hxl2 := HH5.out.rx.lt
    have hll2 : lb < W5.heap.size := by omega
    have hlc := HLN5.out.c
    have HGB := hid HH5.out.rg
    have HS0 := hid (Only.refl (fun i => i = rb + 1) W5)
    refine only_read (by rfl) (fun K hK => ?_)
    refine quiet_loadC 26 (.tmp 4) rfl (xb) (0) rfl ([.bool (z0 == 1), .int .i64 z1, .int .i64 z2, .slice CA nc cc, .slice LA nl lc, .slice SA ns sc]) _ (fun w' hw' => fun j u hj => (hw'.cells xb _ hxl2 (by omega)).trans (hrx j u hj)) Try.underlying26 rfl (by kernel_rfl) ?_
    refine hK _ ?_
    clear hK K
    simp only [Act.put, List.setIfInBounds_toArray, List.set_cons_zero, List.set_cons_succ]
    refine only_read (by rfl) (fun K hK => ?_)
    refine quiet_load1 43 (.tmp 8) rfl (lb) (0) rfl (.slice NA nc ncp) _ (fun w' hw' => (hw'.cells lb 0 hll2 (by omega)).trans hlc) Try.underlying43 rfl ?_
    refine hK _ ?_
    clear hK K
    simp only [Act.put, List.setIfInBounds_toArray, List.set_cons_zero, List.set_cons_succ]
    have r1 := HGB.out
    have r1l := r1.lt
    have r1c0 := r1.range 0 _ rfl
    have r1f0 := r1.free 0 (by show 0 < 6; decide)
    have r1c1 := r1.range 1 _ rfl
    have r1f1 := r1.free 1 (by show 1 < 6; decide)
    have r1c2 := r1.range 2 _ rfl
    have r1f2 := r1.free 2 (by show 2 < 6; decide)
    have r1c3 := r1.range 3 _ rfl
    have r1f3 := r1.free 3 (by show 3 < 6; decide)
    have r1c4 := r1.range 4 _ rfl
    have r1f4 := r1.free 4 (by show 4 < 6; decide)
    have r1c5 := r1.range 5 _ rfl
    have r1f5 := r1.free 5 (by show 5 < 6; decide)
    simp only [Nat.zero_add] at r1c1 r1c2 r1c3 r1c4 r1c5 r1f1 r1f2 r1f3 r1f4 r1f5
    clear r1
    refine only_act (by rfl) (fun K hK => ?_)
    go_wp2_with fail
    refine ⟨_, Only.refl _ _, (Only.setCell (S := (fun i => i = rb + 1)) (Only.setCell (S := (fun i => i = rb + 1)) (Only.setCell (S := (fun i => i = rb + 1)) (Only.setCell (S := (fun i => i = rb + 1)) (Only.setCell (S := (fun i => i = rb + 1)) (Only.setCell (S := (fun i => i = rb + 1)) (Only.refl (fun i => i = rb + 1) W5) (.inl rfl) (o := 0) (.bool (z0 == 1))) (.inl rfl) (o := 1) (.int .i64 z1)) (.inl rfl) (o := 2) (.int .i64 z2)) (.inl rfl) (o := 3) (.slice CA nc cc)) (.inl rfl) (o := 4) (.slice LA nl lc)) (.inl rfl) (o := 5) (.slice SA ns sc)), ?_⟩
    refine only_read (by rfl) (fun K hK => ?_)
    go_big_quiet_op
    refine hK _ ?_
    clear hK K
    refine only_nil ?_
    go_wp2_with fail
    refine bodyPost_ret (v := .tuple #[.agg #[.bool (z0 == 1), .int .i64 z1, .int .i64 z2, .slice CA nc cc, .slice LA nl lc, .slice SA ns sc], .slice NA nc ncp]) (by simp [results, Try.results30, go_sem, r1l, r1c0, r1c1, r1c2, r1c3, r1c4, r1c5]) rfl ?_
    have HFN := hid (Only.setCell (S := (fun i => i = rb + 1)) (Only.setCell (S := (fun i => i = rb + 1)) (Only.setCell (S := (fun i => i = rb + 1)) (Only.setCell (S := (fun i => i = rb + 1)) (Only.setCell (S := (fun i => i = rb + 1)) (Only.setCell (S := (fun i => i = rb + 1)) (Only.refl (fun i => i = rb + 1) W5) (.inl rfl) (o := 0) (.bool (z0 == 1))) (.inl rfl) (o := 1) (.int .i64 z1)) (.inl rfl) (o := 2) (.int .i64 z2)) (.inl rfl) (o := 3) (.slice CA nc cc)) (.inl rfl) (o := 4) (.slice LA nl lc)) (.inl rfl) (o := 5) (.slice SA ns sc))
    refine ⟨CA, LA, SA, NA, cc, lc, sc, ncp, rfl, hid { co := ?_, lo := ?_, so := ?_, no := ?_, al := HAL.out, as_ := HAS.out, an := HAN.out, rr := ?_, on := ?_ }⟩
    · exact (HCO5.out.only HFN.out (fun g e e2 => by have := (HCO5.out.lt g e).1; omega)).lower (by omega)
    · exact (HLO5.out.only HFN.out (fun g e e2 => by have := (HLO5.out.lt g e).1; omega)).lower (by omega)
    · exact (HSO5.out.only HFN.out (fun g e e2 => by have := (HSO5.out.lt g e).1; omega)).lower (by omega)
    · have h9 := (HLN5.out.o.only HFN.out (fun g e e2 => by have := (HLN5.out.o.lt g e).1; omega)).lower (b' := w.heap.size) (by omega)
      rwa [show ((List.range nc).map (ln0 bl)).length = nc by simp] at h9
    · exact HH5.out.rr.only HFN.out (by omega) (fun b o h0 e _ e2 => by have := (HAB.out b o h0 e).1; omega)
    · exact Only.trans HH5.out.on HFN.out (fun i hi => .inr (by omega))

end Go.Proofs.Ytgldlkoohfclpaa
