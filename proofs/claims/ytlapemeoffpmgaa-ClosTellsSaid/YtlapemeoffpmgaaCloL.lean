/- Layer 6: SortFunc. -/
import Derived.Test.YtlapemeoffpmgaaSrtK
import Derived.Test.YtlapemeoffpmgaaCloK
import Derived.Test.YtlapemeoffpmgaaCloB
import Derived.Shelf.Lay
import Derived.Shelf.SlGeneric
import Derived.Ground.SlsfProg
namespace Go.Proofs.Ytlapemeoffpmgaa
set_option linter.unusedSimpArgs false
set_option linter.unusedVariables false
open Go.RowKit Go.Shelf Go.Lib Go.Sort

theorem Only.wider {S T : Nat → Prop} {w w' : World} (x : Only S w w') (h : ∀ i, S i → T i) : Only T w w' :=
  ⟨x.os, x.tape, x.output, x.size, fun k hk hn => x.block k hk fun e => hn (h k e)⟩
instance : Inhabited Cap := ⟨⟨false, 0, 0, 0, 0, 0⟩⟩
shelf_lay_g SlLaysF0.n6 Slsf 6 at Try 53 as Try.sortCap
theorem swo1 : SWO (ltOf cf1) where
  irrefl x := by
    refine decide_eq_false fun h => ?_
    have := ord1_iff.1 (cf1_neg.1 h)
    omega
  trans x y z h1 h2 := by
    have a1 := ord1_iff.1 (cf1_neg.1 (of_decide_eq_true h1))
    have a2 := ord1_iff.1 (cf1_neg.1 (of_decide_eq_true h2))
    refine decide_eq_true (cf1_neg.2 (ord1_iff.2 ?_))
    omega
  ntrans x y z h1 h2 := by
    have a1 : ¬ _ := fun h => of_decide_eq_false h1 (cf1_neg.2 (ord1_iff.2 h))
    have a2 : ¬ _ := fun h => of_decide_eq_false h2 (cf1_neg.2 (ord1_iff.2 h))
    refine decide_eq_false fun h => ?_
    have a3 := ord1_iff.1 (cf1_neg.1 h)
    omega
theorem swo2 : SWO (ltOf cf2) where
  irrefl x := by
    refine decide_eq_false fun h => ?_
    have := lexC_iff.1 (cf2_neg.1 h)
    omega
  trans x y z h1 h2 := by
    have a1 := lexC_iff.1 (cf2_neg.1 (of_decide_eq_true h1))
    have a2 := lexC_iff.1 (cf2_neg.1 (of_decide_eq_true h2))
    refine decide_eq_true (cf2_neg.2 (lexC_iff.2 ?_))
    omega
  ntrans x y z h1 h2 := by
    have a1 : ¬ _ := fun h => of_decide_eq_false h1 (cf2_neg.2 (lexC_iff.2 h))
    have a2 : ¬ _ := fun h => of_decide_eq_false h2 (cf2_neg.2 (lexC_iff.2 h))
    refine decide_eq_false fun h => ?_
    have a3 := lexC_iff.1 (cf2_neg.1 h)
    omega
set_option maxRecDepth 100000 in
set_option maxHeartbeats 4000000 in
theorem csort1_ (base n : Nat) (v : Value) (l : List Cap) (w : World) (h : ownsAt w base 24 6 v n (rowF Cap.cells l)) (hl : l.length = n) (hn : n ≤ 1000000000) (h0 : 0 < n) : Calls Try.prog 53 #[v, .func (.func 54) #[] #[]] w fun e w' => e = .returned (.tuple #[]) ∧ ∃ l', Hid (l'.Perm l ∧ l'.Pairwise fun a b => ¬ ord1 b a = true) ∧ Hid (ownsAt w' base 24 6 v n (rowF Cap.cells l')) ∧ Hid (Only (fun i => some i = v.ownBlock) w w') := by
  obtain ⟨A, ca, rfl, _, _⟩ := h.shape
  obtain ⟨g, o, rfl, hb, hg, _, _⟩ := h.at_ rfl h0
  have eg : ∀ args w, (callFunc 54 args).run Try.prog w = .ok (.enter 54 args) w := fun args w => enterOf Try.func54 (by kernel_rfl) (by kernel_rfl) _ _
  have hc : CmpLays Try.prog 54 #[] Cap.cells 6 cf1 g (o * 6) l.toArray.size w := fun _ _ _ _ x y => cless1_ x.tag x.base x.top x.at_ x.perms x.type y.tag y.base y.top y.at_ y.perms y.type _
  have hcon := AnyQ.slices_SortFunc Try.sortCap 6 Try.isAgg24 Try.sizeOf24 Cap.cells (fun _ => rfl) cap_one cf1 swo1 54 #[] g (o * 6) ca l.toArray w eg hc (holdsK_own cap_len h hl) hg (by simp [hl]; omega)
  change Calls Try.prog 53 _ _ _ at hcon
  rw [show l.toArray.size = n by simpa using hl] at hcon
  refine hcon.mono ?_
  rintro e w' ⟨rfl, d', m, os, hp, hs, rfl⟩
  obtain ⟨hp1, hp2⟩ := perm_of (d := l.toArray) (by rw [show l.toArray.size = n by simpa using hl]; exact hp)
  have hd : d'.size = n := by rw [hp2]; simpa using hl
  refine ⟨rfl, d'.toList, hid ⟨by simpa using hp1, (sorted_of hd hs).imp fun hh ho => ?_⟩, hid (own_sorted cap_len h d' hd m os), hid ((sort_only Cap.cells 6 w g (o * 6) m d' os).wider fun i hi => by rw [hi]; rfl)⟩
  exact of_decide_eq_false hh (cf1_neg.2 ho)
set_option maxRecDepth 100000 in
set_option maxHeartbeats 4000000 in
theorem csort2_ (base n : Nat) (v : Value) (l : List Cap) (w : World) (h : ownsAt w base 24 6 v n (rowF Cap.cells l)) (hl : l.length = n) (hn : n ≤ 1000000000) (h0 : 0 < n) : Calls Try.prog 53 #[v, .func (.func 57) #[] #[]] w fun e w' => e = .returned (.tuple #[]) ∧ ∃ l', Hid (l'.Perm l ∧ l'.Pairwise fun a b => ¬ lexC b a = true) ∧ Hid (ownsAt w' base 24 6 v n (rowF Cap.cells l')) ∧ Hid (Only (fun i => some i = v.ownBlock) w w') := by
  obtain ⟨A, ca, rfl, _, _⟩ := h.shape
  obtain ⟨g, o, rfl, hb, hg, _, _⟩ := h.at_ rfl h0
  have eg : ∀ args w, (callFunc 57 args).run Try.prog w = .ok (.enter 57 args) w := fun args w => enterOf Try.func57 (by kernel_rfl) (by kernel_rfl) _ _
  have hc : CmpLays Try.prog 57 #[] Cap.cells 6 cf2 g (o * 6) l.toArray.size w := fun _ _ _ _ x y => cless2_ x.tag x.base x.top x.at_ x.perms x.type y.tag y.base y.top y.at_ y.perms y.type _
  have hcon := AnyQ.slices_SortFunc Try.sortCap 6 Try.isAgg24 Try.sizeOf24 Cap.cells (fun _ => rfl) cap_one cf2 swo2 57 #[] g (o * 6) ca l.toArray w eg hc (holdsK_own cap_len h hl) hg (by simp [hl]; omega)
  change Calls Try.prog 53 _ _ _ at hcon
  rw [show l.toArray.size = n by simpa using hl] at hcon
  refine hcon.mono ?_
  rintro e w' ⟨rfl, d', m, os, hp, hs, rfl⟩
  obtain ⟨hp1, hp2⟩ := perm_of (d := l.toArray) (by rw [show l.toArray.size = n by simpa using hl]; exact hp)
  have hd : d'.size = n := by rw [hp2]; simpa using hl
  refine ⟨rfl, d'.toList, hid ⟨by simpa using hp1, (sorted_of hd hs).imp fun hh ho => ?_⟩, hid (own_sorted cap_len h d' hd m os), hid ((sort_only Cap.cells 6 w g (o * 6) m d' os).wider fun i hi => by rw [hi]; rfl)⟩
  exact of_decide_eq_false hh (cf2_neg.2 ho)

end Go.Proofs.Ytlapemeoffpmgaa
