/- Layer 6: greatest. -/
import Derived.Test.YtlapemeoffpmgaaCloL
import Derived.Test.YtlapemeoffpmgaaCloC
import Derived.Shelf.SlSortCmp.NoneTotal
namespace Go.Proofs.Ytlapemeoffpmgaa
set_option linter.unusedSimpArgs false
set_option linter.unusedVariables false
open Go.RowKit Go.Shelf Go.Lib Go.Sort

theorem csort0_ (p : Option Addr) (cap : Nat) (fv : Value) (w : World) : Calls Try.prog 53 #[.slice p 0 cap, fv] w fun e w' => e = .returned (.tuple #[]) ∧ w' = w := AnyF.slices_SortFunc_none Try.sortCap p cap fv w
theorem csort1z_ (base n : Nat) (v : Value) (l : List Cap) (w : World) (h : ownsAt w base 24 6 v n (rowF Cap.cells l)) (hl : l.length = n) (hn : n ≤ 1000000000) : Calls Try.prog 53 #[v, .func (.func 54) #[] #[]] w fun e w' => e = .returned (.tuple #[]) ∧ ∃ l', Hid (l'.Perm l ∧ l'.Pairwise fun a b => ¬ ord1 b a = true) ∧ Hid (ownsAt w' base 24 6 v n (rowF Cap.cells l')) ∧ Hid (Only (fun i => some i = v.ownBlock) w w') := by
  rcases Nat.eq_zero_or_pos n with h0 | h0
  · subst h0
    obtain rfl := List.eq_nil_of_length_eq_zero hl
    obtain ⟨A, ca, rfl, _, _⟩ := h.shape
    refine (csort0_ A ca _ w).mono ?_
    rintro e w' ⟨rfl, rfl⟩
    exact ⟨rfl, [], hid ⟨List.Perm.refl _, List.Pairwise.nil⟩, hid h, hid (Only.refl _ _)⟩
  · exact csort1_ base n v l w h hl hn h0
theorem csort2z_ (base n : Nat) (v : Value) (l : List Cap) (w : World) (h : ownsAt w base 24 6 v n (rowF Cap.cells l)) (hl : l.length = n) (hn : n ≤ 1000000000) : Calls Try.prog 53 #[v, .func (.func 57) #[] #[]] w fun e w' => e = .returned (.tuple #[]) ∧ ∃ l', Hid (l'.Perm l ∧ l'.Pairwise fun a b => ¬ lexC b a = true) ∧ Hid (ownsAt w' base 24 6 v n (rowF Cap.cells l')) ∧ Hid (Only (fun i => some i = v.ownBlock) w w') := by
  rcases Nat.eq_zero_or_pos n with h0 | h0
  · subst h0
    obtain rfl := List.eq_nil_of_length_eq_zero hl
    obtain ⟨A, ca, rfl, _, _⟩ := h.shape
    refine (csort0_ A ca _ w).mono ?_
    rintro e w' ⟨rfl, rfl⟩
    exact ⟨rfl, [], hid ⟨List.Perm.refl _, List.Pairwise.nil⟩, hid h, hid (Only.refl _ _)⟩
  · exact csort2_ base n v l w h hl hn h0
theorem ownsAt.weak {w : World} {base base' : Nat} {e : TypeId} {size : Nat} {v : Value} {n : Nat} {xs : List Value} (h : ownsAt w base e size v n xs) (hb : base' ≤ base) : ownsAt w base' e size v n xs := by
  refine ⟨h.1, ?_⟩
  rcases h.2 with h0 | ⟨g, o, cap, cur, hv, hg, r⟩
  · exact .inl h0
  · exact .inr ⟨g, o, cap, cur, hv, Nat.le_trans hb hg, r⟩
theorem keepC_snoc (l : List Cap) (c : Cap) : keepC [] (l ++ [c]) = if (keepC [] l).any (underC c) then keepC [] l else keepC [] l ++ [c] := by
  unfold keepC
  rw [List.foldl_append]
  rfl
theorem keepC_len : ∀ (l acc : List Cap), (keepC acc l).length ≤ acc.length + l.length
  | [], acc => Nat.le_refl _
  | c :: l, acc => by
    rw [keepC_cons]
    refine Nat.le_trans (keepC_len l _) ?_
    split
    · simp only [List.length_cons]; omega
    · simp only [List.length_append, List.length_cons, List.length_nil]; omega
set_option maxRecDepth 100000 in
set_option maxHeartbeats 4000000 in
theorem greatest_ (base n : Nat) (v : Value) (l : List Cap) (w : World) (h : ownsAt w base 24 6 v n (rowF Cap.cells l)) (hl : l.length = n) (hn : n ≤ 1000000) (hN : ∀ x ∈ l, NrmC x) : Calls Try.prog 26 #[v] w fun e w' => ∃ A c out m, e = .returned (.slice A m c) ∧ out.length = m ∧ Hid (m ≤ n) ∧ Hid (GrtL (fun x => x ∈ l) out) ∧ Hid (ownsAt w' w.heap.size 24 6 (.slice A m c) m (rowF Cap.cells out)) ∧ Hid (Only (fun i => some i = v.ownBlock) w w') := by
  have HH := hid h
  have HNR := hid hN
  obtain ⟨A0, c0, rfl, _, _⟩ := h.shape
  clear h hN
  go_enter Try.func26, Try.ntmps26
  go_wp2_with fail
  refine (csort1z_ base n _ l w HH.out hl (by omega)).mono ?_
  rintro e W1 ⟨rfl, ls, HP, HR, HO1⟩
  have hls : ls.length = n := by rw [HP.out.1.length_eq]; exact hl
  have HLS := hid hls
  have HA := hid (HR.out.rdF hls)
  subst hls
  clear HH
  go_wp2
  go_loopw [3, 10] (fun g i wr => ∃ k : Nat, k ≤ ls.length ∧ i = .int .i64 k ∧ Hid (ownsAt wr W1.heap.size 24 6 g (keepC [] (ls.take k)).length (rowF Cap.cells (keepC [] (ls.take k)))) ∧ Hid (Ext W1 wr)) (fun _ i _ => ls.length - (intOf i).toNat)
  case atStart => exact ⟨0, Nat.zero_le _, rfl, hid (ownsAt_nil _ _ _ _), hid (Ext.refl _)⟩
  case round =>
    obtain ⟨k, hk, rfl, HO, HX⟩ := hrel
    obtain ⟨A, ca, rfl, _, _⟩ := HO.out.shape
    have hkl := keepC_len (ls.take k) []
    rw [List.length_take, List.length_nil] at hkl
    by_cases hlt : k < ls.length
    · have hk1 : (k : Int) < (ls.length : Int) := by omega
      have hk0 : (0 : Int) ≤ (k : Int) := by omega
      obtain ⟨d, hd⟩ : ∃ d, ls[k] = d := ⟨_, rfl⟩
      have HT : Hid (keepC [] (ls.take (k + 1)) = if (keepC [] (ls.take k)).any (underC d) then keepC [] (ls.take k) else keepC [] (ls.take k) ++ [d]) := hid (by rw [List.take_succ_eq_append_getElem hlt, hd, keepC_snoc])
      obtain ⟨b', o', rfl, hb1, q0, q1, q2, q3, q4, q5⟩ := (HA.out.ext HX.out).cap hlt d hd
      clear hd
      have HU : Hid (∀ W, Ext wr W → Calls Try.prog 30 #[.agg #[.bool d.tag, .int .i64 d.base, .int .i64 d.top, .int .i64 d.at_, .int .i64 d.perms, .int .i64 d.type], .slice A (keepC [] (ls.take k)).length ca] W fun e w' => e = .returned (.bool ((keepC [] (ls.take k)).any (underC d))) ∧ Ext W w') := hid (fun W hx => cunder_ d.tag d.base d.top d.at_ d.perms d.type A _ ca _ W ((HO.out.ext hx).rdF rfl) rfl (by omega))
      go_wp2_with fail
      refine (HU.out _ (by repeat (first | (with_reducible exact Ext.refl _) | (with_reducible refine Ext.undrew ?_) | (with_reducible refine Ext.grow ?_ _) | (with_reducible refine Ext.drew ?_) | (with_reducible refine Ext.drewN ?_ _) | (with_reducible refine Ext.alloc ?_ _) | (with_reducible assumption) | ((with_reducible refine Ext.setCell ?_ ?_ _); rotate_left; (first | exact Nat.le_refl _ | ((try dsimp only); (try simp only [World.size_alloc, grow_size, World.size_setCell]); omega)))))).mono ?_; rintro e W2 ⟨he, hy⟩
      obtain ⟨g0, g1, g2, g3, g4, g5, g6⟩ := Row.six (c := d) ((Row.new wr #[.bool d.tag, .int .i64 d.base, .int .i64 d.top, .int .i64 d.at_, .int .i64 d.perms, .int .i64 d.type] 24).ext hy)
      have HY : Hid (Ext wr W2) := hid (((Ext.refl _).alloc _).trans hy)
      clear hy
      cases hu : (keepC [] (ls.take k)).any (underC d) with
      | true =>
        rw [hu] at he HT
        subst he
        clear hu
        rw [if_pos rfl] at HT
        go_wp2
        go_roundw
        case rel => exact ⟨k + 1, by omega, by go_num, by rw [HT.out]; exact hid (HO.out.ext HY.out), hid (HX.out.trans HY.out)⟩
        case measure => simp [intOf]; omega
      | false =>
        rw [hu] at he HT
        subst he
        clear hu
        rw [if_neg (by decide)] at HT
        go_wp2_with (at_builtin; refine wpList_plain rfl fun K hK => ?_; refine wp_app_row cap_len (by decide) cap_one Try.underlying22 info_capN _ _ rfl W1.heap.size (.slice A (keepC [] (ls.take k)).length ca) (keepC [] (ls.take k)).length (rowF Cap.cells (keepC [] (ls.take k))) rfl (HO.out.ext (HY.out.trans (Ext.alloc (Ext.refl _) _))) (some ⟨W2.heap.size, 0, none⟩) 1 1 [d] rfl rfl (rdF_row0 (f := Cap.cells) (z := d) (Row.new W2 #[.bool d.tag, .int .i64 d.base, .int .i64 d.top, .int .i64 d.at_, .int .i64 d.perms, .int .i64 d.type] _)) (by unfold maxLen; omega) (by omega) (by have := HY.out.size; have := HX.out.size; simp at *; omega) ?_; intro v7 W7 hown hgrow hat; obtain ⟨A7, c7, rfl, _, _⟩ := hown.shape; refine hK _ _ ?_; clear hK K)
        have HO5 : Hid (ownsAt W7 W1.heap.size 24 6 (.slice A7 ((keepC [] (ls.take k)).length + 1) c7) (keepC [] (ls.take (k + 1))).length (rowF Cap.cells (keepC [] (ls.take (k + 1))))) := hid (by
          rw [HT.out, rowF_append, List.length_append]
          exact hown)
        have HE5 : Hid (Ext W1 W7) := hid (Ext.only ((HX.out.trans HY.out).trans (Ext.alloc (Ext.refl _) _)) (grownOnly (S := fun i => W1.heap.size ≤ i) hgrow (fun g e => (HO.out.lt g e).1)) (fun i hi => hi))
        clear hown hgrow hat
        go_roundw
        case rel => exact ⟨k + 1, by omega, by go_num, HO5, HE5⟩
        case measure => simp [intOf]; omega
    · obtain rfl : k = ls.length := by omega
      have hk1 : ¬ (ls.length : Int) < (ls.length : Int) := by omega
      rw [List.take_length] at HO hkl
      go_wp2_with fail
      refine (csort2z_ W1.heap.size _ _ (keepC [] ls) wr HO.out rfl (by omega)).mono ?_
      rintro e W3 ⟨rfl, out, HP3, HR3, HO3⟩
      have hm : out.length = (keepC [] ls).length := HP3.out.1.length_eq
      have HG : Hid (GrtL (fun x => x ∈ l) out) := hid ((keep_grt (l := ls) (fun x hx => HNR.out x (HP.out.1.mem_iff.1 hx)) HP.out.2 HP3.out.1 HP3.out.2).congr fun x => HP.out.1.mem_iff)
      have hfin : Only (fun i => some i = (Value.slice A0 ls.length c0).ownBlock) w W3 := (HO1.out.trans (Only.ofExt (S := fun i => some i = (Value.slice A0 ls.length c0).ownBlock) HX.out) (fun i hi => .inl hi)).trans HO3.out (fun i hi => .inr (Nat.le_trans HO1.out.size (HO.out.lt i hi.symm).1))
      have HF := hid hfin
      clear hfin
      go_wp2
      go_ret
      exact ⟨A, ⟨ca, out, _, rfl, hm, hid (by simpa using hkl), HG, hid (HR3.out.weak HO1.out.size), HF⟩⟩

end Go.Proofs.Ytlapemeoffpmgaa
