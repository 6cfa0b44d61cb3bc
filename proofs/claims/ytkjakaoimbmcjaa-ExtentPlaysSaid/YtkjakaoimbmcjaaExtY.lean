/- Layer 12: what is held, as runs; append of any row. -/
import Derived.Test.YtkjakaoimbmcjaaExtX
import Derived.Deep.Upon
namespace Go.Proofs.Ytkjakaoimbmcjaa
set_option linter.unusedSimpArgs false
set_option linter.unusedVariables false
open Go.RowKit

theorem and4095 (x : Int) : 0 ≤ bits .and .i64 x 4095 ∧ bits .and .i64 x 4095 ≤ 4095 := by
  have h : bits .and .i64 x 4095 = IntKind.i64.wrap ((BitVec.ofInt 64 x &&& BitVec.ofInt 64 4095).toNat : Int) := rfl
  rw [h, BitVec.toNat_and]
  have h2 : (BitVec.ofInt 64 4095).toNat = 4095 := by decide
  rw [h2]
  have h3 : (BitVec.ofInt 64 x).toNat &&& 4095 ≤ 4095 := Nat.and_le_right
  generalize (BitVec.ofInt 64 x).toNat &&& 4095 = y at h3
  rw [IntKind.wrap_i64]
  omega
/-- What was taken, and kept, as runs. -/
structure OA (fr to : Int) (l m : List Pr) : Prop where
  g : G16 l
  held : Held fr to l m
  sum : sumP l + sumP m = to - fr
theorem OA.start {fr to : Int} {l : List Pr} (h : G16 l) (hs : sumP l = to - fr) : OA fr to l [] := ⟨h, Held.nil _ _ _, by rw [sumP_nil, hs]; omega⟩
section
variable {fr to n xa : Int} {l l2 m : List Pr}
theorem OA.add (hi : OA fr to l m) (hG : Good fr to l) (ht : takeF n l = ((xa, true), l2)) : OA fr to l2 (m ++ [Pr.mk xa (xa + n)]) := by
  have H := takeF_yesT hG hi.g (by rw [ht])
  rw [ht] at H
  obtain ⟨h1, h2, h3, h4, h5, h6, h7, h8, _, hs⟩ := H
  refine ⟨h8, hi.held.add ⟨h3, g16_add h3 h2, h4, ?_, h5⟩ (fun z hz => h6 z hz.1 hz.2) (fun z => h7 z), ?_⟩
  · show xa < xa + n; omega
  · rw [sumP_append, sumP_cons, sumP_nil, hs]
    have := hi.sum
    unfold Pr.len
    simp only
    omega
theorem OA.fits (hi : OA fr to l m) (hG : Good fr to l) (ht : takeF n l = ((xa, true), l2)) : 1 ≤ n ∧ fr ≤ xa ∧ xa + n ≤ to := by
  have H := takeF_yesT hG hi.g (by rw [ht])
  rw [ht] at H
  exact ⟨H.1, H.2.2.2.1, H.2.2.2.2.1⟩
theorem OA.can (hi : OA fr to l m) (hG : Good fr to l) {k : Nat} (hk : k < m.length) : giveC fr to (m[k]).lo ((m[k]).hi - (m[k]).lo) l := by
  have ok := hi.held.ok _ (List.getElem_mem hk)
  have fre := hi.held.free _ (List.getElem_mem hk)
  refine giveC_of hG ok.1 (g16_sub ok.2.1 ok.1) (by omega) ok.2.2.1 (by omega) fun y h1 h2 => fre y ⟨h1, by omega⟩
theorem OA.give (hi : OA fr to l m) (hG : Good fr to l) {k : Nat} (hk : k < m.length) : OA fr to (giveL l (kOf (m[k]).lo l) ⟨(m[k]).lo, (m[k]).lo + ((m[k]).hi - (m[k]).lo)⟩) (m.eraseIdx k) := by
  have hc := hi.can hG hk
  obtain ⟨g1, g2, g3⟩ := giveC_good hG hc
  have ok := hi.held.ok _ (List.getElem_mem hk)
  have hs : m = m.take k ++ m[k] :: m.drop (k + 1) := by rw [← List.drop_eq_getElem_cons hk, List.take_append_drop]
  have her : m.eraseIdx k = m.take k ++ m.drop (k + 1) := List.eraseIdx_eq_take_drop_succ _ _
  have he : (m[k]).lo + ((m[k]).hi - (m[k]).lo) = (m[k]).hi := by omega
  rw [he] at g2 g3 ⊢
  refine ⟨hi.g.give _ _ ⟨ok.1, ok.2.1⟩, ⟨fun x hx => hi.held.ok x (List.mem_of_mem_eraseIdx hx), hi.held.each.sublist (List.eraseIdx_sublist _ _), fun x hx z hz hc => ?_⟩, ?_⟩
  · rcases (g2 z).1 hc with c | c
    · exact hi.held.free x (List.mem_of_mem_eraseIdx hx) z hz c
    · have hp := hi.held.each
      rw [hs] at hp
      rw [her] at hx
      obtain ⟨p1, p2, p3⟩ := List.pairwise_append.1 hp
      obtain ⟨p4, p5⟩ := List.pairwise_cons.1 p2
      rcases List.mem_append.1 hx with hx | hx
      · exact p3 x hx _ List.mem_cons_self z hz c
      · exact p4 x hx z c hz
  · have h1 : sumP m = sumP (m.take k) + ((m[k]).len + sumP (m.drop (k + 1))) := by
      rw [← sumP_cons, ← sumP_append, ← hs]
    have h2 := hi.sum
    rw [g3, her, sumP_append]
    unfold Pr.len at h1
    omega
theorem OA.bd (hi : OA fr to l m) (hG : Good fr to l) : ∀ x ∈ m ++ l, fr ≤ x.lo ∧ x.lo < x.hi ∧ x.hi ≤ to := fun x hx => by
  rcases List.mem_append.1 hx with hx | hx
  · exact (hi.held.ok x hx).2.2
  · exact hG.2 x hx
theorem OA.dis (hi : OA fr to l m) (hG : Good fr to l) : (m ++ l).Pairwise (fun x y => ¬ (x.lo < y.hi ∧ y.lo < x.hi)) := by
  have hb := hi.bd hG
  refine List.pairwise_append.2 ⟨?_, ?_, fun x hx y hy hc => ?_⟩
  · refine hi.held.each.imp_of_mem fun {a b} ha hb' hab hc => ?_
    have h1 := hb a (List.mem_append_left _ ha)
    have h2 := hb b (List.mem_append_left _ hb')
    rcases Int.lt_or_le a.lo b.lo with c | c
    · exact hab b.lo (by unfold inP; omega) (by unfold inP; omega)
    · exact hab a.lo (by unfold inP; omega) (by unfold inP; omega)
  · exact hG.1.imp fun {a b} hab => by omega
  · have h1 := hb x (List.mem_append_left _ hx)
    have h2 := hb y (List.mem_append_right _ hy)
    rcases Int.lt_or_le x.lo y.lo with c | c
    · exact hi.held.free x hx y.lo (by unfold inP; omega) ⟨y, hy, by unfold inP; omega⟩
    · exact hi.held.free x hx x.lo (by unfold inP; omega) ⟨y, hy, by unfold inP; omega⟩
end
theorem sumP_le {fr to : Int} {l m : List Pr} (h : OA fr to l m) (hG : Good fr to l) (j : Nat) : 0 ≤ sumP l ∧ 0 ≤ sumP (m.take j) ∧ sumP l + sumP (m.take j) ≤ to - fr := by
  have hs := h.sum
  have pos : ∀ k : List Pr, (∀ x ∈ k, x.lo < x.hi) → 0 ≤ sumP k := by
    intro k
    induction k with
    | nil => intro _; exact Int.le_refl _
    | cons a k ih =>
      intro hk
      have h1 := hk a List.mem_cons_self
      have h2 := ih fun x hx => hk x (List.mem_cons_of_mem _ hx)
      rw [sumP_cons]
      unfold Pr.len
      omega
  have e : sumP m = sumP (m.take j) + sumP (m.drop j) := by rw [← sumP_append, List.take_append_drop]
  have h1 := pos l fun x hx => (hG.2 x hx).2.1
  have h2 := pos (m.take j) fun x hx => (h.held.ok x (List.mem_of_mem_take hx)).2.2.2.1
  have h3 := pos (m.drop j) fun x hx => (h.held.ok x (List.mem_of_mem_drop hx)).2.2.2.1
  omega
theorem ownsAt.low {w : World} {base base' : Nat} {e : TypeId} {size n : Nat} {v : Value} {xs : List Value} (h : ownsAt w base e size v n xs) (hb : base' ≤ base) : ownsAt w base' e size v n xs := by
  refine ⟨h.1, ?_⟩
  rcases h.2 with c | ⟨g, o, cap, cur, c1, c2, r⟩
  · exact .inl c
  · exact .inr ⟨g, o, cap, cur, c1, Nat.le_trans hb c2, r⟩
theorem RdP.nil (w : World) (A : Option Addr) : RdP w A [] := fun h => absurd h (Nat.lt_irrefl _)
theorem RdP.take {w : World} {A : Option Addr} {l : List Pr} (h : RdP w A l) (k : Nat) : RdP w A (l.take k) := fun h0 => by
  obtain ⟨b, o, hA, hb, hc⟩ := h (by rw [List.length_take] at h0; omega)
  refine ⟨b, o, hA, hb, fun j u hj => hc j u ?_⟩
  rw [← prList_take, List.getElem?_take] at hj
  split at hj
  · exact hj
  · cases hj
theorem RdP.drop {w : World} {g o : Nat} {l : List Pr} (h : RdP w (some ⟨g, o, none⟩) l) (k : Nat) : RdP w (some ⟨g, o + k * 2, none⟩) (l.drop k) := fun h0 => by
  obtain ⟨b, o', hA, hb, hc⟩ := h (by rw [List.length_drop] at h0; omega)
  obtain ⟨rfl, rfl⟩ : g = b ∧ o = o' := by simpa using hA
  refine ⟨g, o + k * 2, rfl, hb, fun j u hj => ?_⟩
  rw [← prList_drop, List.getElem?_drop] at hj
  have := hc (k * 2 + j) u hj
  rwa [← Nat.add_assoc] at this
theorem FH.renew {w0 W w' : World} {q base : Nat} {fr to : Int} {v : Value} {l : List Pr} {bh : Nat} {vh vh' : Value} {m m' : List Pr} (h : FH w0 W q base fr to v l bh vh m) (x : Ext W w') (ho : ownsAt w' W.heap.size 38 2 vh' m'.length (prList m')) : FH w0 w' q base fr to v l bh vh' m' :=
  ⟨h.hf.ext x, ho.low h.bs, fun g hg => by
    have h1 := (ho.lt g hg).1
    exact ⟨by have := h.hf.qlt; omega, fun e => by have := (h.hf.own g e).2; omega⟩, h.bb, Nat.le_trans h.bs x.size⟩
theorem wp_app_any {o : Oper} {a : Act} {w : World} {K : Act → World → Prop} {Q : Exit → Act → World → Prop} (s x : Operand)
    (ho : o.op = .call { callee := .builtin .append, args := #[s, x], argTypes := #[35, 35] })
    (bh : Nat) (v : Value) (n : Nat) (l : List Pr) (hs : a.eval s = v) (hown : ownsAt w bh 38 2 v n (prList l))
    (A : Option Addr) (k c : Nat) (lm : List Pr) (hx : a.eval x = .slice A k c) (hk : lm.length = k) (hr : RdP w A lm)
    (h63 : n + k ≤ 1000000) (hbase : bh ≤ w.heap.size)
    (h : ∀ v' w', ownsAt w' bh 38 2 v' (n + k) (prList (l ++ lm)) → w.grownBy w' v.ownBlock → (v'.ownBlock = v.ownBlock ∨ ∃ g, v'.ownBlock = some g ∧ w.heap.size ≤ g) → K (a.put o.dst v') w') : o.wp Try.prog a w K Q := by
  obtain ⟨i0, z0, hi0, hz0, hz1, hz2, hz3, _⟩ := pr_info
  subst hk
  rcases Nat.eq_zero_or_pos lm.length with h0 | h0
  · have hl0 : lm = [] := List.eq_nil_of_length_eq_zero h0
    subst hl0
    obtain ⟨A', c', rfl, hc', _⟩ := hown.shape
    have hsrc : Src Try.prog i0.size 35 (.slice A 0 c) 0 [] w := by
      rcases A with _ | ad
      · exact Src.ofNil w Try.underlying35 c
      · exact Src.ofSlice w Try.underlying35 ad 0 c [] (by simp) (fun j u hj => by simp at hj) (fun _ h => nomatch h)
    have hrun := run_append_nothing (P := Try.prog) w 35 35 o.type 38 i0 Try.underlying35 hi0 A' n c' hc' (.slice A 0 c) hsrc
    unfold Oper.wp execOp
    simp only [ho, resolve, invoke, builtin, Sem.run_bind, Sem.run_pure, Result.andThen_ok, List.map_toArray, List.map_cons, List.map_nil, hs, hx, List.length_nil, hrun]
    exact h _ w (by rw [List.append_nil]; exact hown) ⟨rfl, rfl, rfl, Nat.le_refl _, fun _ _ _ => rfl⟩ (.inl rfl)
  · obtain ⟨b, off, rfl, hb, hc⟩ := hr h0
    refine wp_append_at w s x 35 ho bh 38 i0 z0 2 16 Try.underlying35 hi0 hz0 hz2 hz3 hz1 (by decide) v n (prList l) hs hown ⟨b, off, none⟩ lm.length c (prList lm) hx (prList_length lm) (fun j u hj => by rw [Addr.add_lit]; exact hc j u hj) (prs_one lm) (by unfold maxLen; omega) (by omega) hbase h0 ?_
    intro v' w' h1 h2 h3
    exact h v' w' (by rw [prList_append]; exact h1) h2 h3
theorem yNew2 (fr to : Int) (w : World) (h0 : 0 ≤ fr) (h1 : fr ≤ to) (h2 : to ≤ 16777216) (g0 : g16 fr = true) (g1 : g16 to = true) : Calls Try.prog 9 #[.int .i64 fr, .int .i64 to] w fun e w' => ∃ q v l, e = .returned (.pointer (some ⟨q, 0, none⟩)) ∧ Hid (EG w w' q w.heap.size fr to v l) ∧ Hid (G16 l ∧ sumP l = to - fr) := by
  rcases Int.lt_or_le fr to with c | c
  · refine (yNew fr to w h0 c h2 g0 g1).mono ?_
    rintro e w' ⟨q, v, rfl, h⟩
    exact ⟨q, v, _, rfl, h, hid ⟨g16_ends g0 g1, by rw [sumP_cons, sumP_nil]; unfold Pr.len; simp only; omega⟩⟩
  · obtain rfl : fr = to := by omega
    refine (enew0_ fr fr w (g16_two g0 g1) h0 rfl h2).mono ?_
    rintro e w' ⟨q, rfl, _, hx, hF⟩
    exact ⟨q, _, [], rfl, hid ⟨⟨hF, hx, Nat.le_refl _⟩, Good.nil _ _, h0, h2⟩, hid ⟨(fun p hp => nomatch hp), by rw [sumP_nil]; omega⟩⟩

end Go.Proofs.Ytkjakaoimbmcjaa
