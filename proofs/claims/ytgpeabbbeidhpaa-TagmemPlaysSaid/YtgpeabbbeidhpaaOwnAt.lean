/- A slice of one's own that may begin anywhere in its row. -/
import Derived.Test.YtgpeabbbeidhpaaH
import Derived.Deep.AppendSrc
import Derived.Deep.AppendLies
import Derived.Maps.AppendAt
import Derived.Deep.MidRow
namespace Go.Proofs.Ytgpeabbbeidhpaa
set_option linter.unusedSimpArgs false
set_option linter.unusedVariables false
open Go.RowKit

/-- What a slice of one's own holds, wherever in its row it begins. -/
def ownsAt (w : World) (base : Nat) (e : TypeId) (size : Nat) (v : Value) (n : Nat) (xs : List Value) : Prop :=
  xs.length = n * size ∧
  ((v = .slice none 0 0 ∧ n = 0) ∨
   ∃ g o cap cur, v = .slice (some ⟨g, o * size, none⟩) n cap ∧ base ≤ g ∧ w.heap[g]? = some (.cells cur e (0, 0)) ∧ n ≤ cap ∧ o + cap ≤ maxLen ∧ (cap = 0 ∨ cur.size = (o + cap) * size) ∧ (cur.toList.drop (o * size)).take (n * size) = xs)
section
variable {w : World} {base : Nat} {e : TypeId} {size : Nat} {v : Value} {n : Nat} {xs : List Value}
theorem ownsAt_nil (w : World) (base : Nat) (e : TypeId) (size : Nat) : ownsAt w base e size (.slice none 0 0) 0 [] := ⟨by simp, .inl ⟨rfl, rfl⟩⟩
theorem ownsAt_of (h : w.ownsRow base e size v n xs) : ownsAt w base e size v n xs := by
  refine ⟨h.1, ?_⟩
  rcases h.2 with h0 | ⟨g, cap, cur, rfl, hb, hg, hn, hm, hs, ht⟩
  · exact .inl h0
  · exact .inr ⟨g, 0, cap, cur, by simp, hb, hg, hn, by simpa using hm, .inr (by simpa using hs), by simpa using ht⟩
theorem ownsAt.lt (h : ownsAt w base e size v n xs) : ∀ k, v.ownBlock = some k → base ≤ k ∧ k < w.heap.size := by
  intro k hk
  rcases h.2 with ⟨rfl, _⟩ | ⟨g, o, cap, cur, rfl, hb, hg, _⟩
  · cases hk
  · obtain rfl : g = k := by simpa [Value.ownBlock] using hk
    exact ⟨hb, (Array.getElem?_eq_some_iff.1 hg).1⟩
theorem ownsAt.only {S : Nat → Prop} {w' : World} (h : ownsAt w base e size v n xs) (x : Only S w w') (hn : ∀ g, v.ownBlock = some g → ¬ S g) : ownsAt w' base e size v n xs := by
  refine ⟨h.1, ?_⟩
  rcases h.2 with h0 | ⟨g, o, cap, cur, rfl, hb, hg, r⟩
  · exact .inl h0
  · exact .inr ⟨g, o, cap, cur, rfl, hb, by rw [x.block g (Array.getElem?_eq_some_iff.1 hg).1 (hn g rfl)]; exact hg, r⟩
theorem ownsAt.ext {w' : World} (h : ownsAt w base e size v n xs) (x : Ext w w') : ownsAt w' base e size v n xs := h.only (Only.ofExt (S := fun _ => False) x) (fun _ _ => id)
/-- Its shape. -/
theorem ownsAt.shape (h : ownsAt w base e size v n xs) : ∃ A c, v = .slice A n c ∧ n ≤ c ∧ (A = none → c = 0) := by
  rcases h.2 with ⟨rfl, rfl⟩ | ⟨g, o, cap, cur, rfl, hb, hg, hn, _⟩
  · exact ⟨none, 0, rfl, Nat.le_refl _, fun _ => rfl⟩
  · exact ⟨_, cap, rfl, hn, fun h => by cases h⟩
/-- What lies in it. -/
theorem ownsAt.at_ (h : ownsAt w base e size v n xs) {A : Option Addr} {c : Nat} (hv : v = .slice A n c) (h0 : 0 < n) : ∃ g o, A = some ⟨g, o * size, none⟩ ∧ base ≤ g ∧ g < w.heap.size ∧ (∀ j u, xs[j]? = some u → w.cell? ⟨g, o * size + j, none⟩ = some u) ∧ ∀ j, w.frozen? ⟨g, j, none⟩ = false := by
  rcases h.2 with ⟨_, h1⟩ | ⟨g, o, cap, cur, hv2, hb, hg, hn, _, hs, ht⟩
  · omega
  · rw [hv] at hv2
    simp only [Value.slice.injEq] at hv2
    obtain ⟨rfl, _, rfl⟩ := hv2
    refine ⟨g, o, rfl, hb, (Array.getElem?_eq_some_iff.1 hg).1, fun j u hj => ?_, fun j => by simp [World.frozen?, hg]⟩
    have hlt := (List.getElem?_eq_some_iff.1 hj).1
    rw [h.1] at hlt
    rw [cell_of_row w g _ cur e (0, 0) hg]
    rw [← ht, List.getElem?_take, if_pos hlt, List.getElem?_drop] at hj
    simpa using hj
/-- The first ones left out. -/
theorem ownsAt.drop (h : ownsAt w base e size v n xs) {A : Option Addr} {c : Nat} (hv : v = .slice A n c) {k : Nat} (hk : k ≤ n) :
    ∃ A', (∀ g o, A = some ⟨g, o, none⟩ → A' = some ⟨g, o + k * size, none⟩) ∧ (A = none → A' = none) ∧ ownsAt w base e size (.slice A' (n - k) (c - k)) (n - k) (xs.drop (k * size)) := by
  rcases h.2 with ⟨h1, h2⟩ | ⟨g, o, cap, cur, hv2, hb, hg, hn, hm, hs, ht⟩
  · rw [hv] at h1
    simp only [Value.slice.injEq] at h1
    obtain ⟨rfl, _, rfl⟩ := h1
    subst h2
    obtain rfl : k = 0 := by omega
    exact ⟨none, (fun _ _ h => by cases h), (fun _ => rfl), by simpa using h.1, .inl ⟨rfl, rfl⟩⟩
  · rw [hv] at hv2
    simp only [Value.slice.injEq] at hv2
    obtain ⟨rfl, _, rfl⟩ := hv2
    have e1 : (o + k) * size = o * size + k * size := Nat.add_mul _ _ _
    refine ⟨some ⟨g, (o + k) * size, none⟩, (fun g' o' h => by cases h; rw [e1]), (fun h => by cases h), by rw [List.length_drop, h.1, Nat.sub_mul], .inr ⟨g, o + k, c - k, cur, rfl, hb, hg, by omega, by omega, hs.imp (fun h => by omega) (fun hs => by rw [hs, show o + k + (c - k) = o + c by omega]), ?_⟩⟩
    rw [← ht, List.drop_take, List.drop_drop, e1, Nat.sub_mul]
end
/-- Nothing of it is left, and there is no room. -/
theorem ownsAt.shut {w : World} {base : Nat} {e : TypeId} {size n c : Nat} {A : Option Addr} {xs : List Value} (h : ownsAt w base e size (.slice A n c) n xs) : ownsAt w base e size (.slice A 0 0) 0 [] := by
  refine ⟨by simp, ?_⟩
  rcases h.2 with ⟨h1, h2⟩ | ⟨g, o, cap, cur, hv2, hb, hg, hn, hm, hs, ht⟩
  · simp only [Value.slice.injEq] at h1
    obtain ⟨rfl, _, _⟩ := h1
    exact .inl ⟨rfl, rfl⟩
  · simp only [Value.slice.injEq] at hv2
    obtain ⟨rfl, _, rfl⟩ := hv2
    exact .inr ⟨g, o, 0, cur, rfl, hb, hg, Nat.le_refl _, by omega, .inl rfl, by simp⟩
theorem setCells_row {g : Nat} {e : TypeId} : ∀ (vs : List Value) (o : Nat) (w : World) (cur : Array Value), w.heap[g]? = some (.cells cur e (0, 0)) →
    ∃ ys : Array Value, (w.setCells g o vs).heap[g]? = some (.cells ys e (0, 0)) ∧ ys.size = cur.size ∧ ∀ j, ys.toList[j]? = if o ≤ j ∧ j < o + vs.length ∧ j < cur.size then vs[j - o]? else cur.toList[j]?
  | [], o, w, cur, h => ⟨cur, h, rfl, fun j => by rw [if_neg (by simp; omega)]⟩
  | v :: vs, o, w, cur, h => by
    have h1 := heap_setCell_same w g o cur e v h
    obtain ⟨ys, h2, h3, h4⟩ := setCells_row vs (o + 1) _ _ h1
    refine ⟨ys, h2, by simpa using h3, fun j => ?_⟩
    rw [h4 j]
    simp only [Array.size_setIfInBounds, List.length_cons, Array.toList_setIfInBounds]
    by_cases hj : j = o
    · subst hj
      rw [if_neg (by omega)]
      by_cases hlt : j < cur.size
      · rw [if_pos (by omega), Nat.sub_self, List.getElem?_set_self (by simpa using hlt)]
        rfl
      · rw [if_neg (by omega), List.getElem?_eq_none (by simp; omega), List.getElem?_eq_none (by simp; omega)]
    · by_cases h5 : o + 1 ≤ j ∧ j < o + 1 + vs.length ∧ j < cur.size
      · rw [if_pos h5, if_pos (by omega), show j - o = (j - (o + 1)) + 1 by omega, List.getElem?_cons_succ]
      · rw [if_neg h5, if_neg (by omega), List.getElem?_set_ne (by omega)]
theorem run_append_at {P : Program} (w : World) (base : Nat) (t ty e : TypeId) (i : TypeInfo) (z : Value) (size bytes : Nat) (ht : P.underlying t = some (.slice e)) (hi : P.info? e = some i) (hz : i.zero = some z)
    (hsize : i.size = size) (hby : i.bytes = bytes) (hzs : z.cells.size = size) (hsz : 0 < size)
    (v : Value) (n : Nat) (xs : List Value) (hown : ownsAt w base e size v n xs)
    (a : Addr) (m c : Nat) (news : List Value) (hl : news.length = m * size) (hnews : ∀ j u, news[j]? = some u → w.cell? (a.add j) = some u) (h1 : ∀ u ∈ news, u.oneCell' = true)
    (h63 : n + m ≤ maxLen) (hbytes : (n + m) * bytes ≤ 140737488355328) (hbase : base ≤ w.heap.size) (hm0 : 0 < m) :
    ∃ v' w', (Builtin.append_ #[t, t] ty #[v, .slice (some a) m c]).run P w = .ok v' w' ∧ ownsAt w' base e size v' (n + m) (xs ++ news) ∧ w.grownBy w' v.ownBlock ∧ (v'.ownBlock = v.ownBlock ∨ ∃ g, v'.ownBlock = some g ∧ w.heap.size ≤ g) := by
  rcases hown.2 with ⟨rfl, rfl⟩ | ⟨g, o, cap, cur, rfl, hbg, hg, hnc, hcm, hcs, htake⟩
  · have hx : xs = [] := List.eq_nil_of_length_eq_zero (by simpa using hown.1)
    subst hx
    obtain ⟨v', w', h2, h3, h4, _, h5⟩ := run_append_own_at (P := P) w base t ty e i z size bytes ht hi hz hsize hby hzs hsz _ 0 [] (World.ownsRow_nil w base e size) a m c news hl hnews h1 h63 hbytes hbase
    exact ⟨v', w', h2, ownsAt_of h3, h4, h5.imp_right fun h => ⟨_, h, Nat.le_refl _⟩⟩
  · subst hsize
    subst hby
    have hlen : (xs ++ news).length = (n + m) * i.size := by rw [List.length_append, hown.1, hl, Nat.add_mul]
    by_cases hroom : n + m ≤ cap
    · have hcs := hcs.resolve_left (by omega)
      have hsrc : Src P i.size t (.slice (some a) m c) m news w := Src.ofSlice w ht a m c news hl hnews h1
      have hfit : o * i.size + n * i.size + news.length ≤ cur.size := by
        rw [hcs, hl, ← Nat.add_mul, ← Nat.add_mul]
        exact Nat.mul_le_mul_right _ (by omega)
      have hr := run_append_room_src (P := P) w t t ty e i ht hi g (o * i.size) n cap (.slice (some a) m c) m news hsrc hroom
        (fun j hj => by rw [cell_of_row w g _ cur e (0, 0) hg, Array.getElem?_eq_getElem (by omega)]; rfl) (fun j hj => by simp [World.frozen?, hg])
      obtain ⟨ys, y1, y2, y3⟩ := setCells_row news (o * i.size + n * i.size) w cur hg
      have hO : Only (fun k => k = g) w (w.setCells g (o * i.size + n * i.size) news) := Only.setCells (S := fun k => k = g) (.inl rfl) _ _ (Only.refl _ _)
      refine ⟨_, _, hr, ⟨hlen, .inr ⟨g, o, cap, ys, rfl, hbg, y1, hroom, hcm, .inr (by rw [y2, hcs]), ?_⟩⟩, ⟨hO.os, hO.tape, hO.output, hO.size, fun k hk hne => hO.block k hk (fun e => hne (by simp [Value.ownBlock, e]))⟩, .inl rfl⟩
      apply List.ext_getElem?
      intro j
      have hxl := hown.1
      have e2 : (n + m) * i.size = n * i.size + m * i.size := Nat.add_mul _ _ _
      by_cases hj : j < (n + m) * i.size
      · rw [List.getElem?_take, if_pos hj, List.getElem?_drop, y3]
        by_cases hjn : j < n * i.size
        · rw [if_neg (by omega), List.getElem?_append_left (by omega), ← htake, List.getElem?_take, if_pos hjn, List.getElem?_drop]
        · rw [if_pos (by omega), List.getElem?_append_right (by omega), hxl, show o * i.size + j - (o * i.size + n * i.size) = j - n * i.size by omega]
      · rw [List.getElem?_eq_none (by simp; omega), List.getElem?_eq_none (by rw [hlen]; omega)]
    · have holds : ∀ j u, xs[j]? = some u → w.cell? ((⟨g, o * i.size, none⟩ : Addr).add j) = some u := fun j u hj => by
        have hlt := (List.getElem?_eq_some_iff.1 hj).1
        rw [hown.1] at hlt
        rw [Addr.add_lit, cell_of_row w g _ cur e (0, 0) hg]
        rw [← htake, List.getElem?_take, if_pos hlt, List.getElem?_drop] at hj
        simpa using hj
      have hr := run_append_grow (P := P) w t ty e i z ht hi hz ⟨g, o * i.size, none⟩ n cap xs hown.1 holds a m c news hl hnews (by omega) (by simp only [maxLen] at h63; omega) (growslice_fits (by omega) hbytes)
      have hge := grownCap_ge w (n + m) cap e
      have hcm2 : grownCap w (n + m) cap e ≤ maxLen := grownCap_le_maxLen w (n + m) cap e h63
      refine ⟨_, _, hr, ⟨hlen, .inr ⟨w.heap.size, 0, _, _, by simp, hbase, heap_alloc_new w.drew _, hge, by simpa using hcm2, .inr ?_, ?_⟩⟩, ⟨rfl, rfl, rfl, by simp, fun k hk _ => heap_alloc_old w.drew _ hk⟩, .inr ⟨w.heap.size, rfl, Nat.le_refl _⟩⟩
      · simp only [Array.size_append, List.size_toArray, size_zeroCells, hzs, hown.1, hl, ← Nat.add_mul]
        congr 1
        omega
      · simp only [Array.toList_append, List.append_assoc, Nat.zero_mul, List.drop_zero]
        rw [← List.append_assoc, ← hlen]
        exact List.take_left
theorem wp_append_at {P : Program} (w : World) {o : Oper} {a : Act} {K : Act → World → Prop} {Q : Exit → Act → World → Prop} (s x : Operand) (t : TypeId)
    (ho : o.op = .call { callee := .builtin .append, args := #[s, x], argTypes := #[t, t] })
    (base : Nat) (e : TypeId) (i : TypeInfo) (z : Value) (size bytes : Nat) (ht : P.underlying t = some (.slice e)) (hi : P.info? e = some i) (hz : i.zero = some z)
    (hsize : i.size = size) (hby : i.bytes = bytes) (hzs : z.cells.size = size) (hsz : 0 < size)
    (v : Value) (n : Nat) (xs : List Value) (hs : a.eval s = v) (hown : ownsAt w base e size v n xs)
    (ad : Addr) (m c : Nat) (news : List Value) (hx : a.eval x = .slice (some ad) m c) (hl : news.length = m * size) (hnews : ∀ j u, news[j]? = some u → w.cell? (ad.add j) = some u) (h1 : ∀ u ∈ news, u.oneCell' = true)
    (h63 : n + m ≤ maxLen) (hbytes : (n + m) * bytes ≤ 140737488355328) (hbase : base ≤ w.heap.size) (hm0 : 0 < m)
    (h : ∀ v' w', ownsAt w' base e size v' (n + m) (xs ++ news) → w.grownBy w' v.ownBlock → (v'.ownBlock = v.ownBlock ∨ ∃ g, v'.ownBlock = some g ∧ w.heap.size ≤ g) → K (a.put o.dst v') w') : o.wp P a w K Q := by
  obtain ⟨v', w', hr, h2, h3, h4⟩ := run_append_at (P := P) w base t o.type e i z size bytes ht hi hz hsize hby hzs hsz v n xs hown ad m c news hl hnews h1 h63 hbytes hbase hm0
  unfold Oper.wp execOp
  simp only [ho, resolve, invoke, builtin, Sem.run_bind, Sem.run_pure, Result.andThen_ok, List.map_toArray, List.map_cons, List.map_nil, hs, hx, hr]
  exact h v' w' h2 h3 h4

end Go.Proofs.Ytgpeabbbeidhpaa
