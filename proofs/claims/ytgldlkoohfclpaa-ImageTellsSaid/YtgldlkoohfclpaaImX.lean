/- Layer 17: One. -/
import Derived.Test.YtgldlkoohfclpaaImW
import Derived.Test.YtgldlkoohfclpaaImN
import Derived.Test.YtgldlkoohfclpaaImV
namespace Go.Proofs.Ytgldlkoohfclpaa
set_option linter.unusedSimpArgs false
set_option linter.unusedVariables false
open Go.RowKit

def oneV : Img := ⟨false, 2, 8, none, 0, [⟨none, 0, [1, 1, 0, 7, 0, 0, 0, 0], 1⟩, ⟨none, 0, [0, 0, 0, 0], 2⟩], none, 0, [⟨1, 0, 1⟩], none, 0, [⟨3, 1⟩]⟩
theorem ownsAt.cap_le {w : World} {base n c : Nat} {e : TypeId} {size : Nat} {A : Option Addr} {xs : List Value} (h : ownsAt w base e size (.slice A n c) n xs) : n ≤ c ∧ c ≤ maxLen := by
  rcases h.2 with ⟨h1, h2⟩ | ⟨g, o, cap, cur, h1, _, _, h4, h5, _⟩
  · simp only [Value.slice.injEq] at h1
    obtain ⟨_, _, rfl⟩ := h1
    subst h2
    exact ⟨Nat.le_refl _, by unfold maxLen; omega⟩
  · simp only [Value.slice.injEq] at h1
    obtain ⟨_, _, rfl⟩ := h1
    exact ⟨h4, by omega⟩
theorem by8 : byteL [1, 1, 0, 7, 0, 0, 0, 0] := by unfold byteL; decide
theorem by4 : byteL [0, 0, 0, 0] := by unfold byteL; decide
set_option maxRecDepth 100000 in
set_option maxHeartbeats 4000000 in
theorem one_ (w : World) : Calls Try.prog 29 #[] w fun e w' => ∃ x : Img, e = .returned (.agg #[.bool x.strict, .int .i64 x.heap, .int .i64 x.full, .slice x.C x.comps.length x.cc, .slice x.L x.links.length x.lc, .slice x.S x.shares.length x.sc]) ∧ Hid (ImgAt w' x) ∧ Hid (x.strip = oneV) ∧ Hid (Ext w w') := by
  go_enter Try.func29, Try.ntmps29
  go_upto_region 2 with (fail)
  refine wp_gen (fun V => Hid (Ext w V) ∧ Hid (Row V w.heap.size 0 [.bool false, .int .i64 0, .int .i64 0, .slice none 0 0, .slice none 0 0, .slice none 0 0]) ∧ Hid (RdF byF V (some ⟨w.heap.size + 1, 0, none⟩) [0, 0, 0, 0])) ⟨hid (by repeat (first | (with_reducible exact Ext.refl _) | (with_reducible refine Ext.undrew ?_) | (with_reducible refine Ext.grow ?_ _) | (with_reducible refine Ext.drew ?_) | (with_reducible refine Ext.drewN ?_ _) | (with_reducible refine Ext.alloc ?_ _) | (with_reducible assumption) | ((with_reducible refine Ext.setCell ?_ ?_ _); rotate_left; (first | exact Nat.le_refl _ | ((try dsimp only); (try simp only [World.size_alloc, grow_size, World.size_setCell]); omega))))), hid ((Row.new w _ _).ext ((Ext.refl _).alloc _)), hid ?_⟩ ?_
  · have h9 := Row.new (w.alloc (.cells #[.bool false, .int .i64 0, .int .i64 0, .slice none 0 0, .slice none 0 0, .slice none 0 0] 26)) #[.int .u8 0, .int .u8 0, .int .u8 0, .int .u8 0] 5
    rw [World.size_alloc] at h9
    exact RdF.row0 (zs := [0, 0, 0, 0]) h9
  rintro V ⟨HV, HG, HZ⟩
  obtain ⟨g, hg⟩ : ∃ y, w.heap.size = y := ⟨_, rfl⟩
  have hgw : w.heap.size ≤ g := by omega
  rw [hg] at HG HZ ⊢
  obtain ⟨h, hh⟩ : ∃ y, g + 1 = y := ⟨_, rfl⟩
  rw [hh] at HZ ⊢
  have hgh : g < h := by omega
  clear hg hh
  go_upto_region 3 with (at_builtin; refine wpList_plain rfl fun K hK => ?_; go_loud (refine wp_app_row by_len (by decide) by_one Try.underlying27 info_by (.tmp 4) (.tmp 5) rfl V.heap.size (.slice (some ⟨V.heap.size, 0, none⟩) 4 4) 4 (rowF byF [1, 1, 0, 7]) rfl (own_new #[.int .u8 1, .int .u8 1, .int .u8 0, .int .u8 7] _ 1 4 (Nat.le_refl _) rfl (by decide)) (some ⟨h, 0, none⟩) 4 4 [0, 0, 0, 0] rfl rfl (HZ.out.ext ((Ext.refl _).alloc _)) (by unfold maxLen; omega) (by omega) (by rw [World.size_alloc]; omega) ?_); intro v6 w6 hown hgrow hat; obtain ⟨A6, c6, rfl, _, _⟩ := hown.shape; refine hK _ _ ?_; clear hK K)
  have hgv := HG.out.lt
  have hex := Ext.only ((Ext.refl V).alloc (.cells #[.int .u8 1, .int .u8 1, .int .u8 0, .int .u8 7] 5)) (grownOnly (S := fun i => V.heap.size ≤ i) hgrow (fun g e => by simp [Value.ownBlock] at e; omega)) (fun i hi => hi)
  have HV6 := hid (HV.out.trans hex)
  have HG6 := hid (HG.out.ext hex)
  have HZ6 := hid (HZ.out.ext hex)
  have HO6 := hid (show ownsAt w6 V.heap.size 5 1 (.slice A6 8 c6) 8 (rowF byF [1, 1, 0, 7, 0, 0, 0, 0]) from hown)
  have HLT := hid HO6.out.lt
  have HCL := hid HO6.out.cap_le
  have HGV := hid (show g < V.heap.size from HG.out.lt)
  clear hown hgrow hat hex hgv HG HZ HV
  have q1 := HG6.out
  have q1l := q1.lt
  have q1c0 := q1.range 0 _ rfl
  have q1f0 := q1.free 0 (by decide)
  have q1c1 := q1.range 1 _ rfl
  have q1f1 := q1.free 1 (by decide)
  have q1c2 := q1.range 2 _ rfl
  have q1f2 := q1.free 2 (by decide)
  have q1c3 := q1.range 3 _ rfl
  have q1f3 := q1.free 3 (by decide)
  have q1c4 := q1.range 4 _ rfl
  have q1f4 := q1.free 4 (by decide)
  have q1c5 := q1.range 5 _ rfl
  have q1f5 := q1.free 5 (by decide)
  simp only [Nat.zero_add] at q1c1 q1c2 q1c3 q1c4 q1c5 q1f1 q1f2 q1f3 q1f4 q1f5
  clear q1
  go_wp2
  refine bodyPost_ret (v := .agg #[.bool false, .int .i64 2, .int .i64 8, .slice (some ⟨w6.heap.size, 0, none⟩) 2 2, .slice (some ⟨w6.heap.size + 1, 0, none⟩) 1 1, .slice (some ⟨w6.heap.size + 1 + 1, 0, none⟩) 1 1]) (by simp [results, Try.results29, go_sem, q1l, q1c0, q1c1, q1c2, q1c3, q1c4, q1c5]) rfl ?_
  have HFN := hid (Only.setCell (S := (fun i => i = g)) (Only.setCell (S := (fun i => i = g)) (Only.setCell (S := (fun i => i = g)) (Only.setCell (S := (fun i => i = g)) (Only.setCell (S := (fun i => i = g)) (Only.setCell (S := (fun i => i = g)) (Only.refl (fun i => i = g) w6) (.inl rfl) (o := 0) (.bool false)) (.inl rfl) (o := 1) (.int .i64 2)) (.inl rfl) (o := 2) (.int .i64 8)) (.inl rfl) (o := 3) (.slice (some ⟨w6.heap.size, 0, none⟩) 2 2)) (.inl rfl) (o := 4) (.slice (some ⟨w6.heap.size + 1, 0, none⟩) 1 1)) (.inl rfl) (o := 5) (.slice (some ⟨w6.heap.size + 1 + 1, 0, none⟩) 1 1))
  generalize hZ : (((((((w6.setCell ⟨g, 0, none⟩ (.bool false)).setCell ⟨g, 1, none⟩ (.int .i64 2)).setCell ⟨g, 2, none⟩ (.int .i64 8)).setCell ⟨g, 3, none⟩ (.slice (some ⟨w6.heap.size, 0, none⟩) 2 2)).setCell ⟨g, 4, none⟩ (.slice (some ⟨w6.heap.size + 1, 0, none⟩) 1 1)).setCell ⟨g, 5, none⟩ (.slice (some ⟨w6.heap.size + 1 + 1, 0, none⟩) 1 1)) : World) = Z at HFN ⊢
  have hz : Z.heap.size = w6.heap.size := by rw [← hZ]; simp only [World.size_setCell]
  obtain ⟨m, hm⟩ : ∃ y, w6.heap.size = y := ⟨_, rfl⟩
  rw [hm] at hz ⊢
  have x1 := (((Ext.refl Z).alloc (.cells #[.slice A6 8 c6, .int .i64 1, .slice (some ⟨h, 0, none⟩) 4 4, .int .i64 2] 53)).alloc (.cells #[.int .i64 1, .int .i64 0, .int .i64 1] 68)).alloc (.cells #[.int .i64 3, .int .i64 1] 70)
  have r1 := ((Row.new Z #[.slice A6 8 c6, .int .i64 1, .slice (some ⟨h, 0, none⟩) 4 4, .int .i64 2] 53).ext (((Ext.refl _).alloc (.cells #[.int .i64 1, .int .i64 0, .int .i64 1] 68)).alloc (.cells #[.int .i64 3, .int .i64 1] 70)))
  have r2 := ((Row.new (Z.alloc (.cells #[.slice A6 8 c6, .int .i64 1, .slice (some ⟨h, 0, none⟩) 4 4, .int .i64 2] 53)) #[.int .i64 1, .int .i64 0, .int .i64 1] 68).ext ((Ext.refl _).alloc (.cells #[.int .i64 3, .int .i64 1] 70)))
  have r3 := Row.new ((Z.alloc (.cells #[.slice A6 8 c6, .int .i64 1, .slice (some ⟨h, 0, none⟩) 4 4, .int .i64 2] 53)).alloc (.cells #[.int .i64 1, .int .i64 0, .int .i64 1] 68)) #[.int .i64 3, .int .i64 1] 70
  rw [World.size_alloc] at r2
  rw [World.size_alloc, World.size_alloc] at r3
  rw [hz] at r1 r2 r3
  have hzr := HZ6.out.only HFN.out (fun b o e => by cases e; omega)
  have hor := (show RdF byF w6 A6 [1, 1, 0, 7, 0, 0, 0, 0] from HO6.out.rdF rfl).only HFN.out (fun b o e => by have := (HLT.out b (by rw [e]; rfl)).1; have := HGV.out; omega)
  refine ⟨⟨false, 2, 8, some ⟨m, 0, none⟩, 2, [⟨A6, c6, [1, 1, 0, 7, 0, 0, 0, 0], 1⟩, ⟨some ⟨h, 0, none⟩, 4, [0, 0, 0, 0], 2⟩], some ⟨m + 1, 0, none⟩, 1, [⟨1, 0, 1⟩], some ⟨m + 1 + 1, 0, none⟩, 1, [⟨3, 1⟩]⟩, rfl, hid ⟨RdF.row0 r1, ?_, RdF.row0 r2, RdF.row0 r3⟩, hid rfl, hid ((Ext.only HV6.out HFN.out (fun i hi => by rw [hi]; exact hgw)).trans x1)⟩
  intro d hd
  simp only [List.mem_cons, List.not_mem_nil, or_false] at hd
  rcases hd with rfl | rfl
  · exact ⟨by_rdB (hor.ext x1), by8, HCL.out.1, HCL.out.2⟩
  · exact ⟨by_rdB (hzr.ext x1), by4, Nat.le_refl 4, by show 4 ≤ maxLen; unfold maxLen; omega⟩

end Go.Proofs.Ytgldlkoohfclpaa
