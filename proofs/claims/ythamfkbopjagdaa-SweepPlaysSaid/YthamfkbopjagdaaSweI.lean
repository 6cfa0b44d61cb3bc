/- Layer 10: the live question. -/
import Derived.Test.YthamfkbopjagdaaSweH
namespace Go.Proofs.Ythamfkbopjagdaa
set_option linter.unusedSimpArgs false
set_option linter.unusedVariables false
open Go.RowKit

/-- A row of one number that is built. -/
theorem wp_buildN {P : Program} {o : Oper} {a : Act} {w : World} {K : Act → World → Prop} {Q : Exit → Act → World → Prop} (t e : TypeId) (x : Operand) (v : Nat) (ho : o.op = .buildSlice t 1 #[(0, x)]) (hx : a.eval x = .int .i64 (v : Int))
    (hu : P.underlying t = some (.slice e)) (hi : (P.info? e).map (·.size) = some 1) (hz : ((P.info? e).bind (·.zero)).map (·.cells.size) = some 1) (h : ∀ b W', Ext w W' → RdN W' (some ⟨b, 0, none⟩) [v] → K (a.put o.dst (.slice (some ⟨b, 0, none⟩) 1 1)) W') : o.wp P a w K Q := by
  have hh := h w.heap.size (w.alloc (.cells #[.int .i64 (v : Int)] e)) (Ext.alloc (Ext.refl _) _) (fun _ => ⟨w.heap.size, 0, rfl, by simp, fun j hj => by
    obtain rfl : j = 0 := by simp at hj; omega
    simp [go_sem]⟩)
  cases hie : P.info? e with
  | none => simp [hie] at hi
  | some ie =>
    cases hzz : ie.zero with
    | none => simp [hie, hzz] at hz
    | some z =>
      have hsz : ie.size = 1 := by simpa [hie] using hi
      have hzs : z.cells.size = 1 := by simpa [hie, hzz] using hz
      refine wp_buildSlice t e 1 #[(0, x)] ho #[.int .i64 (v : Int)] ie z hu hie hzz (by omega) (by omega) ?_ hh
      have hf := Great.fill_whole (by decide : 0 < 1) [.int .i64 (v : Int)] ((Array.range (1 * 1)).map (z.cells[· % z.cells.size]!)) (by simp [Value.cells]) (by simp)
      rw [hsz]
      simpa [hx, Value.cells] using hf
set_option maxRecDepth 100000 in
set_option maxHeartbeats 4000000 in
theorem head_ (w : World) : Calls Try.prog 8 #[] w fun e w' => e = .returned (.bool true) ∧ Ext w w' := by
  go_enter Try.func8, Try.ntmps8
  go_upto_region 2 with (go_at_call 9; refine (hNew 4 4 (by decide) _ (by decide) (by decide)).mono ?_; rintro e w1 ⟨q, rfl, g, HM1⟩)
  go_upto_region 3 with (go_at_call 10; refine (new_ 64 _ (by decide) (by decide)).mono ?_; rintro e w2 ⟨p, pq, rfl, hs2, hx2, hp2, hpq2⟩)
  go_upto_region 6 with (go_at_call 14; refine (swnew_ q p _).mono ?_; rintro e w3 ⟨s, rfl, HS3, HX3, HL3⟩)
  have HS3' : Hid (SWB w w3 q g s p pq 4 64 (fun _ => 0) (fun _ => false) (fun _ => false) (fun _ => false) false none 0 [] 0) := hid (by
    have e1 := HM1.out
    have e2 := e1.1.ltq
    have e3 := e1.1.ltg
    have e4 := hs2.ltp
    have e5 := hs2.ltq
    have e6 := hs2.np
    have e7 := HL3.out
    have e8 := e1.2.1.size
    have e9 := hx2.size
    exact ⟨(e1.ext hx2).ext HX3.out, hs2.ext HX3.out, HS3.out, ⟨by omega, by omega, by omega, by omega, by omega, by omega, by omega, by omega⟩, ⟨by omega, by omega, by omega⟩, fun b o e => (by cases e), fun x hx => (by cases hx)⟩)
  clear HM1 hs2 hx2 hp2 hpq2 HS3 HX3 HL3
  go_upto_region 10 with (fail)
  refine wp_gen (fun W => Hid (SWB w W q g s p pq 4 64 (fun _ => 0) (fun _ => false) (fun _ => false) (fun _ => false) false none 0 [] 0) ∧ Hid (CapB W w3.heap.size [.bool true, .int .i64 512, .int .i64 544, .int .i64 512, .int .i64 3, .int .i64 0]) ∧ Hid (CapB W (w3.heap.size + 1) [.bool true, .int .i64 544, .int .i64 560, .int .i64 512, .int .i64 3, .int .i64 0]) ∧ Hid (w3.heap.size + 1 < W.heap.size ∧ s < w3.heap.size ∧ g < w3.heap.size ∧ pq < w3.heap.size)) ⟨hid (HS3'.out.ext (by repeat (first | (with_reducible exact Ext.refl _) | (with_reducible refine Ext.undrew ?_) | (with_reducible refine Ext.grow ?_ _) | (with_reducible refine Ext.drew ?_) | (with_reducible refine Ext.drewN ?_ _) | (with_reducible refine Ext.alloc ?_ _) | (with_reducible assumption) | ((with_reducible refine Ext.setCell ?_ ?_ _); rotate_left; (first | exact Nat.le_refl _ | ((try dsimp only); (try simp only [World.size_alloc, grow_size, World.size_setCell]); omega)))))), hid ((CapB.new w3 _ _).ext (Ext.alloc (Ext.refl _) _)), hid (by have := CapB.new (w3.alloc (.cells #[.bool true, .int .i64 512, .int .i64 544, .int .i64 512, .int .i64 3, .int .i64 0] 24)) #[.bool true, .int .i64 544, .int .i64 560, .int .i64 512, .int .i64 3, .int .i64 0] 24; simpa using this), hid ⟨by simp, HS3'.out.h3.lt, HS3'.out.h1.1.ltg, HS3'.out.h2.ltq⟩⟩ ?_
  clear HS3'
  rintro W4 ⟨HS4, HD4, HLV4, HZ4⟩
  obtain ⟨db, hdb⟩ : ∃ x, w3.heap.size = x := ⟨_, rfl⟩
  rw [hdb] at HD4 HLV4 HZ4 ⊢
  obtain ⟨vb, hvb⟩ : ∃ x, db + 1 = x := ⟨_, rfl⟩
  have HNB : Hid (¬ db = g ∧ ¬ vb = g ∧ ¬ db = pq ∧ ¬ vb = pq ∧ ¬ db = s ∧ ¬ vb = s) := hid (by have := HZ4.out; omega)
  rw [hvb] at HLV4 ⊢
  clear hdb hvb HZ4
  have d0 : World.cell? W4 ⟨db, 0, none⟩ = some (.bool true) := HD4.out.2 0 _ rfl
  have d1 : World.cell? W4 ⟨db, 1, none⟩ = some (.int .i64 512) := HD4.out.2 1 _ rfl
  have d2 : World.cell? W4 ⟨db, 2, none⟩ = some (.int .i64 544) := HD4.out.2 2 _ rfl
  have d3 : World.cell? W4 ⟨db, 3, none⟩ = some (.int .i64 512) := HD4.out.2 3 _ rfl
  have d4 : World.cell? W4 ⟨db, 4, none⟩ = some (.int .i64 3) := HD4.out.2 4 _ rfl
  have d5 : World.cell? W4 ⟨db, 5, none⟩ = some (.int .i64 0) := HD4.out.2 5 _ rfl
  have dl := HD4.out.1
  have l0 : World.cell? W4 ⟨vb, 0, none⟩ = some (.bool true) := HLV4.out.2 0 _ rfl
  have l1 : World.cell? W4 ⟨vb, 1, none⟩ = some (.int .i64 544) := HLV4.out.2 1 _ rfl
  have l2 : World.cell? W4 ⟨vb, 2, none⟩ = some (.int .i64 560) := HLV4.out.2 2 _ rfl
  have l3 : World.cell? W4 ⟨vb, 3, none⟩ = some (.int .i64 512) := HLV4.out.2 3 _ rfl
  have l4 : World.cell? W4 ⟨vb, 4, none⟩ = some (.int .i64 3) := HLV4.out.2 4 _ rfl
  have l5 : World.cell? W4 ⟨vb, 5, none⟩ = some (.int .i64 0) := HLV4.out.2 5 _ rfl
  have ll := HLV4.out.1
  go_upto_region 11 with (go_at_call 18; refine (fSc w _ q g 4 (fun _ => 0) (fun _ => false) (fun _ => false) HS4.out.h1 0 true 512 544 512 3 0).mono ?_; rintro e W5 ⟨rfl, HMs, HOs⟩)
  have HS5 : Hid (SWB w W5 q g s p pq 4 64 (capB 4 0 hDead (fun _ => 0)) (capT 4 0 hDead (fun _ => false)) (capD 4 0 hDead (fun _ => false)) (fun _ => false) false none 0 [] 0) := hid (HS4.out.mem HMs.out HOs.out)
  have HDx := hid (HD4.out.only HOs.out HNB.out.1)
  have HLx := hid (HLV4.out.only HOs.out HNB.out.2.1)
  clear d0 d1 d2 d3 d4 d5 dl
  clear l0 l1 l2 l3 l4 l5 ll
  clear HS4 HD4 HLV4 HMs HOs
  have HD5 := HDx
  have HLV5 := HLx
  clear HDx HLx
  have d0 : World.cell? W5 ⟨db, 0, none⟩ = some (.bool true) := HD5.out.2 0 _ rfl
  have d1 : World.cell? W5 ⟨db, 1, none⟩ = some (.int .i64 512) := HD5.out.2 1 _ rfl
  have d2 : World.cell? W5 ⟨db, 2, none⟩ = some (.int .i64 544) := HD5.out.2 2 _ rfl
  have d3 : World.cell? W5 ⟨db, 3, none⟩ = some (.int .i64 512) := HD5.out.2 3 _ rfl
  have d4 : World.cell? W5 ⟨db, 4, none⟩ = some (.int .i64 3) := HD5.out.2 4 _ rfl
  have d5 : World.cell? W5 ⟨db, 5, none⟩ = some (.int .i64 0) := HD5.out.2 5 _ rfl
  have dl := HD5.out.1
  have l0 : World.cell? W5 ⟨vb, 0, none⟩ = some (.bool true) := HLV5.out.2 0 _ rfl
  have l1 : World.cell? W5 ⟨vb, 1, none⟩ = some (.int .i64 544) := HLV5.out.2 1 _ rfl
  have l2 : World.cell? W5 ⟨vb, 2, none⟩ = some (.int .i64 560) := HLV5.out.2 2 _ rfl
  have l3 : World.cell? W5 ⟨vb, 3, none⟩ = some (.int .i64 512) := HLV5.out.2 3 _ rfl
  have l4 : World.cell? W5 ⟨vb, 4, none⟩ = some (.int .i64 3) := HLV5.out.2 4 _ rfl
  have l5 : World.cell? W5 ⟨vb, 5, none⟩ = some (.int .i64 0) := HLV5.out.2 5 _ rfl
  have ll := HLV5.out.1
  go_upto_region 12 with (go_at_call 18; refine (fSc w _ q g 4 (capB 4 0 hDead (fun _ => 0)) (capT 4 0 hDead (fun _ => false)) (capD 4 0 hDead (fun _ => false)) HS5.out.h1 16 true 544 560 512 3 0).mono ?_; rintro e W6 ⟨rfl, HMs, HOs⟩)
  have HS6 : Hid (SWB w W6 q g s p pq 4 64 (capB 4 16 hLive (capB 4 0 hDead (fun _ => 0))) (capT 4 16 hLive (capT 4 0 hDead (fun _ => false))) (capD 4 16 hLive (capD 4 0 hDead (fun _ => false))) (fun _ => false) false none 0 [] 0) := hid (HS5.out.mem HMs.out HOs.out)
  have HDx := hid (HD5.out.only HOs.out HNB.out.1)
  have HLx := hid (HLV5.out.only HOs.out HNB.out.2.1)
  clear d0 d1 d2 d3 d4 d5 dl
  clear l0 l1 l2 l3 l4 l5 ll
  clear HS5 HD5 HLV5 HMs HOs
  have HD6 := HDx
  have HLV6 := HLx
  clear HDx HLx
  have d0 : World.cell? W6 ⟨db, 0, none⟩ = some (.bool true) := HD6.out.2 0 _ rfl
  have d1 : World.cell? W6 ⟨db, 1, none⟩ = some (.int .i64 512) := HD6.out.2 1 _ rfl
  have d2 : World.cell? W6 ⟨db, 2, none⟩ = some (.int .i64 544) := HD6.out.2 2 _ rfl
  have d3 : World.cell? W6 ⟨db, 3, none⟩ = some (.int .i64 512) := HD6.out.2 3 _ rfl
  have d4 : World.cell? W6 ⟨db, 4, none⟩ = some (.int .i64 3) := HD6.out.2 4 _ rfl
  have d5 : World.cell? W6 ⟨db, 5, none⟩ = some (.int .i64 0) := HD6.out.2 5 _ rfl
  have dl := HD6.out.1
  have l0 : World.cell? W6 ⟨vb, 0, none⟩ = some (.bool true) := HLV6.out.2 0 _ rfl
  have l1 : World.cell? W6 ⟨vb, 1, none⟩ = some (.int .i64 544) := HLV6.out.2 1 _ rfl
  have l2 : World.cell? W6 ⟨vb, 2, none⟩ = some (.int .i64 560) := HLV6.out.2 2 _ rfl
  have l3 : World.cell? W6 ⟨vb, 3, none⟩ = some (.int .i64 512) := HLV6.out.2 3 _ rfl
  have l4 : World.cell? W6 ⟨vb, 4, none⟩ = some (.int .i64 3) := HLV6.out.2 4 _ rfl
  have l5 : World.cell? W6 ⟨vb, 5, none⟩ = some (.int .i64 0) := HLV6.out.2 5 _ rfl
  have ll := HLV6.out.1
  go_upto_region 13 with (go_at_call 18; refine (fSc w _ q g 4 (capB 4 16 hLive (capB 4 0 hDead (fun _ => 0))) (capT 4 16 hLive (capT 4 0 hDead (fun _ => false))) (capD 4 16 hLive (capD 4 0 hDead (fun _ => false))) HS6.out.h1 768 true 512 544 512 3 0).mono ?_; rintro e W7 ⟨rfl, HMs, HOs⟩)
  have HS7 : Hid (SWB w W7 q g s p pq 4 64 h10B h10T h10D (fun _ => false) false none 0 [] 0) := hid (HS6.out.mem HMs.out HOs.out)
  have HDx := hid (HD6.out.only HOs.out HNB.out.1)
  have HLx := hid (HLV6.out.only HOs.out HNB.out.2.1)
  clear d0 d1 d2 d3 d4 d5 dl
  clear l0 l1 l2 l3 l4 l5 ll
  clear HS6 HD6 HLV6 HMs HOs
  have HD7 := HDx
  have HLV7 := HLx
  clear HDx HLx
  have d0 : World.cell? W7 ⟨db, 0, none⟩ = some (.bool true) := HD7.out.2 0 _ rfl
  have d1 : World.cell? W7 ⟨db, 1, none⟩ = some (.int .i64 512) := HD7.out.2 1 _ rfl
  have d2 : World.cell? W7 ⟨db, 2, none⟩ = some (.int .i64 544) := HD7.out.2 2 _ rfl
  have d3 : World.cell? W7 ⟨db, 3, none⟩ = some (.int .i64 512) := HD7.out.2 3 _ rfl
  have d4 : World.cell? W7 ⟨db, 4, none⟩ = some (.int .i64 3) := HD7.out.2 4 _ rfl
  have d5 : World.cell? W7 ⟨db, 5, none⟩ = some (.int .i64 0) := HD7.out.2 5 _ rfl
  have dl := HD7.out.1
  have l0 : World.cell? W7 ⟨vb, 0, none⟩ = some (.bool true) := HLV7.out.2 0 _ rfl
  have l1 : World.cell? W7 ⟨vb, 1, none⟩ = some (.int .i64 544) := HLV7.out.2 1 _ rfl
  have l2 : World.cell? W7 ⟨vb, 2, none⟩ = some (.int .i64 560) := HLV7.out.2 2 _ rfl
  have l3 : World.cell? W7 ⟨vb, 3, none⟩ = some (.int .i64 512) := HLV7.out.2 3 _ rfl
  have l4 : World.cell? W7 ⟨vb, 4, none⟩ = some (.int .i64 3) := HLV7.out.2 4 _ rfl
  have l5 : World.cell? W7 ⟨vb, 5, none⟩ = some (.int .i64 0) := HLV7.out.2 5 _ rfl
  have ll := HLV7.out.1
  go_upto_region 14 with (go_at_call 20; refine (paint_any HS7.out.h2 512 544 true).mono ?_; rintro e W8 ⟨rfl, hs8, ho8⟩)
  have HS8 : Hid (SWB w W8 q g s p pq 4 64 h10B h10T h10D h10P false none 0 [] 0) := hid (HS7.out.map hs8 ho8)
  have HD8 := hid (HD7.out.only ho8 HNB.out.2.2.1)
  have HLV8 := hid (HLV7.out.only ho8 HNB.out.2.2.2.1)
  clear d0 d1 d2 d3 d4 d5 dl
  clear l0 l1 l2 l3 l4 l5 ll
  clear HD7 HLV7
  have d0 : World.cell? W8 ⟨db, 0, none⟩ = some (.bool true) := HD8.out.2 0 _ rfl
  have d1 : World.cell? W8 ⟨db, 1, none⟩ = some (.int .i64 512) := HD8.out.2 1 _ rfl
  have d2 : World.cell? W8 ⟨db, 2, none⟩ = some (.int .i64 544) := HD8.out.2 2 _ rfl
  have d3 : World.cell? W8 ⟨db, 3, none⟩ = some (.int .i64 512) := HD8.out.2 3 _ rfl
  have d4 : World.cell? W8 ⟨db, 4, none⟩ = some (.int .i64 3) := HD8.out.2 4 _ rfl
  have d5 : World.cell? W8 ⟨db, 5, none⟩ = some (.int .i64 0) := HD8.out.2 5 _ rfl
  have dl := HD8.out.1
  have l0 : World.cell? W8 ⟨vb, 0, none⟩ = some (.bool true) := HLV8.out.2 0 _ rfl
  have l1 : World.cell? W8 ⟨vb, 1, none⟩ = some (.int .i64 544) := HLV8.out.2 1 _ rfl
  have l2 : World.cell? W8 ⟨vb, 2, none⟩ = some (.int .i64 560) := HLV8.out.2 2 _ rfl
  have l3 : World.cell? W8 ⟨vb, 3, none⟩ = some (.int .i64 512) := HLV8.out.2 3 _ rfl
  have l4 : World.cell? W8 ⟨vb, 4, none⟩ = some (.int .i64 3) := HLV8.out.2 4 _ rfl
  have l5 : World.cell? W8 ⟨vb, 5, none⟩ = some (.int .i64 0) := HLV8.out.2 5 _ rfl
  have ll := HLV8.out.1
  clear HS7 hs8 ho8
  go_upto_region 15 with (go_at_call 22; refine (begin_ w _ q g s p pq 4 64 h10B h10T h10D h10P none 0 [] 0 HS8.out).mono ?_; rintro e W9 ⟨A9, ca9, rfl, HS9, HO9⟩)
  rw [h10_left] at HS9
  have HD9 := hid (HD8.out.only HO9.out (by rintro (c | c); exact HNB.out.1 c; exact HNB.out.2.2.2.2.1 c))
  have HLV9 := hid (HLV8.out.only HO9.out (by rintro (c | c); exact HNB.out.2.1 c; exact HNB.out.2.2.2.2.2 c))
  clear d0 d1 d2 d3 d4 d5 dl
  clear l0 l1 l2 l3 l4 l5 ll
  clear HD8 HLV8
  have d0 : World.cell? W9 ⟨db, 0, none⟩ = some (.bool true) := HD9.out.2 0 _ rfl
  have d1 : World.cell? W9 ⟨db, 1, none⟩ = some (.int .i64 512) := HD9.out.2 1 _ rfl
  have d2 : World.cell? W9 ⟨db, 2, none⟩ = some (.int .i64 544) := HD9.out.2 2 _ rfl
  have d3 : World.cell? W9 ⟨db, 3, none⟩ = some (.int .i64 512) := HD9.out.2 3 _ rfl
  have d4 : World.cell? W9 ⟨db, 4, none⟩ = some (.int .i64 3) := HD9.out.2 4 _ rfl
  have d5 : World.cell? W9 ⟨db, 5, none⟩ = some (.int .i64 0) := HD9.out.2 5 _ rfl
  have dl := HD9.out.1
  have l0 : World.cell? W9 ⟨vb, 0, none⟩ = some (.bool true) := HLV9.out.2 0 _ rfl
  have l1 : World.cell? W9 ⟨vb, 1, none⟩ = some (.int .i64 544) := HLV9.out.2 1 _ rfl
  have l2 : World.cell? W9 ⟨vb, 2, none⟩ = some (.int .i64 560) := HLV9.out.2 2 _ rfl
  have l3 : World.cell? W9 ⟨vb, 3, none⟩ = some (.int .i64 512) := HLV9.out.2 3 _ rfl
  have l4 : World.cell? W9 ⟨vb, 4, none⟩ = some (.int .i64 3) := HLV9.out.2 4 _ rfl
  have l5 : World.cell? W9 ⟨vb, 5, none⟩ = some (.int .i64 0) := HLV9.out.2 5 _ rfl
  have ll := HLV9.out.1
  clear HS8 HO9
  go_upto_region 16 with (go_at_call 22; refine (begin_no w _ q g s p pq 4 64 h10B h10T h10D h10P A9 ca9 [0, 3] 0 HS9.out).mono ?_; rintro e Wz ⟨rfl, rfl⟩)
  go_upto_region 17 with (go_at_call 28; refine (swleft s q p true A9 ca9 [0, 3] 0 _ HS9.out.h3).mono ?_; rintro e Wz ⟨rfl, rfl⟩)
  go_upto_region 18 with (go_at_call 24; refine (step_ w _ q g s p pq 4 64 h10B h10T h10D h10P A9 ca9 [0, 3] 0 HS9.out 1 2 1 rfl (by decide) (by decide) ⟨by decide, .inr ⟨by decide, rfl⟩⟩ (by decide)).mono ?_; rintro e W10 ⟨A10, ca10, rfl, HS10, HO10⟩)
  have HS10' : Hid (SWB w W10 q g s p pq 4 64 h10B h10z.1 h10z.2.1 h10P true A10 ca10 [3] h10z.2.2) := hid HS10.out
  have HD10 := hid (HD9.out.only HO10.out (by rintro (c | c); exact HNB.out.1 c; exact HNB.out.2.2.2.2.1 c))
  have HLV10 := hid (HLV9.out.only HO10.out (by rintro (c | c); exact HNB.out.2.1 c; exact HNB.out.2.2.2.2.2 c))
  clear d0 d1 d2 d3 d4 d5 dl
  clear l0 l1 l2 l3 l4 l5 ll
  clear HD9 HLV9
  have d0 : World.cell? W10 ⟨db, 0, none⟩ = some (.bool true) := HD10.out.2 0 _ rfl
  have d1 : World.cell? W10 ⟨db, 1, none⟩ = some (.int .i64 512) := HD10.out.2 1 _ rfl
  have d2 : World.cell? W10 ⟨db, 2, none⟩ = some (.int .i64 544) := HD10.out.2 2 _ rfl
  have d3 : World.cell? W10 ⟨db, 3, none⟩ = some (.int .i64 512) := HD10.out.2 3 _ rfl
  have d4 : World.cell? W10 ⟨db, 4, none⟩ = some (.int .i64 3) := HD10.out.2 4 _ rfl
  have d5 : World.cell? W10 ⟨db, 5, none⟩ = some (.int .i64 0) := HD10.out.2 5 _ rfl
  have dl := HD10.out.1
  have l0 : World.cell? W10 ⟨vb, 0, none⟩ = some (.bool true) := HLV10.out.2 0 _ rfl
  have l1 : World.cell? W10 ⟨vb, 1, none⟩ = some (.int .i64 544) := HLV10.out.2 1 _ rfl
  have l2 : World.cell? W10 ⟨vb, 2, none⟩ = some (.int .i64 560) := HLV10.out.2 2 _ rfl
  have l3 : World.cell? W10 ⟨vb, 3, none⟩ = some (.int .i64 512) := HLV10.out.2 3 _ rfl
  have l4 : World.cell? W10 ⟨vb, 4, none⟩ = some (.int .i64 3) := HLV10.out.2 4 _ rfl
  have l5 : World.cell? W10 ⟨vb, 5, none⟩ = some (.int .i64 0) := HLV10.out.2 5 _ rfl
  have ll := HLV10.out.1
  clear HS9 HO10 HS10
  go_upto_region 19 with (go_at_call 26; refine (swruns s q p true A10 ca10 [3] h10z.2.2 _ HS10'.out.h3).mono ?_; rintro e Wz ⟨rfl, rfl⟩)
  have hgz : h10z.2.2 + 16 * 1 ≤ 4611686018427387904 := by have := stS_le 4 64 h10P h10B [0] (h10T, h10D, 0); simp at this; unfold h10z; omega
  have HGZ := hid hgz
  clear hgz
  go_upto_region 20 with (go_at_call 24; refine (step_ w _ q g s p pq 4 64 h10B h10z.1 h10z.2.1 h10P A10 ca10 [3] h10z.2.2 HS10'.out 1 1 9 rfl (by decide) (by decide) ⟨by decide, .inl ⟨by decide, rfl⟩⟩ HGZ.out).mono ?_; rintro e W11 ⟨A19, ca19, rfl, HS11, HO11⟩)
  have HS11' : Hid (SWB w W11 q g s p pq 4 64 h10B h10y.1 h10y.2.1 h10P false A19 ca19 [] h10y.2.2) := hid HS11.out
  have HD11 := hid (HD10.out.only HO11.out (by rintro (c | c); exact HNB.out.1 c; exact HNB.out.2.2.2.2.1 c))
  have HLV11 := hid (HLV10.out.only HO11.out (by rintro (c | c); exact HNB.out.2.1 c; exact HNB.out.2.2.2.2.2 c))
  clear d0 d1 d2 d3 d4 d5 dl
  clear l0 l1 l2 l3 l4 l5 ll
  clear HD10 HLV10
  have d0 : World.cell? W11 ⟨db, 0, none⟩ = some (.bool true) := HD11.out.2 0 _ rfl
  have d1 : World.cell? W11 ⟨db, 1, none⟩ = some (.int .i64 512) := HD11.out.2 1 _ rfl
  have d2 : World.cell? W11 ⟨db, 2, none⟩ = some (.int .i64 544) := HD11.out.2 2 _ rfl
  have d3 : World.cell? W11 ⟨db, 3, none⟩ = some (.int .i64 512) := HD11.out.2 3 _ rfl
  have d4 : World.cell? W11 ⟨db, 4, none⟩ = some (.int .i64 3) := HD11.out.2 4 _ rfl
  have d5 : World.cell? W11 ⟨db, 5, none⟩ = some (.int .i64 0) := HD11.out.2 5 _ rfl
  have dl := HD11.out.1
  have l0 : World.cell? W11 ⟨vb, 0, none⟩ = some (.bool true) := HLV11.out.2 0 _ rfl
  have l1 : World.cell? W11 ⟨vb, 1, none⟩ = some (.int .i64 544) := HLV11.out.2 1 _ rfl
  have l2 : World.cell? W11 ⟨vb, 2, none⟩ = some (.int .i64 560) := HLV11.out.2 2 _ rfl
  have l3 : World.cell? W11 ⟨vb, 3, none⟩ = some (.int .i64 512) := HLV11.out.2 3 _ rfl
  have l4 : World.cell? W11 ⟨vb, 4, none⟩ = some (.int .i64 3) := HLV11.out.2 4 _ rfl
  have l5 : World.cell? W11 ⟨vb, 5, none⟩ = some (.int .i64 0) := HLV11.out.2 5 _ rfl
  have ll := HLV11.out.1
  clear HS10' HO11 HS11 HGZ
  go_upto_region 21 with (go_at_call 37; refine (barrier_ w _ q g s p pq 4 64 h10B h10y.1 h10y.2.1 h10P false A19 ca19 [] h10y.2.2 HS11'.out true 512 544 512 3 0 (by decide)).mono ?_; rw [h10_dead]; rintro e W12 ⟨rfl, hx12⟩)
  refine wp_gen (fun W => Hid (SWB w W q g s p pq 4 64 h10B h10y.1 h10y.2.1 h10P false A19 ca19 [] h10y.2.2) ∧ Hid (CapB W vb [.bool true, .int .i64 544, .int .i64 560, .int .i64 512, .int .i64 3, .int .i64 0]) ∧ Hid (CapB W W12.heap.size [.bool false, .int .i64 512, .int .i64 544, .int .i64 512, .int .i64 3, .int .i64 0])) ⟨hid ((HS11'.out.ext hx12).ext (by repeat (first | (with_reducible exact Ext.refl _) | (with_reducible refine Ext.undrew ?_) | (with_reducible refine Ext.grow ?_ _) | (with_reducible refine Ext.drew ?_) | (with_reducible refine Ext.drewN ?_ _) | (with_reducible refine Ext.alloc ?_ _) | (with_reducible assumption) | ((with_reducible refine Ext.setCell ?_ ?_ _); rotate_left; (first | exact Nat.le_refl _ | ((try dsimp only); (try simp only [World.size_alloc, grow_size, World.size_setCell]); omega)))))), hid ((HLV11.out.ext hx12).ext (by repeat (first | (with_reducible exact Ext.refl _) | (with_reducible refine Ext.undrew ?_) | (with_reducible refine Ext.grow ?_ _) | (with_reducible refine Ext.drew ?_) | (with_reducible refine Ext.drewN ?_ _) | (with_reducible refine Ext.alloc ?_ _) | (with_reducible assumption) | ((with_reducible refine Ext.setCell ?_ ?_ _); rotate_left; (first | exact Nat.le_refl _ | ((try dsimp only); (try simp only [World.size_alloc, grow_size, World.size_setCell]); omega)))))), hid (CapB.new W12 _ _)⟩ ?_
  clear d0 d1 d2 d3 d4 d5 dl
  clear l0 l1 l2 l3 l4 l5 ll
  clear HS11' HLV11 HD11 hx12
  rintro W20 ⟨HS20, HLV20, HY20⟩
  generalize W12.heap.size = xb at HY20 ⊢
  refine wp_region_step (.rd 0 (.rd 1 (.rd 2 (.rd 3 (.rd 4 (.rd 5 (.rd 6 (.rd 7 (.rd 8 (.rd 9 (.rd 10 (.rd 11 (.rd 12 (.rd 13 (.rd 14 (.rd 15 (.rd 16 (.rd 17 (.rd 18 (.rd 19 (.rd 20 (.rd 21 (.ac 22 (.rd 23 (.rd 24 (.rd 25 (.rd 26 (.br 27 (.ac 28 (.ac 29 (.rd 30 (.rd 31 (.rd 32 (.br 33 (.ac 34 (.ac 35 (.rd 36 (.rd 37 (.rd 38 (.ac 39 (.rd 40 (.rd 41 (.rd 42 (.rd 43 (.rd 44 (.rd 45 (.rd 46 (.rd 47 (.rd 48 (.rd 49 (.rd 51 (.ac 50 (.rd 52 (.rd 53 (.rd 54 (.rd 55 (.ac 56 (.rd 57 (.rd 58 (.rd 59 .done)))))))))))))))))))))))))) 34 (.ac 33 (.ac 35 (.rd 36 (.rd 37 (.rd 38 (.ac 39 (.rd 40 (.rd 41 (.rd 42 (.rd 43 (.rd 44 (.rd 45 (.rd 46 (.rd 47 (.rd 48 (.rd 49 (.rd 51 (.ac 50 (.rd 52 (.rd 53 (.rd 54 (.rd 55 (.ac 56 (.rd 57 (.rd 58 (.rd 59 .done)))))))))))))))))))))))))))))))) 28 (.ac 27 (.ac 29 (.rd 30 (.rd 31 (.rd 32 (.br 33 (.ac 34 (.ac 35 (.rd 36 (.rd 37 (.rd 38 (.ac 39 (.rd 40 (.rd 41 (.rd 42 (.rd 43 (.rd 44 (.rd 45 (.rd 46 (.rd 47 (.rd 48 (.rd 49 (.rd 51 (.ac 50 (.rd 52 (.rd 53 (.rd 54 (.rd 55 (.ac 56 (.rd 57 (.rd 58 (.rd 59 .done)))))))))))))))))))))))))) 34 (.ac 33 (.ac 35 (.rd 36 (.rd 37 (.rd 38 (.ac 39 (.rd 40 (.rd 41 (.rd 42 (.rd 43 (.rd 44 (.rd 45 (.rd 46 (.rd 47 (.rd 48 (.rd 49 (.rd 51 (.ac 50 (.rd 52 (.rd 53 (.rd 54 (.rd 55 (.ac 56 (.rd 57 (.rd 58 (.rd 59 .done)))))))))))))))))))))))))))))))))))))))))))))))))))))))))))) (by kernel_rfl) (by kernel_rfl) (fun _ _ d _ _ h => by cases d <;> exact h) (by simp only [Ord.map, nthOp, List.append]; rfl) ?_
  intro d0
  repeat' (first | (refine step_read (by rfl) (fun K hK => ?_); go_big_quiet_op; refine hK _ ?_; clear hK K) | (refine step_act (by rfl) (fun K hK => ?_); refine wp_buildN 52 3 (.const (.int .i64 16)) 16 (by rfl) (by rfl) Try.underlying52 (by kernel_rfl) (by kernel_rfl) ?_; intro bn16 Wbn16 hxbn16 hrbn16; have HRN16 := hid hrbn16; refine hK _ _ ⟨Wbn16, hxbn16, Ext.refl _, ?_⟩; clear hK K hrbn16; simp only [Act.put, List.setIfInBounds_toArray, List.set_cons_zero, List.set_cons_succ]) | (refine step_act (by rfl) (fun K hK => ?_); refine wp_buildN 52 3 (.const (.int .i64 0)) 0 (by rfl) (by rfl) Try.underlying52 (by kernel_rfl) (by kernel_rfl) ?_; intro bn0 Wbn0 hxbn0 hrbn0; have HRN0 := hid hrbn0; refine hK _ _ ⟨Wbn0, hxbn0, Ext.refl _, ?_⟩; clear hK K hrbn0; simp only [Act.put, List.setIfInBounds_toArray, List.set_cons_zero, List.set_cons_succ]) | (refine step_act (by rfl) (fun K hK => ?_); go_wp2_with (first | (go_at_call 26; refine (swruns s q p false A19 ca19 [] h10y.2.2 _ (HS20.out.ext (by repeat (first | (with_reducible exact Ext.refl _) | (with_reducible refine Ext.grow ?_ _) | (with_reducible refine Ext.alloc ?_ _) | (with_reducible refine Ext.trans ?_ (by assumption))))).h3).mono ?_; rintro e Wz ⟨rfl, rfl⟩) | (go_at_call 33; refine (hTags w _ q g 4 h10B h10y.1 h10y.2.1 (HS20.out.ext (by repeat (first | (with_reducible exact Ext.refl _) | (with_reducible refine Ext.grow ?_ _) | (with_reducible refine Ext.alloc ?_ _) | (with_reducible refine Ext.trans ?_ (by assumption))))).h1 [16] 1 h10_tags rfl).mono ?_; rintro e Wa ⟨Aa, caa, rfl, HRa, _, HXa, _⟩; have hxa := HXa.out) | (go_at_call 32; (with_reducible refine (tsame_ Aa (some ⟨bn16, 0, none⟩) 1 caa 1 [16] _ (HRa.out.ext (by repeat (first | (with_reducible exact Ext.refl _) | (with_reducible refine Ext.grow ?_ _) | (with_reducible refine Ext.alloc ?_ _) | (with_reducible refine Ext.trans ?_ (by assumption))))) (HRN16.out.ext (by repeat (first | (with_reducible exact Ext.refl _) | (with_reducible refine Ext.grow ?_ _) | (with_reducible refine Ext.alloc ?_ _) | (with_reducible refine Ext.trans ?_ (by assumption))))) (by simp) (by omega)).mono ?_); rintro e Wc ⟨rfl, hxc⟩) | (go_at_call 35; refine (hDirty w _ q g 4 h10B h10y.1 h10y.2.1 (HS20.out.ext (by repeat (first | (with_reducible exact Ext.refl _) | (with_reducible refine Ext.grow ?_ _) | (with_reducible refine Ext.alloc ?_ _) | (with_reducible refine Ext.trans ?_ (by assumption))))).h1 [0] 1 h10_dirty rfl).mono ?_; rintro e Wd ⟨Ad, cad, rfl, HRd, _, HXd, _⟩; have hxd := HXd.out) | (go_at_call 32; (with_reducible refine (tsame_ Ad (some ⟨bn0, 0, none⟩) 1 cad 1 [0] _ (HRd.out.ext (by repeat (first | (with_reducible exact Ext.refl _) | (with_reducible refine Ext.grow ?_ _) | (with_reducible refine Ext.alloc ?_ _) | (with_reducible refine Ext.trans ?_ (by assumption))))) (HRN0.out.ext (by repeat (first | (with_reducible exact Ext.refl _) | (with_reducible refine Ext.grow ?_ _) | (with_reducible refine Ext.alloc ?_ _) | (with_reducible refine Ext.trans ?_ (by assumption))))) (by simp) (by omega)).mono ?_); rintro e Wf ⟨rfl, hxf⟩; have HY9 := hid (HY20.out.ext (W' := Wf) (by repeat (first | (with_reducible exact Ext.refl _) | (with_reducible refine Ext.grow ?_ _) | (with_reducible refine Ext.alloc ?_ _) | (with_reducible refine Ext.trans ?_ (by assumption))))); have HV9 := hid (HLV20.out.ext (W' := Wf) (by repeat (first | (with_reducible exact Ext.refl _) | (with_reducible refine Ext.grow ?_ _) | (with_reducible refine Ext.alloc ?_ _) | (with_reducible refine Ext.trans ?_ (by assumption))))); have y0 : World.cell? _ ⟨xb, 0, none⟩ = some (.bool false) := HY9.out.2 0 _ rfl; have y1 : World.cell? _ ⟨xb, 1, none⟩ = some (.int .i64 512) := HY9.out.2 1 _ rfl; have y2 : World.cell? _ ⟨xb, 2, none⟩ = some (.int .i64 544) := HY9.out.2 2 _ rfl; have y3 : World.cell? _ ⟨xb, 3, none⟩ = some (.int .i64 512) := HY9.out.2 3 _ rfl; have y4 : World.cell? _ ⟨xb, 4, none⟩ = some (.int .i64 3) := HY9.out.2 4 _ rfl; have y5 : World.cell? _ ⟨xb, 5, none⟩ = some (.int .i64 0) := HY9.out.2 5 _ rfl; have yl := HY9.out.1; have v0 : World.cell? _ ⟨vb, 0, none⟩ = some (.bool true) := HV9.out.2 0 _ rfl; have v1 : World.cell? _ ⟨vb, 1, none⟩ = some (.int .i64 544) := HV9.out.2 1 _ rfl; have v2 : World.cell? _ ⟨vb, 2, none⟩ = some (.int .i64 560) := HV9.out.2 2 _ rfl; have v3 : World.cell? _ ⟨vb, 3, none⟩ = some (.int .i64 512) := HV9.out.2 3 _ rfl; have v4 : World.cell? _ ⟨vb, 4, none⟩ = some (.int .i64 3) := HV9.out.2 4 _ rfl; have v5 : World.cell? _ ⟨vb, 5, none⟩ = some (.int .i64 0) := HV9.out.2 5 _ rfl; have vl := HV9.out.1) | (go_at_call 30; refine (swgone s q p false A19 ca19 [] h10y.2.2 _ (HS20.out.ext (by repeat (first | (with_reducible exact Ext.refl _) | (with_reducible refine Ext.grow ?_ _) | (with_reducible refine Ext.alloc ?_ _) | (with_reducible refine Ext.trans ?_ (by assumption))))).h3).mono ?_; rw [h10_gone]; rintro e Wz ⟨rfl, rfl⟩) | (go_at_call 37; refine (barrier_ w _ q g s p pq 4 64 h10B h10y.1 h10y.2.1 h10P false A19 ca19 [] h10y.2.2 (HS20.out.ext (by repeat (first | (with_reducible exact Ext.refl _) | (with_reducible refine Ext.grow ?_ _) | (with_reducible refine Ext.alloc ?_ _) | (with_reducible refine Ext.trans ?_ (by assumption))))) true 544 560 512 3 0 (by decide)).mono ?_; rw [h10_live]; rintro e Wk ⟨rfl, hxk⟩) | (go_at_call 24; refine (step_no w _ q g s p pq 4 64 h10B h10y.1 h10y.2.1 h10P false A19 ca19 [] h10y.2.2 (HS20.out.ext (by repeat (first | (with_reducible exact Ext.refl _) | (with_reducible refine Ext.grow ?_ _) | (with_reducible refine Ext.alloc ?_ _) | (with_reducible refine Ext.trans ?_ (by assumption))))) 1 (.inl rfl)).mono ?_; rintro e Wm ⟨rfl, HSm, HXm⟩; have hxm := HXm.out)); refine ⟨_, (by repeat (first | (with_reducible exact Ext.refl _) | (with_reducible refine Ext.grow ?_ _) | (with_reducible refine Ext.alloc ?_ _) | (with_reducible refine Ext.trans ?_ (by assumption)))), Ext.refl _, ?_⟩) | refine step_br ?_ ?_)
  all_goals refine step_nil ?_
  all_goals go_wp2
  all_goals go_ret
  all_goals exact ⟨by first | rfl | simp, HS20.out.h1.2.1.trans (by repeat (first | (with_reducible exact Ext.refl _) | (with_reducible refine Ext.grow ?_ _) | (with_reducible refine Ext.alloc ?_ _) | (with_reducible refine Ext.trans ?_ (by assumption))))⟩

end Go.Proofs.Ythamfkbopjagdaa
