/- Layer 17: the layout. -/
import Derived.Test.YtgldlkoohfclpaaImH
namespace Go.Proofs.Ytgldlkoohfclpaa
set_option linter.unusedSimpArgs false
set_option linter.unusedVariables false
open Go.RowKit

structure Sp where
  lo : Int
  hi : Int
deriving DecidableEq
def SpF (p : Sp) : List Value := [.int .i64 p.lo, .int .i64 p.hi]
def intF (z : Int) : List Value := [.int .i64 z]
theorem sp_len (p : Sp) : (SpF p).length = 2 := rfl
theorem int_len (z : Int) : (intF z).length = 1 := rfl
theorem sp_one : ∀ p : Sp, ∀ u ∈ SpF p, u.oneCell' = true := by
  intro d u hu
  simp only [SpF, List.mem_cons, List.not_mem_nil, or_false] at hu
  rcases hu with rfl | rfl <;> rfl
theorem int_one : ∀ z : Int, ∀ u ∈ intF z, u.oneCell' = true := by
  intro d u hu
  simp only [intF, List.mem_cons, List.not_mem_nil, or_false] at hu
  rcases hu with rfl; rfl
theorem info_sp : InfoN Try.prog 51 2 16 := infoN_of (by kernel_rfl)
theorem info_intN : InfoN Try.prog 3 1 8 := infoN_of (by kernel_rfl)
def apartV (a b : Value) : Prop := ∀ g, a.ownBlock = some g → b.ownBlock = some g → False
structure LayS where
  C : List Sp
  D : List Sp
  H : List Sp
  S : List Int
  pg : Int
/-- A layout that is being made: the header at q, its rows at base and above. -/
structure LayB (w : World) (q base : Nat) (vc vd vh vs : Value) (t : LayS) : Prop where
  lt : q < w.heap.size
  qb : q < base
  bs : base ≤ w.heap.size
  c0 : w.cell? ⟨q, 0, none⟩ = some vc
  c1 : w.cell? ⟨q, 1, none⟩ = some vd
  c2 : w.cell? ⟨q, 2, none⟩ = some vh
  c3 : w.cell? ⟨q, 3, none⟩ = some vs
  c4 : w.cell? ⟨q, 4, none⟩ = some (.int .i64 t.pg)
  fz : ∀ k, k < 5 → w.frozen? ⟨q, k, none⟩ = false
  o0 : ownsAt w base 51 2 vc t.C.length (rowF SpF t.C)
  o1 : ownsAt w base 51 2 vd t.D.length (rowF SpF t.D)
  o2 : ownsAt w base 51 2 vh t.H.length (rowF SpF t.H)
  o3 : ownsAt w base 3 1 vs t.S.length (rowF intF t.S)
  a01 : apartV vc vd
  a02 : apartV vc vh
  a03 : apartV vc vs
  a12 : apartV vd vh
  a13 : apartV vd vs
  a23 : apartV vh vs
section
variable {w w' : World} {q base : Nat} {vc vd vh vs : Value} {t : LayS}
theorem LayB.only {S : Nat → Prop} (h : LayB w q base vc vd vh vs t) (x : Only S w w') (hq : ¬ S q) (hb : ∀ g, base ≤ g → g < w.heap.size → ¬ S g) : LayB w' q base vc vd vh vs t where
  lt := Nat.lt_of_lt_of_le h.lt x.size
  qb := h.qb
  bs := Nat.le_trans h.bs x.size
  c0 := (x.cells q 0 h.lt hq).trans h.c0
  c1 := (x.cells q 1 h.lt hq).trans h.c1
  c2 := (x.cells q 2 h.lt hq).trans h.c2
  c3 := (x.cells q 3 h.lt hq).trans h.c3
  c4 := (x.cells q 4 h.lt hq).trans h.c4
  fz := fun k hk => (x.frozens q k h.lt hq).trans (h.fz k hk)
  o0 := h.o0.only x (fun g e => hb g (h.o0.lt g e).1 (h.o0.lt g e).2)
  o1 := h.o1.only x (fun g e => hb g (h.o1.lt g e).1 (h.o1.lt g e).2)
  o2 := h.o2.only x (fun g e => hb g (h.o2.lt g e).1 (h.o2.lt g e).2)
  o3 := h.o3.only x (fun g e => hb g (h.o3.lt g e).1 (h.o3.lt g e).2)
  a01 := h.a01
  a02 := h.a02
  a03 := h.a03
  a12 := h.a12
  a13 := h.a13
  a23 := h.a23
theorem LayB.ext (h : LayB w q base vc vd vh vs t) (x : Ext w w') : LayB w' q base vc vd vh vs t := h.only (Only.ofExt (S := fun _ => False) x) (fun h => h) (fun _ _ _ h => h)
theorem LayB.setPg (h : LayB w q base vc vd vh vs t) (p : Int) : LayB (w.setCell ⟨q, 4, none⟩ (.int .i64 p)) q base vc vd vh vs { t with pg := p } where
  lt := by rw [World.size_setCell]; exact h.lt
  qb := h.qb
  bs := by rw [World.size_setCell]; exact h.bs
  c0 := by have := h.c0; simp [go_sem, this]
  c1 := by have := h.c1; simp [go_sem, this]
  c2 := by have := h.c2; simp [go_sem, this]
  c3 := by have := h.c3; simp [go_sem, this]
  c4 := by have := h.c4; have := h.lt; simp_all [go_sem]
  fz := fun k hk => by have := h.fz k hk; simp_all [go_sem]
  o0 := h.o0.only (Only.setCell (S := fun i => i = q) (Only.refl _ _) (.inl rfl) _) (fun g e e2 => by have := (h.o0.lt g e).1; have := h.qb; omega)
  o1 := h.o1.only (Only.setCell (S := fun i => i = q) (Only.refl _ _) (.inl rfl) _) (fun g e e2 => by have := (h.o1.lt g e).1; have := h.qb; omega)
  o2 := h.o2.only (Only.setCell (S := fun i => i = q) (Only.refl _ _) (.inl rfl) _) (fun g e e2 => by have := (h.o2.lt g e).1; have := h.qb; omega)
  o3 := h.o3.only (Only.setCell (S := fun i => i = q) (Only.refl _ _) (.inl rfl) _) (fun g e e2 => by have := (h.o3.lt g e).1; have := h.qb; omega)
  a01 := h.a01
  a02 := h.a02
  a03 := h.a03
  a12 := h.a12
  a13 := h.a13
  a23 := h.a23
theorem LayB.put0 (h : LayB w q base vc vd vh vs t) (x : Only (fun i => vc.ownBlock = some i) w w') {v6 : Value} (z : Sp) (ho : ownsAt w' base 51 2 v6 (t.C ++ [z]).length (rowF SpF (t.C ++ [z]))) (hat : ∀ g, v6.ownBlock = some g → vc.ownBlock = some g ∨ w.heap.size ≤ g) :
    LayB (w'.setCell ⟨q, 0, none⟩ v6) q base v6 vd vh vs { t with C := t.C ++ [z] } := by
  have hq : ¬ vc.ownBlock = some q := fun e => by have := (h.o0.lt q e).1; have := h.qb; omega
  have hl := Nat.lt_of_lt_of_le h.lt x.size
  have c0 := (x.cells q 0 h.lt hq).trans h.c0
  have c1 := (x.cells q 1 h.lt hq).trans h.c1
  have c2 := (x.cells q 2 h.lt hq).trans h.c2
  have c3 := (x.cells q 3 h.lt hq).trans h.c3
  have c4 := (x.cells q 4 h.lt hq).trans h.c4
  have hx := Only.setCell (S := fun i => i = q) (Only.refl _ w') (.inl rfl) (b := q) (o := 0) v6
  exact {
    lt := by rw [World.size_setCell]; exact hl
    qb := h.qb
    bs := by rw [World.size_setCell]; exact Nat.le_trans h.bs x.size
    c0 := by simp_all [go_sem]
    c1 := by simp [go_sem, c1]
    c2 := by simp [go_sem, c2]
    c3 := by simp [go_sem, c3]
    c4 := by simp [go_sem, c4]
    fz := fun k hk => by have := (x.frozens q k h.lt hq).trans (h.fz k hk); simp_all [go_sem]
    o0 := ho.only hx (fun g e e2 => by have := (ho.lt g e).1; have := h.qb; omega)
    o1 := (h.o1.only x (fun g e e2 => h.a01 g e2 e)).only hx (fun g e e2 => by have := (h.o1.lt g e).1; have := h.qb; omega)
    o2 := (h.o2.only x (fun g e e2 => h.a02 g e2 e)).only hx (fun g e e2 => by have := (h.o2.lt g e).1; have := h.qb; omega)
    o3 := (h.o3.only x (fun g e e2 => h.a03 g e2 e)).only hx (fun g e e2 => by have := (h.o3.lt g e).1; have := h.qb; omega)
    a01 := fun g e e2 => (hat g e).elim (fun e3 => h.a01 g e3 e2) (fun e3 => by have := (h.o1.lt g e2).2; omega)
    a02 := fun g e e2 => (hat g e).elim (fun e3 => h.a02 g e3 e2) (fun e3 => by have := (h.o2.lt g e2).2; omega)
    a03 := fun g e e2 => (hat g e).elim (fun e3 => h.a03 g e3 e2) (fun e3 => by have := (h.o3.lt g e2).2; omega)
    a12 := h.a12
    a13 := h.a13
    a23 := h.a23
  }
theorem LayB.put1 (h : LayB w q base vc vd vh vs t) (x : Only (fun i => vd.ownBlock = some i) w w') {v6 : Value} (z : Sp) (ho : ownsAt w' base 51 2 v6 (t.D ++ [z]).length (rowF SpF (t.D ++ [z]))) (hat : ∀ g, v6.ownBlock = some g → vd.ownBlock = some g ∨ w.heap.size ≤ g) :
    LayB (w'.setCell ⟨q, 1, none⟩ v6) q base vc v6 vh vs { t with D := t.D ++ [z] } := by
  have hq : ¬ vd.ownBlock = some q := fun e => by have := (h.o1.lt q e).1; have := h.qb; omega
  have hl := Nat.lt_of_lt_of_le h.lt x.size
  have c0 := (x.cells q 0 h.lt hq).trans h.c0
  have c1 := (x.cells q 1 h.lt hq).trans h.c1
  have c2 := (x.cells q 2 h.lt hq).trans h.c2
  have c3 := (x.cells q 3 h.lt hq).trans h.c3
  have c4 := (x.cells q 4 h.lt hq).trans h.c4
  have hx := Only.setCell (S := fun i => i = q) (Only.refl _ w') (.inl rfl) (b := q) (o := 1) v6
  exact {
    lt := by rw [World.size_setCell]; exact hl
    qb := h.qb
    bs := by rw [World.size_setCell]; exact Nat.le_trans h.bs x.size
    c0 := by simp [go_sem, c0]
    c1 := by simp_all [go_sem]
    c2 := by simp [go_sem, c2]
    c3 := by simp [go_sem, c3]
    c4 := by simp [go_sem, c4]
    fz := fun k hk => by have := (x.frozens q k h.lt hq).trans (h.fz k hk); simp_all [go_sem]
    o0 := (h.o0.only x (fun g e e2 => h.a01 g e e2)).only hx (fun g e e2 => by have := (h.o0.lt g e).1; have := h.qb; omega)
    o1 := ho.only hx (fun g e e2 => by have := (ho.lt g e).1; have := h.qb; omega)
    o2 := (h.o2.only x (fun g e e2 => h.a12 g e2 e)).only hx (fun g e e2 => by have := (h.o2.lt g e).1; have := h.qb; omega)
    o3 := (h.o3.only x (fun g e e2 => h.a13 g e2 e)).only hx (fun g e e2 => by have := (h.o3.lt g e).1; have := h.qb; omega)
    a01 := fun g e e2 => (hat g e2).elim (fun e3 => h.a01 g e e3) (fun e3 => by have := (h.o0.lt g e).2; omega)
    a02 := h.a02
    a03 := h.a03
    a12 := fun g e e2 => (hat g e).elim (fun e3 => h.a12 g e3 e2) (fun e3 => by have := (h.o2.lt g e2).2; omega)
    a13 := fun g e e2 => (hat g e).elim (fun e3 => h.a13 g e3 e2) (fun e3 => by have := (h.o3.lt g e2).2; omega)
    a23 := h.a23
  }
theorem LayB.put2 (h : LayB w q base vc vd vh vs t) (x : Only (fun i => vh.ownBlock = some i) w w') {v6 : Value} (z : Sp) (ho : ownsAt w' base 51 2 v6 (t.H ++ [z]).length (rowF SpF (t.H ++ [z]))) (hat : ∀ g, v6.ownBlock = some g → vh.ownBlock = some g ∨ w.heap.size ≤ g) :
    LayB (w'.setCell ⟨q, 2, none⟩ v6) q base vc vd v6 vs { t with H := t.H ++ [z] } := by
  have hq : ¬ vh.ownBlock = some q := fun e => by have := (h.o2.lt q e).1; have := h.qb; omega
  have hl := Nat.lt_of_lt_of_le h.lt x.size
  have c0 := (x.cells q 0 h.lt hq).trans h.c0
  have c1 := (x.cells q 1 h.lt hq).trans h.c1
  have c2 := (x.cells q 2 h.lt hq).trans h.c2
  have c3 := (x.cells q 3 h.lt hq).trans h.c3
  have c4 := (x.cells q 4 h.lt hq).trans h.c4
  have hx := Only.setCell (S := fun i => i = q) (Only.refl _ w') (.inl rfl) (b := q) (o := 2) v6
  exact {
    lt := by rw [World.size_setCell]; exact hl
    qb := h.qb
    bs := by rw [World.size_setCell]; exact Nat.le_trans h.bs x.size
    c0 := by simp [go_sem, c0]
    c1 := by simp [go_sem, c1]
    c2 := by simp_all [go_sem]
    c3 := by simp [go_sem, c3]
    c4 := by simp [go_sem, c4]
    fz := fun k hk => by have := (x.frozens q k h.lt hq).trans (h.fz k hk); simp_all [go_sem]
    o0 := (h.o0.only x (fun g e e2 => h.a02 g e e2)).only hx (fun g e e2 => by have := (h.o0.lt g e).1; have := h.qb; omega)
    o1 := (h.o1.only x (fun g e e2 => h.a12 g e e2)).only hx (fun g e e2 => by have := (h.o1.lt g e).1; have := h.qb; omega)
    o2 := ho.only hx (fun g e e2 => by have := (ho.lt g e).1; have := h.qb; omega)
    o3 := (h.o3.only x (fun g e e2 => h.a23 g e2 e)).only hx (fun g e e2 => by have := (h.o3.lt g e).1; have := h.qb; omega)
    a01 := h.a01
    a02 := fun g e e2 => (hat g e2).elim (fun e3 => h.a02 g e e3) (fun e3 => by have := (h.o0.lt g e).2; omega)
    a03 := h.a03
    a12 := fun g e e2 => (hat g e2).elim (fun e3 => h.a12 g e e3) (fun e3 => by have := (h.o1.lt g e).2; omega)
    a13 := h.a13
    a23 := fun g e e2 => (hat g e).elim (fun e3 => h.a23 g e3 e2) (fun e3 => by have := (h.o3.lt g e2).2; omega)
  }
theorem LayB.put3 (h : LayB w q base vc vd vh vs t) (x : Only (fun i => vs.ownBlock = some i) w w') {v6 : Value} (z : Int) (ho : ownsAt w' base 3 1 v6 (t.S ++ [z]).length (rowF intF (t.S ++ [z]))) (hat : ∀ g, v6.ownBlock = some g → vs.ownBlock = some g ∨ w.heap.size ≤ g) :
    LayB (w'.setCell ⟨q, 3, none⟩ v6) q base vc vd vh v6 { t with S := t.S ++ [z] } := by
  have hq : ¬ vs.ownBlock = some q := fun e => by have := (h.o3.lt q e).1; have := h.qb; omega
  have hl := Nat.lt_of_lt_of_le h.lt x.size
  have c0 := (x.cells q 0 h.lt hq).trans h.c0
  have c1 := (x.cells q 1 h.lt hq).trans h.c1
  have c2 := (x.cells q 2 h.lt hq).trans h.c2
  have c3 := (x.cells q 3 h.lt hq).trans h.c3
  have c4 := (x.cells q 4 h.lt hq).trans h.c4
  have hx := Only.setCell (S := fun i => i = q) (Only.refl _ w') (.inl rfl) (b := q) (o := 3) v6
  exact {
    lt := by rw [World.size_setCell]; exact hl
    qb := h.qb
    bs := by rw [World.size_setCell]; exact Nat.le_trans h.bs x.size
    c0 := by simp [go_sem, c0]
    c1 := by simp [go_sem, c1]
    c2 := by simp [go_sem, c2]
    c3 := by simp_all [go_sem]
    c4 := by simp [go_sem, c4]
    fz := fun k hk => by have := (x.frozens q k h.lt hq).trans (h.fz k hk); simp_all [go_sem]
    o0 := (h.o0.only x (fun g e e2 => h.a03 g e e2)).only hx (fun g e e2 => by have := (h.o0.lt g e).1; have := h.qb; omega)
    o1 := (h.o1.only x (fun g e e2 => h.a13 g e e2)).only hx (fun g e e2 => by have := (h.o1.lt g e).1; have := h.qb; omega)
    o2 := (h.o2.only x (fun g e e2 => h.a23 g e e2)).only hx (fun g e e2 => by have := (h.o2.lt g e).1; have := h.qb; omega)
    o3 := ho.only hx (fun g e e2 => by have := (ho.lt g e).1; have := h.qb; omega)
    a01 := h.a01
    a02 := h.a02
    a03 := fun g e e2 => (hat g e2).elim (fun e3 => h.a03 g e e3) (fun e3 => by have := (h.o0.lt g e).2; omega)
    a12 := h.a12
    a13 := fun g e e2 => (hat g e2).elim (fun e3 => h.a13 g e e3) (fun e3 => by have := (h.o1.lt g e).2; omega)
    a23 := fun g e e2 => (hat g e2).elim (fun e3 => h.a23 g e e3) (fun e3 => by have := (h.o2.lt g e).2; omega)
  }
end
set_option maxRecDepth 100000 in
set_option maxHeartbeats 4000000 in
theorem take_ (w : World) (q base : Nat) (vc vd vh vs : Value) (t : LayS) (n : Int) (h : LayB w q base vc vd vh vs t) (h0 : 0 ≤ t.pg) (h1 : t.pg ≤ 1000000) (hn : 0 ≤ n) (hn1 : n ≤ 1000000) : Calls Try.prog 76 #[.int .i64 n, .pointer (some ⟨q, 0, none⟩)] w fun e w' => e = .returned (.agg #[.int .i64 (t.pg * 256), .int .i64 ((t.pg + n) * 256)]) ∧ Hid (LayB w' q base vc vd vh vs { t with pg := t.pg + n }) ∧ Hid (Only (fun i => i = q) w w') := by
  have HB := hid h
  have hl := h.lt
  have hc := h.c4
  have hf := h.fz 4 (by decide)
  obtain ⟨pg, hpg⟩ : ∃ p, t.pg = p := ⟨_, rfl⟩
  rw [hpg] at hc h0 h1
  have HPG := hid hpg
  clear h
  rw [hpg]
  clear hpg
  go_enter Try.func76, Try.ntmps76
  go_wp2
  refine bodyPost_ret (v := .agg #[.int .i64 (pg * 256), .int .i64 ((pg + n) * 256)]) (by simp [results, Try.results76, go_sem]) rfl ⟨rfl, ?_, ?_⟩
  · exact hid ((HB.out.setPg (pg + n)).ext ((Ext.refl _).alloc _))
  · exact hid (Only.alloc (Only.setCell (S := fun i => i = q) (Only.refl _ _) (.inl rfl) _) _)

end Go.Proofs.Ytgldlkoohfclpaa
