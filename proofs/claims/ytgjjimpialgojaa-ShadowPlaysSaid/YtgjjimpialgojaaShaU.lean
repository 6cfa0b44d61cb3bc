/- Layer 8: a capability at a block. -/
import Derived.Test.YtgjjimpialgojaaShaT
namespace Go.Proofs.Ytgjjimpialgojaa
set_option linter.unusedSimpArgs false
set_option linter.unusedVariables false
open Go.RowKit


/-- A capability at a block. -/
structure CapAt (w : World) (b : Nat) (t : Bool) (bb tp a pm ty : Int) : Prop where
  lt : b < w.heap.size
  c0 : w.cell? ⟨b, 0, none⟩ = some (.bool t)
  c1 : w.cell? ⟨b, 1, none⟩ = some (.int .i64 bb)
  c2 : w.cell? ⟨b, 2, none⟩ = some (.int .i64 tp)
  c3 : w.cell? ⟨b, 3, none⟩ = some (.int .i64 a)
  c4 : w.cell? ⟨b, 4, none⟩ = some (.int .i64 pm)
  c5 : w.cell? ⟨b, 5, none⟩ = some (.int .i64 ty)
theorem CapAt.only {S : Nat → Prop} {w w' : World} {b : Nat} {t : Bool} {bb tp a pm ty : Int} (h : CapAt w b t bb tp a pm ty) (x : Only S w w') (hs : ¬ S b) : CapAt w' b t bb tp a pm ty :=
  ⟨Nat.lt_of_lt_of_le h.lt x.size, (x.cells b _ h.lt hs).trans h.c0, (x.cells b _ h.lt hs).trans h.c1, (x.cells b _ h.lt hs).trans h.c2, (x.cells b _ h.lt hs).trans h.c3, (x.cells b _ h.lt hs).trans h.c4, (x.cells b _ h.lt hs).trans h.c5⟩
theorem CapAt.ext {w w' : World} {b : Nat} {t : Bool} {bb tp a pm ty : Int} (h : CapAt w b t bb tp a pm ty) (x : Ext w w') : CapAt w' b t bb tp a pm ty := h.only (Only.ofExt (S := fun _ => False) x) id

end Go.Proofs.Ytgjjimpialgojaa
