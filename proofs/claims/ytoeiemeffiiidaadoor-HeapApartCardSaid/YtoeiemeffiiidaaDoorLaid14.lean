/- Layer 14: what the listed variable gives a walk. -/
import Derived.Test.YtoeiemeffiiidaaDoorMhSiz
import Derived.Test.YtoeiemeffiiidaaDoorMBase
import Derived.LaidMore
import Derived.Lay
import Derived.SevenTiedAt
import Derived.Stop.Joined
namespace Go.Proofs.YtoeiemeffiiidaaDoor
set_option linter.unusedSimpArgs false
set_option linter.unusedVariables false
open Go.RowKit

open Go.ChangeShapes Go.WideShapes Go.ChangeAt Go.RowKit Go.Deep
def laidList : List (String × DataW Unit) := [("seizin/size.table", Rows.laid_seizin_size_table)]
/-- What the condition gives a walk: the table's cells. -/
theorem tab_of_laid {W : World} (h : laidMetH Tryd.prog laidList W) : Tab W := by
  rw [MakeChecks.laidMetH_plain _ _ _ (by kernel_rfl)] at h
  obtain ⟨ps, ⟨g, t, cs, fuel, p, q, hg, ht, hv, hd, _, _⟩, _, _⟩ := h
  obtain rfl := Option.some.inj ((show Tryd.prog.globalNamed "seizin/size.table" = some 0 by kernel_rfl).symm.trans hg)
  obtain rfl := Option.some.inj ((show (Tryd.prog.globals[0]?).map (·.type) = some 112 by kernel_rfl).symm.trans ht)
  obtain ⟨xs, m, _, ex, _, hl, hel⟩ := DataW.trod_array Tryd.underlying112 hd
  have c5 : Tryd.prog.cellsOf 3 = 1 := by kernel_rfl
  have e3 : (xs.map (·.1)) = [.lit (.int .i64 16), .lit (.int .i64 32), .lit (.int .i64 48), .lit (.int .i64 64), .lit (.int .i64 80), .lit (.int .i64 96), .lit (.int .i64 112), .lit (.int .i64 128), .lit (.int .i64 192), .lit (.int .i64 256), .lit (.int .i64 384), .lit (.int .i64 512), .lit (.int .i64 768), .lit (.int .i64 1024)] := (DataW.agg.inj (Prod.mk.inj ex).1).symm
  have key : ∀ r (hr : r < 14), W.cell? ⟨0, r, none⟩ = some (.int .i64 (([16, 32, 48, 64, 80, 96, 112, 128, 192, 256, 384, 512, 768, 1024] : List Int).getD r 0)) := fun r hr => by
    have hE := hel r hr
    rw [c5, Nat.mul_one, List.getElem?_eq_getElem (by omega)] at hE
    obtain ⟨z, e1, e2, _⟩ := DataW.trod_int Tryd.underlying3 hE
    have e4 : (xs.map (·.1))[r]? = ([.lit (.int .i64 16), .lit (.int .i64 32), .lit (.int .i64 48), .lit (.int .i64 64), .lit (.int .i64 80), .lit (.int .i64 96), .lit (.int .i64 112), .lit (.int .i64 128), .lit (.int .i64 192), .lit (.int .i64 256), .lit (.int .i64 384), .lit (.int .i64 512), .lit (.int .i64 768), .lit (.int .i64 1024)] : List (DataW Unit))[r]? := by rw [e3]
    rw [List.getElem?_map, List.getElem?_eq_getElem (by omega : r < xs.length), e2] at e4
    have hz : z = ([16, 32, 48, 64, 80, 96, 112, 128, 192, 256, 384, 512, 768, 1024] : List Int).getD r 0 := by
      match r, hr with
      | 0, _ => simpa using e4
      | 1, _ => simpa using e4
      | 2, _ => simpa using e4
      | 3, _ => simpa using e4
      | 4, _ => simpa using e4
      | 5, _ => simpa using e4
      | 6, _ => simpa using e4
      | 7, _ => simpa using e4
      | 8, _ => simpa using e4
      | 9, _ => simpa using e4
      | 10, _ => simpa using e4
      | 11, _ => simpa using e4
      | 12, _ => simpa using e4
      | 13, _ => simpa using e4
    rw [World.var?_cell hg hv r, ← hz]
    have : cs.toList[r]? = some (.int .i64 z) := by
      have h0 : ((cs.toList.drop r).take 1)[0]? = some (.int .i64 z) := by rw [e1]; rfl
      simpa using h0
    simpa using this
  refine ⟨key 0 (by omega), key 1 (by omega), key 2 (by omega), key 3 (by omega), key 4 (by omega), key 5 (by omega), key 6 (by omega), key 7 (by omega), key 8 (by omega), key 9 (by omega), key 10 (by omega), key 11 (by omega), key 12 (by omega), key 13 (by omega), ?_⟩
  have h0 := key 0 (by omega)
  unfold World.cell? at h0
  split at h0
  · rename_i hh
    exact (Array.getElem?_eq_some_iff.1 hh).1
  · simp at h0

end Go.Proofs.YtoeiemeffiiidaaDoor
