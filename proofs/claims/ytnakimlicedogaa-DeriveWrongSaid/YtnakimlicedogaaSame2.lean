/- The document's answers of layers 1 and 2 are the code's. -/
import Derived.Test.YtnakimlicedogaaCapM
namespace Go.Proofs.Ytnakimlicedogaa
set_option linter.unusedSimpArgs false
set_option linter.unusedVariables false
open Go.RowKit

theorem rhasB (p q : Int)  (w : World) : Calls Try.prog 45 #[.int .i64 p, .int .i64 q] w fun e w' => e = .returned (.bool (hasB p q)) ∧ w = w' := by
  rw [← hasR_has]; exact rhas p q w
theorem rcapInC (t : Bool) (b tp a p ty : Int) (x n : Int)  (w : World) : Calls Try.prog 29 #[.agg #[.bool t, .int .i64 b, .int .i64 tp, .int .i64 a, .int .i64 p, .int .i64 ty], .int .i64 x, .int .i64 n] w fun e w' => e = .returned (.bool (inC ⟨t, b, tp, a, p, ty⟩ x n)) ∧ Ext w w' := by
  rw [← inR_in]; exact rcapIn t b tp a p ty x n w
theorem rcapUnderC (t : Bool) (b tp a p ty : Int) (t' : Bool) (b' tp' a' p' ty' : Int)  (w : World) : Calls Try.prog 28 #[.agg #[.bool t, .int .i64 b, .int .i64 tp, .int .i64 a, .int .i64 p, .int .i64 ty], .agg #[.bool t', .int .i64 b', .int .i64 tp', .int .i64 a', .int .i64 p', .int .i64 ty']] w fun e w' => e = .returned (.bool (underC ⟨t, b, tp, a, p, ty⟩ ⟨t', b', tp', a', p', ty'⟩)) ∧ Ext w w' := by
  rw [← underR_under]; exact rcapUnder t b tp a p ty t' b' tp' a' p' ty' w
theorem rmodL (n : Int) (h0 : -9223372036854775808 ≤ n) (h1 : n ≤ 9223372036854775807) (w : World) : Calls Try.prog 41 #[.int .i64 n] w fun e w' => e = .returned (.int .i64 (low32 n)) ∧ w = w' := by
  rw [← modR_low n h0 h1]; exact rmod n w
end Go.Proofs.Ytnakimlicedogaa
