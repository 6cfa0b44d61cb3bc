/- Layer 6: made, as one. -/
import Derived.Test.YtlapemeoffpmgaaCloM
namespace Go.Proofs.Ytlapemeoffpmgaa
set_option linter.unusedSimpArgs false
set_option linter.unusedVariables false
open Go.RowKit

set_option maxRecDepth 100000 in
set_option maxHeartbeats 4000000 in
theorem made_ (t : Bool) (b tp a p ty : Int) (t' : Bool) (b' tp' a' p' ty' : Int) (n u : Int) (h0 : 0 ≤ u) (w : World) : Calls Try.prog 21 #[.agg #[.bool t, .int .i64 b, .int .i64 tp, .int .i64 a, .int .i64 p, .int .i64 ty], .agg #[.bool t', .int .i64 b', .int .i64 tp', .int .i64 a', .int .i64 p', .int .i64 ty'], .int .i64 n, .int .u8 u] w fun e w' => ∃ z : Cap, e = .returned (.agg #[.bool z.tag, .int .i64 z.base, .int .i64 z.top, .int .i64 z.at_, .int .i64 z.perms, .int .i64 z.type]) ∧ z = madeV ⟨t, b, tp, a, p, ty⟩ ⟨t', b', tp', a', p', ty'⟩ n (u.tmod 8) ∧ Ext w w' := by
  have hk : u.tmod 8 = 0 ∨ u.tmod 8 = 1 ∨ u.tmod 8 = 2 ∨ u.tmod 8 = 3 ∨ u.tmod 8 = 4 ∨ u.tmod 8 = 5 ∨ u.tmod 8 = 6 ∨ u.tmod 8 = 7 := by
    rw [Int.tmod_eq_emod_of_nonneg h0]
    omega
  rcases hk with h | h | h | h | h | h | h | h
  · rw [h]; exact made0_ t b tp a p ty t' b' tp' a' p' ty' n u h w
  · rw [h]; exact made1_ t b tp a p ty t' b' tp' a' p' ty' n u h w
  · rw [h]; exact made2_ t b tp a p ty t' b' tp' a' p' ty' n u h w
  · rw [h]; exact made3_ t b tp a p ty t' b' tp' a' p' ty' n u h w
  · rw [h]; exact made4_ t b tp a p ty t' b' tp' a' p' ty' n u h w
  · rw [h]; exact made5_ t b tp a p ty t' b' tp' a' p' ty' n u h w
  · rw [h]; exact made6_ t b tp a p ty t' b' tp' a' p' ty' n u h w
  · rw [h]
    by_cases e : ty = 1
    · subst e
      exact (made7a_ t b tp a p t' b' tp' a' p' ty' n u h w).mono fun e w' h1 => ⟨⟨t, b, tp, a, p, 0⟩, h1.1, rfl, h1.2⟩
    · exact (made7b_ t b tp a p ty t' b' tp' a' p' ty' n u h e w).mono fun e' w' h1 => ⟨⟨t, b, tp, a, p, ty⟩, h1.1, by unfold madeV; simp only [if_neg e]; rfl, h1.2⟩

end Go.Proofs.Ytlapemeoffpmgaa
