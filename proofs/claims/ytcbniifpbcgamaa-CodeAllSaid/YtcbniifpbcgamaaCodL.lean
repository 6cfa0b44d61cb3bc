/- Layer 15: where All stops; the same instructions. -/
import Derived.Test.YtcbniifpbcgamaaCodK
namespace Go.Proofs.Ytcbniifpbcgamaa
set_option linter.unusedSimpArgs false
set_option linter.unusedVariables false
open Go.RowKit


/-- Where it stops. -/
def Stop (l : List Int) (K : Nat) : Prop := (∀ j, j < K → okK l j = true) ∧ 4 * K ≤ l.length ∧ (4 * K = l.length ∨ (4 * K + 4 ≤ l.length ∧ okK l K = false) ∨ (4 * K < l.length ∧ l.length < 4 * K + 4))
theorem stop_unique {l : List Int} {K K' : Nat} (h : Stop l K) (h' : Stop l K') : K = K' := by
  have key : ∀ {A B : Nat}, Stop l A → Stop l B → ¬ A < B := by
    rintro A B ⟨_, _, ha⟩ ⟨hb, hbl, _⟩ hlt
    have h1 := hb A hlt
    rcases ha with h2 | ⟨h2, h3⟩ | ⟨h2, h3⟩
    · omega
    · rw [h1] at h3; cases h3
    · omega
  have h1 := key h h'
  have h2 := key h' h
  omega
theorem stop_exists (l : List Int) : ∃ K, Stop l K := by
  have key : ∀ m, (∃ K, Stop l K) ∨ ((∀ j, j < m → okK l j = true) ∧ 4 * m ≤ l.length) := by
    intro m
    induction m with
    | zero => exact .inr ⟨fun j hj => absurd hj (by omega), by omega⟩
    | succ m ih =>
      rcases ih with h | ⟨h1, h2⟩
      · exact .inl h
      · by_cases h3 : 4 * m = l.length
        · exact .inl ⟨m, h1, h2, .inl h3⟩
        · by_cases h4 : 4 * m + 4 ≤ l.length
          · cases h5 : okK l m with
            | true => exact .inr ⟨upto_snoc h1 h5, by omega⟩
            | false => exact .inl ⟨m, h1, h2, .inr (.inl ⟨h4, h5⟩)⟩
          · exact .inl ⟨m, h1, h2, .inr (.inr ⟨by omega, by omega⟩)⟩
  rcases key (l.length + 1) with h | ⟨_, h⟩
  · exact h
  · omega
theorem AllPost.full {l : List Int} {w w' : World} {e : Ending} (h : AllPost l w e w') {K : Nat} (hK : Stop l K) (h0 : 4 * K = l.length) : Ext w w' ∧ ∃ A ca, e = .returned (.tuple #[.slice A K ca, .int .i64 l.length, .int .i64 0]) ∧ RdI w' A K (insK l) := by
  obtain ⟨hx, K', h1, h2, h3⟩ := h
  rcases h3 with ⟨h4, h5⟩ | ⟨h4, h5, h6⟩ | ⟨h4, h5, h6⟩
  · obtain rfl := stop_unique hK ⟨h1, h2, .inl h4⟩
    exact ⟨hx, h5⟩
  · obtain rfl := stop_unique hK ⟨h1, h2, .inr (.inl ⟨h4, h5⟩)⟩
    omega
  · obtain rfl := stop_unique hK ⟨h1, h2, .inr (.inr ⟨h4, h5⟩)⟩
    omega
theorem AllPost.bad {l : List Int} {w w' : World} {e : Ending} (h : AllPost l w e w') {K : Nat} (hK : Stop l K) (h0 : 4 * K + 4 ≤ l.length ∧ okK l K = false) : e = .returned (.tuple #[.slice none 0 0, .int .i64 (4 * (K : Int)), .int .i64 151]) ∧ Ext w w' := by
  obtain ⟨hx, K', h1, h2, h3⟩ := h
  rcases h3 with ⟨h4, h5⟩ | ⟨h4, h5, h6⟩ | ⟨h4, h5, h6⟩
  · obtain rfl := stop_unique hK ⟨h1, h2, .inl h4⟩
    omega
  · obtain rfl := stop_unique hK ⟨h1, h2, .inr (.inl ⟨h4, h5⟩)⟩
    exact ⟨h6, hx⟩
  · obtain rfl := stop_unique hK ⟨h1, h2, .inr (.inr ⟨h4, h5⟩)⟩
    omega
theorem AllPost.cut {l : List Int} {w w' : World} {e : Ending} (h : AllPost l w e w') {K : Nat} (hK : Stop l K) (h0 : 4 * K < l.length ∧ l.length < 4 * K + 4) : e = .returned (.tuple #[.slice none 0 0, .int .i64 (4 * (K : Int)), .int .i64 1]) ∧ Ext w w' := by
  obtain ⟨hx, K', h1, h2, h3⟩ := h
  rcases h3 with ⟨h4, h5⟩ | ⟨h4, h5, h6⟩ | ⟨h4, h5, h6⟩
  · obtain rfl := stop_unique hK ⟨h1, h2, .inl h4⟩
    omega
  · obtain rfl := stop_unique hK ⟨h1, h2, .inr (.inl ⟨h4, h5⟩)⟩
    omega
  · obtain rfl := stop_unique hK ⟨h1, h2, .inr (.inr ⟨h4, h5⟩)⟩
    exact ⟨h6, hx⟩
set_option maxHeartbeats 2000000 in
theorem same_ (A B : Option Addr) (n ca cb : Nat) (M : Nat → I4) (w : World) (hA : RdI w A n M) (hB : RdI w B n M) (hn : n ≤ 1000000000) :
    Calls Try.prog 21 #[.slice A n ca, .slice B n cb] w fun e w' => e = .returned (.bool true) ∧ Ext w w' := by
  have HA := hid hA
  have HB := hid hB
  clear hA hB
  go_enter Try.func21, Try.ntmps21
  go_wp2
  go_loopw [5] (fun i wr => ∃ k : Nat, k ≤ n ∧ i = .int .i64 k ∧ Ext w wr) (fun i _ => n - (intOf i).toNat)
  case atStart => exact ⟨0, Nat.zero_le _, rfl, (by repeat (first | (with_reducible exact Ext.refl _) | (with_reducible refine Ext.undrew ?_) | (with_reducible refine Ext.grow ?_ _) | (with_reducible refine Ext.drew ?_) | (with_reducible refine Ext.drewN ?_ _) | (with_reducible refine Ext.alloc ?_ _) | (with_reducible assumption) | ((with_reducible refine Ext.setCell ?_ ?_ _); rotate_left; (first | exact Nat.le_refl _ | ((try dsimp only); (try simp only [World.size_alloc, grow_size, World.size_setCell]); omega)))))⟩
  case round =>
    obtain ⟨k, hk, rfl, hx⟩ := hrel
    by_cases hlt : k < n
    · obtain ⟨b1, o1, rfl, hb1, h1⟩ := (HA.out.ext hx) (by omega)
      obtain ⟨b2, o2, rfl, hb2, h2⟩ := (HB.out.ext hx) (by omega)
      obtain ⟨c0, c1, c2, c3⟩ := h1 k hlt
      obtain ⟨d0, d1, d2, d3⟩ := h2 k hlt
      clear h1 h2
      have hk0 : (0 : Int) ≤ (k : Int) := by omega
      have hk1 : (k : Int) < (n : Int) := by omega
      go_wp2
      refine wp_region_grow (by kernel_rfl) (by kernel_rfl) (by first | (simp only [List.append]; rfl) | rfl) ?_; (repeat (first | ((first | refine quiet_pick_and (by rfl) (by rfl) (by rfl) (by rfl) ?_ | refine quiet_pick_or (by rfl) (by rfl) (by rfl) (by rfl) ?_); simp only [Act.put, List.setIfInBounds_toArray, List.set_cons_zero, List.set_cons_succ]) | go_big_quiet_step (fail) | (refine quiet_guard (v := ?_) (by rfl) (by rfl) (fun hX w hC => ?_) ?_; rotate_left; (obtain ⟨d, rfl⟩ := hC; (try simp only [Bool.and_eq_true, Bool.or_eq_false_iff] at hX); go_split_ands; go_simp; (first | with_reducible rfl | fail)); simp only [Act.put, List.setIfInBounds_toArray, List.set_cons_zero, List.set_cons_succ]))); refine wpQuiet_nil ?_; intro wq hq; obtain ⟨d, rfl⟩ := hq
      go_wp2
      go_roundw
      case rel => exact ⟨k + 1, by omega, by go_num, (by repeat (first | (with_reducible exact Ext.refl _) | (with_reducible refine Ext.undrew ?_) | (with_reducible refine Ext.grow ?_ _) | (with_reducible refine Ext.drew ?_) | (with_reducible refine Ext.drewN ?_ _) | (with_reducible refine Ext.alloc ?_ _) | (with_reducible assumption) | ((with_reducible refine Ext.setCell ?_ ?_ _); rotate_left; (first | exact Nat.le_refl _ | ((try dsimp only); (try simp only [World.size_alloc, grow_size, World.size_setCell]); omega)))))⟩
      case measure => simp [intOf]; omega
    · go_wp2
      go_ret
      exact ⟨rfl, (by repeat (first | (with_reducible exact Ext.refl _) | (with_reducible refine Ext.undrew ?_) | (with_reducible refine Ext.grow ?_ _) | (with_reducible refine Ext.drew ?_) | (with_reducible refine Ext.drewN ?_ _) | (with_reducible refine Ext.alloc ?_ _) | (with_reducible assumption) | ((with_reducible refine Ext.setCell ?_ ?_ _); rotate_left; (first | exact Nat.le_refl _ | ((try dsimp only); (try simp only [World.size_alloc, grow_size, World.size_setCell]); omega)))))⟩


end Go.Proofs.Ytcbniifpbcgamaa
