/- Layer 17: values; outside, none. -/
import Derived.Test.YtgldlkoohfclpaaRwF
import Derived.Test.YtgldlkoohfclpaaM17C
namespace Go.Proofs.Ytgldlkoohfclpaa
set_option linter.unusedSimpArgs false
set_option linter.unusedVariables false
open Go.RowKit

/-- A compartment as it lies in memory: its code, and how many pages of data. -/
structure Cmp where
  A : Option Addr
  ca : Nat
  bl : List Int
  data : Int
structure Lnk where
  fr : Int
  to_ : Int
  at_ : Int
deriving DecidableEq
structure Shr where
  rd : Int
  wr_ : Int
deriving DecidableEq
def Cmp.cells (d : Cmp) : List Value := [.slice d.A d.bl.length d.ca, .int .i64 d.data]
def Lnk.cells (d : Lnk) : List Value := [.int .i64 d.fr, .int .i64 d.to_, .int .i64 d.at_]
def Shr.cells (d : Shr) : List Value := [.int .i64 d.rd, .int .i64 d.wr_]
theorem cmp_len (d : Cmp) : d.cells.length = 2 := rfl
theorem lnk_len (d : Lnk) : d.cells.length = 3 := rfl
theorem shr_len (d : Shr) : d.cells.length = 2 := rfl
theorem lnk_one : ∀ d : Lnk, ∀ u ∈ d.cells, u.oneCell' = true := by
  intro d u hu
  simp only [Lnk.cells, List.mem_cons, List.not_mem_nil, or_false] at hu
  rcases hu with rfl | rfl | rfl <;> rfl
theorem info_lnkN : InfoN Try.prog 68 3 24 := infoN_of (by kernel_rfl)
def boolF (b : Bool) : List Value := [.bool b]
theorem boolF_len (b : Bool) : (boolF b).length = 1 := rfl
/-- An image as it lies in memory. -/
structure Img where
  strict : Bool
  heap : Int
  full : Int
  C : Option Addr
  cc : Nat
  comps : List Cmp
  L : Option Addr
  lc : Nat
  links : List Lnk
  S : Option Addr
  sc : Nat
  shares : List Shr
structure ImgAt (w : World) (x : Img) : Prop where
  c : RdF Cmp.cells w x.C x.comps
  cb : ∀ d ∈ x.comps, RdB w d.A d.bl ∧ byteL d.bl ∧ d.bl.length ≤ d.ca ∧ d.ca ≤ maxLen
  l : RdF Lnk.cells w x.L x.links
  s : RdF Shr.cells w x.S x.shares
theorem ImgAt.ext {w w' : World} {x : Img} (h : ImgAt w x) (e : Ext w w') : ImgAt w' x :=
  ⟨h.c.ext e, fun d hd => ⟨(h.cb d hd).1.ext e, (h.cb d hd).2⟩, h.l.ext e, h.s.ext e⟩
def outB (n l m : Int) : Bool := decide (n < l) || decide (m < n)
set_option maxRecDepth 100000 in
set_option maxHeartbeats 4000000 in
theorem outside_ (n l m : Int) (w : World) : Calls Try.prog 36 #[.int .i64 n, .int .i64 l, .int .i64 m] w fun e w' => e = .returned (.bool (outB n l m)) ∧ Ext w w' := by
  unfold outB
  by_cases h : n < l
  · have d1 : decide (n < l) = true := decide_eq_true h
    rw [d1, Bool.true_or]
    go_enter Try.func36, Try.ntmps36
    go_wp2
    go_ret
    exact ⟨rfl, (by repeat (first | (with_reducible exact Ext.refl _) | (with_reducible refine Ext.undrew ?_) | (with_reducible refine Ext.grow ?_ _) | (with_reducible refine Ext.drew ?_) | (with_reducible refine Ext.drewN ?_ _) | (with_reducible refine Ext.alloc ?_ _) | (with_reducible assumption) | ((with_reducible refine Ext.setCell ?_ ?_ _); rotate_left; (first | exact Nat.le_refl _ | ((try dsimp only); (try simp only [World.size_alloc, grow_size, World.size_setCell]); omega)))))⟩
  · have d1 : decide (n < l) = false := decide_eq_false h
    rw [d1, Bool.false_or]
    go_enter Try.func36, Try.ntmps36
    go_wp2
    go_ret
    exact ⟨rfl, (by repeat (first | (with_reducible exact Ext.refl _) | (with_reducible refine Ext.undrew ?_) | (with_reducible refine Ext.grow ?_ _) | (with_reducible refine Ext.drew ?_) | (with_reducible refine Ext.drewN ?_ _) | (with_reducible refine Ext.alloc ?_ _) | (with_reducible assumption) | ((with_reducible refine Ext.setCell ?_ ?_ _); rotate_left; (first | exact Nat.le_refl _ | ((try dsimp only); (try simp only [World.size_alloc, grow_size, World.size_setCell]); omega)))))⟩
theorem idxB_ (A : Option Addr) (n ca : Nat) (bs : List Bool) (w : World) (hA : RdF boolF w A bs) (hn : bs.length = n) (hb : n ≤ 1000000) : Calls Try.prog 78 #[.slice A n ca, .bool true] w fun e w' => ∃ z : Int, e = .returned (.int .i64 z) ∧ decide (0 ≤ z) = bs.any id ∧ Ext w w' := by
  subst hn
  have HA := hid hA
  clear hA
  go_enter Try.func78, Try.ntmps78
  go_wp2
  go_loopw [8] (fun i wr => ∃ k : Nat, k ≤ bs.length ∧ i = .int .i64 k ∧ Hid ((bs.take k).any id = false) ∧ Hid (Ext w wr)) (fun i _ => bs.length - (intOf i).toNat)
  case atStart => exact ⟨0, Nat.zero_le _, rfl, hid rfl, hid (Ext.refl _)⟩
  case round =>
    obtain ⟨k, hk, rfl, HN, HX⟩ := hrel
    by_cases hlt : k < bs.length
    · have hk1 : (k : Int) < (bs.length : Int) := by omega
      have hk0 : (0 : Int) ≤ (k : Int) := by omega
      obtain ⟨d, hd⟩ : ∃ d, bs[k] = d := ⟨_, rfl⟩
      have HT : Hid ((bs.take (k + 1)).any id = d) := hid (by rw [List.take_succ_eq_append_getElem hlt, List.any_append, HN.out, Bool.false_or, hd]; simp)
      have HM : Hid (d ∈ bs) := hid (by rw [← hd]; exact List.getElem_mem _)
      obtain ⟨b, o, rfl, hb1, hrg⟩ := (HA.out.ext HX.out).elem boolF_len hlt d hd
      have c0 := hrg 0 (.bool d) rfl
      simp only [Nat.mul_one, Nat.add_zero] at c0
      clear hd hrg
      cases d with
      | false =>
        go_wp2
        go_roundw
        case rel => exact ⟨k + 1, by omega, by go_num, HT, hid (HX.out.trans (by repeat (first | (with_reducible exact Ext.refl _) | (with_reducible refine Ext.undrew ?_) | (with_reducible refine Ext.grow ?_ _) | (with_reducible refine Ext.drew ?_) | (with_reducible refine Ext.drewN ?_ _) | (with_reducible refine Ext.alloc ?_ _) | (with_reducible assumption) | ((with_reducible refine Ext.setCell ?_ ?_ _); rotate_left; (first | exact Nat.le_refl _ | ((try dsimp only); (try simp only [World.size_alloc, grow_size, World.size_setCell]); omega))))))⟩
        case measure => simp [intOf]; omega
      | true =>
        have hany : bs.any id = true := List.any_eq_true.2 ⟨true, HM.out, rfl⟩
        go_wp2
        go_ret
        exact ⟨k, rfl, by rw [hany]; exact decide_eq_true hk0, HX.out.trans (by repeat (first | (with_reducible exact Ext.refl _) | (with_reducible refine Ext.undrew ?_) | (with_reducible refine Ext.grow ?_ _) | (with_reducible refine Ext.drew ?_) | (with_reducible refine Ext.drewN ?_ _) | (with_reducible refine Ext.alloc ?_ _) | (with_reducible assumption) | ((with_reducible refine Ext.setCell ?_ ?_ _); rotate_left; (first | exact Nat.le_refl _ | ((try dsimp only); (try simp only [World.size_alloc, grow_size, World.size_setCell]); omega)))))⟩
    · obtain rfl : k = bs.length := by omega
      have hany : bs.any id = false := by have := HN.out; rwa [List.take_length] at this
      go_wp2
      go_ret
      exact ⟨_, rfl, by rw [hany]; decide, HX.out⟩
theorem none_ (A : Option Addr) (n ca : Nat) (bs : List Bool) (w : World) (hA : RdF boolF w A bs) (hn : bs.length = n) (hb : n ≤ 1000000) : Calls Try.prog 35 #[.slice A n ca] w fun e w' => e = .returned (.bool (!bs.any id)) ∧ Ext w w' := by
  have HC : Hid (∀ W, Ext w W → Calls Try.prog 65 #[.slice A n ca, .bool true] W fun e w' => e = .returned (.bool (bs.any id)) ∧ Ext W w') := hid (fun W hx => by
    have HI : Hid (∀ V, W = V → Calls Try.prog 78 #[.slice A n ca, .bool true] V fun e w' => ∃ z : Int, e = .returned (.int .i64 z) ∧ decide (0 ≤ z) = bs.any id ∧ Ext V w') := hid (fun V e => by subst e; exact idxB_ A n ca bs W (hA.ext hx) hn hb)
    clear hA
    go_enter Try.func65, Try.ntmps65
    go_wp2_with fail
    refine (HI.out _ rfl).mono ?_; rintro e W1 ⟨z, rfl, hz, hy⟩
    go_wp2
    go_ret
    first | exact ⟨rfl, hy⟩ | exact ⟨by rw [← hz], hy⟩)
  clear hA
  go_enter Try.func35, Try.ntmps35
  go_wp2_with fail
  refine (HC.out _ (by repeat (first | (with_reducible exact Ext.refl _) | (with_reducible refine Ext.undrew ?_) | (with_reducible refine Ext.grow ?_ _) | (with_reducible refine Ext.drew ?_) | (with_reducible refine Ext.drewN ?_ _) | (with_reducible refine Ext.alloc ?_ _) | (with_reducible assumption) | ((with_reducible refine Ext.setCell ?_ ?_ _); rotate_left; (first | exact Nat.le_refl _ | ((try dsimp only); (try simp only [World.size_alloc, grow_size, World.size_setCell]); omega)))))).mono ?_; rintro e W1 ⟨rfl, hy⟩
  go_wp2
  go_ret
  exact ⟨rfl, hy⟩

end Go.Proofs.Ytgldlkoohfclpaa
