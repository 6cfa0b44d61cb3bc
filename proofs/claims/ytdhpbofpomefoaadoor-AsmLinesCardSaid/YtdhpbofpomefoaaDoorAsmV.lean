/- Layer 16: how instructions are written (values alone). -/
import Derived.Test.YtdhpbofpomefoaaDoorM6Cod
import Derived.Lib.AtoiAll
import Derived.Lib.ItoaMem
import Derived.Lib.Fields
import Derived.Lib.Split
namespace Go.Proofs.YtdhpbofpomefoaaDoor
set_option linter.unusedSimpArgs false
set_option linter.unusedVariables false
open Go.RowKit

/-! ### Numerals -/
theorem pu_cons (acc : Nat) (c : UInt8) (r : List UInt8) : Lib.parseUint10 acc (c :: r) = (if 48 ≤ c.toNat ∧ c.toNat ≤ 57 then (if 1844674407370955162 ≤ acc then .range else if 18446744073709551616 ≤ acc * 10 + (c.toNat - 48) then .range else Lib.parseUint10 (acc * 10 + (c.toNat - 48)) r) else .syntax) := rfl
theorem pu_app (acc : Nat) : ∀ (l : List UInt8) (m : List UInt8), Lib.parseUint10 acc (l ++ m) = (match Lib.parseUint10 acc l with | .ok v => Lib.parseUint10 v m | .syntax => .syntax | .range => .range)
  | [], m => rfl
  | c :: r, m => by
    rw [List.cons_append, pu_cons, pu_cons]
    split
    · split
      · rfl
      · split
        · rfl
        · exact pu_app _ r m
    · rfl
theorem dig_toNat {d : Nat} (h : d < 10) : (UInt8.ofNat (48 + d)).toNat = 48 + d := by
  rw [UInt8.toNat_ofNat']
  omega
theorem pu_dig {acc d : Nat} (hd : d < 10) (ha : acc < 100000000000000000) : Lib.parseUint10 acc [UInt8.ofNat (48 + d)] = .ok (acc * 10 + d) := by
  unfold Lib.parseUint10
  rw [dig_toNat hd, if_pos (by omega), if_neg (by omega), if_neg (by omega)]
  show Lib.NumEnd.ok _ = _
  congr 1
  omega

theorem pu_dec : ∀ (u : Nat), u < 100000000000000000 → Lib.parseUint10 0 (Lib.decDigits u) = .ok u := by
  intro u
  induction u using Nat.strongRecOn with
  | ind u ih =>
    intro hu
    rw [Lib.decDigits]
    split
    · rename_i h
      have := pu_dig (acc := 0) h (by omega)
      rwa [Nat.zero_mul, Nat.zero_add] at this
    · rename_i h
      rw [pu_app, ih (u / 10) (by omega) (by omega)]
      show Lib.parseUint10 (u / 10) [UInt8.ofNat (48 + u % 10)] = _
      rw [pu_dig (by omega) (by omega)]
      congr 1
      omega
theorem dec_digits : ∀ (u : Nat), ∀ b ∈ Lib.decDigits u, 48 ≤ b.toNat ∧ b.toNat ≤ 57 := by
  intro u
  induction u using Nat.strongRecOn with
  | ind u ih =>
    rw [Lib.decDigits]
    split
    · rename_i h
      intro b hb
      obtain rfl : b = UInt8.ofNat (48 + u) := by simpa using hb
      rw [dig_toNat h]
      omega
    · rename_i h
      intro b hb
      rcases List.mem_append.1 hb with hb | hb
      · exact ih (u / 10) (by omega) b hb
      · obtain rfl : b = UInt8.ofNat (48 + u % 10) := by simpa using hb
        rw [dig_toNat (by omega)]
        omega
theorem dec_ne (u : Nat) : Lib.decDigits u ≠ [] := by
  rw [Lib.decDigits]
  split <;> simp
theorem dec_cons (u : Nat) : ∃ c r, Lib.decDigits u = c :: r ∧ 48 ≤ c.toNat ∧ c.toNat ≤ 57 := by
  cases h : Lib.decDigits u with
  | nil => exact absurd h (dec_ne u)
  | cons c r => exact ⟨c, r, rfl, dec_digits u c (by rw [h]; exact List.mem_cons_self)⟩
theorem itoa_nn (u : Nat) : Lib.itoa (u : Int) = Lib.decDigits u := by
  unfold Lib.itoa
  rw [if_neg (by omega)]
  rfl
theorem itoa_ng (u : Nat) (h : 0 < u) : Lib.itoa (-(u : Int)) = 45 :: Lib.decDigits u := by
  unfold Lib.itoa
  rw [if_pos (by omega)]
  congr 2
  omega
/-- What Atoi tells of any text, the error aside. -/
def valA (l : List UInt8) : Int := match Lib.atoiAll l with | .ok v => v | .syntax => 0 | .range => Lib.atoiSat l
theorem valA_itoa (n : Int) (h0 : -1000000 ≤ n) (h1 : n ≤ 1000000) : valA (Lib.itoa n) = n := by
  rcases Int.lt_or_le n 0 with h | h
  · obtain ⟨u, rfl⟩ : ∃ u : Nat, n = -(u : Int) := ⟨n.natAbs, by omega⟩
    rw [itoa_ng u (by omega)]
    unfold valA Lib.atoiAll Lib.parseMag
    simp only [show (45 : UInt8).toNat = 45 from rfl, if_pos, or_true, dec_ne u, if_false]
    rw [pu_dec u (by omega)]
    simp only
    rw [if_neg (by simp), if_neg (by omega)]
  · obtain ⟨u, rfl⟩ : ∃ u : Nat, n = (u : Int) := ⟨n.toNat, by omega⟩
    rw [itoa_nn]
    obtain ⟨c, r, hc, c0, c1⟩ := dec_cons u
    have hp := pu_dec u (by omega)
    unfold valA Lib.atoiAll Lib.parseMag
    rw [hc] at hp ⊢
    have e1 : ¬ (c.toNat = 43 ∨ c.toNat = 45) := by omega
    have e2 : ¬ c.toNat = 45 := by omega
    simp only [show (if c.toNat = 43 ∨ c.toNat = 45 then r else c :: r) = c :: r from if_neg e1, reduceCtorEq, if_false]
    rw [hp]
    simp only
    rw [if_neg (by omega), if_neg (by omega)]
    simp only
    rw [if_neg e2]
/-- What the document's number tells of any text. -/
def numStep (n : Int) (b : UInt8) : Int := if 48 ≤ b.toNat ∧ b.toNat ≤ 57 then 10 * n + (b.toNat : Int) - 48 else n
def numR (l : List UInt8) : Int := if l.head? = some 45 then -((l.take 7).foldl numStep 0) else (l.take 7).foldl numStep 0
theorem nf_dec : ∀ (u : Nat), (Lib.decDigits u).foldl numStep 0 = (u : Int) := by
  intro u
  induction u using Nat.strongRecOn with
  | ind u ih =>
    rw [Lib.decDigits]
    split
    · rename_i h
      simp only [List.foldl_cons, List.foldl_nil, numStep]
      rw [dig_toNat h, if_pos (by omega)]
      omega
    · rename_i h
      rw [List.foldl_append, ih (u / 10) (by omega)]
      simp only [List.foldl_cons, List.foldl_nil, numStep]
      rw [dig_toNat (by omega), if_pos (by omega)]
      omega
theorem dec_len : ∀ (k u : Nat), u < 10 ^ (k + 1) → (Lib.decDigits u).length ≤ k + 1
  | 0, u, h => by
    rw [Lib.decDigits, dif_pos (by simpa using h)]
    simp
  | k + 1, u, h => by
    rw [Lib.decDigits]
    split
    · simp
    · have := dec_len k (u / 10) (by rw [Nat.pow_succ] at h; omega)
      rw [List.length_append]
      simp only [List.length_cons, List.length_nil]
      omega
theorem numR_itoa (n : Int) (h0 : -99999 ≤ n) (h1 : n ≤ 99999) : numR (Lib.itoa n) = n := by
  rcases Int.lt_or_le n 0 with h | h
  · obtain ⟨u, rfl⟩ : ∃ u : Nat, n = -(u : Int) := ⟨n.natAbs, by omega⟩
    rw [itoa_ng u (by omega)]
    have hl := dec_len 4 u (by omega)
    unfold numR
    rw [if_pos (show (45 :: Lib.decDigits u).head? = some 45 from rfl), List.take_of_length_le (by rw [List.length_cons]; omega), List.foldl_cons, show numStep 0 45 = 0 from rfl, nf_dec]
  · obtain ⟨u, rfl⟩ : ∃ u : Nat, n = (u : Int) := ⟨n.toNat, by omega⟩
    rw [itoa_nn]
    have hl := dec_len 4 u (by omega)
    obtain ⟨c, r, hc, c0, c1⟩ := dec_cons u
    unfold numR
    rw [if_neg (by rw [hc]; intro e; obtain rfl : c = 45 := (by simpa using e); exact absurd c0 (by decide)), List.take_of_length_le (by omega), nf_dec]
theorem numR_reg (n : Int) (h0 : 0 ≤ n) (h1 : n ≤ 9) : numR (114 :: Lib.itoa n) = n := by
  obtain ⟨u, rfl⟩ : ∃ u : Nat, n = (u : Int) := ⟨n.toNat, by omega⟩
  rw [itoa_nn]
  have hl := dec_len 0 u (by omega)
  unfold numR
  rw [if_neg (by simp), List.take_of_length_le (by rw [List.length_cons]; omega), List.foldl_cons, show numStep 0 114 = 0 from rfl, nf_dec]
theorem itoa_no (n : Int) (c : UInt8) (hc : c.toNat < 45) : c ∉ Lib.itoa n := by
  intro h
  rcases Int.lt_or_le n 0 with hn | hn
  · obtain ⟨u, rfl⟩ : ∃ u : Nat, n = -(u : Int) := ⟨n.natAbs, by omega⟩
    rw [itoa_ng u (by omega)] at h
    rcases List.mem_cons.1 h with rfl | h
    · exact absurd hc (by decide)
    · have := dec_digits u c h; omega
  · obtain ⟨u, rfl⟩ : ∃ u : Nat, n = (u : Int) := ⟨n.toNat, by omega⟩
    rw [itoa_nn] at h
    have := dec_digits u c h; omega

/-! ### Words -/
theorem index_miss : ∀ (l : List UInt8), (32 : UInt8) ∉ l → Lib.index l [32] = -1
  | [], _ => rfl
  | b :: l, h => by
    obtain ⟨h1, h2⟩ : ¬ (32 : UInt8) = b ∧ (32 : UInt8) ∉ l := by simpa using h
    unfold Lib.index
    rw [if_neg (by simpa using h1), index_miss l h2]
    rfl
theorem index_hit : ∀ (l r : List UInt8), (32 : UInt8) ∉ l → Lib.index (l ++ 32 :: r) [32] = (l.length : Int)
  | [], r, _ => by
    show Lib.index (32 :: r) [32] = 0
    unfold Lib.index
    rw [if_pos (by simp)]
  | b :: l, r, h => by
    obtain ⟨h1, h2⟩ : ¬ (32 : UInt8) = b ∧ (32 : UInt8) ∉ l := by simpa using h
    rw [List.cons_append]
    unfold Lib.index
    rw [if_neg (by simpa using h1), index_hit l r h2, if_neg (by first | (simp; done) | (simp; omega)), List.length_cons]
    omega
theorem splitK_succ (sep : List UInt8) (k : Nat) (s : List UInt8) : Lib.splitK sep 0 (k + 1) s = if Lib.index s sep == -1 then [s] else s.take ((Lib.index s sep).toNat + 0) :: Lib.splitK sep 0 k (s.drop ((Lib.index s sep).toNat + sep.length)) := rfl
def words (l : List UInt8) : List (List UInt8) := Lib.split l [32]
theorem words_one {l : List UInt8} (h : (32 : UInt8) ∉ l) : words l = [l] := by
  unfold words Lib.split
  rw [Lib.count_miss (index_miss l h)]
  rfl
theorem words_more {l r : List UInt8} (h : (32 : UInt8) ∉ l) : words (l ++ 32 :: r) = l :: words r := by
  unfold words Lib.split
  have hi := index_hit l r h
  rw [Lib.count_hit (by simp) hi, Nat.add_comm]
  rw [splitK_succ, if_neg (by rw [hi]; first | (simp; done) | (simp; omega)), hi]
  simp
/-- The document's way to words. -/
def wordsGo : List UInt8 → List UInt8 → List (List UInt8)
  | cur, [] => [cur]
  | cur, b :: l => if b = 32 then cur :: wordsGo [] l else wordsGo (cur ++ [b]) l
theorem wordsGo_cons (cur l : List UInt8) (b : UInt8) : wordsGo cur (b :: l) = if b = 32 then cur :: wordsGo [] l else wordsGo (cur ++ [b]) l := rfl
theorem wordsGo_one : ∀ (l cur : List UInt8), (32 : UInt8) ∉ l → wordsGo cur l = [cur ++ l]
  | [], cur, _ => by rw [List.append_nil]; rfl
  | b :: l, cur, h => by
    obtain ⟨h1, h2⟩ : ¬ (32 : UInt8) = b ∧ (32 : UInt8) ∉ l := by simpa using h
    rw [wordsGo_cons, if_neg (fun e => h1 e.symm), wordsGo_one l _ h2, List.append_assoc]
    rfl
theorem wordsGo_more : ∀ (l cur r : List UInt8), (32 : UInt8) ∉ l → wordsGo cur (l ++ 32 :: r) = (cur ++ l) :: wordsGo [] r
  | [], cur, r, _ => by rw [List.append_nil]; rfl
  | b :: l, cur, r, h => by
    obtain ⟨h1, h2⟩ : ¬ (32 : UInt8) = b ∧ (32 : UInt8) ∉ l := by simpa using h
    rw [List.cons_append, wordsGo_cons, if_neg (fun e => h1 e.symm), wordsGo_more l _ r h2, List.append_assoc]
    rfl
theorem words_go : ∀ (n : Nat) (l : List UInt8), l.length ≤ n → words l = wordsGo [] l := by
  intro n
  induction n with
  | zero =>
    intro l h
    obtain rfl : l = [] := List.eq_nil_of_length_eq_zero (by omega)
    rw [words_one (by simp)]
    rfl
  | succ n ih =>
    intro l h
    by_cases hm : (32 : UInt8) ∈ l
    · obtain ⟨a, b, rfl, ha⟩ := List.eq_append_cons_of_mem hm
      rw [words_more ha, wordsGo_more a [] b ha, ih b (by rw [List.length_append, List.length_cons] at h; omega)]
      rfl
    · rw [words_one hm, wordsGo_one l [] hm]
      rfl

/-! ### Names, and how one is written -/
def nmL : List (List UInt8) := [[104, 97, 108, 116], [109, 111, 118, 105], [109, 111, 118], [97, 100, 100], [115, 117, 98], [109, 117, 108], [100, 105, 118], [108, 116], [101, 113], [106, 109, 112], [106, 122], [108, 100, 98], [115, 116, 98], [108, 100, 119], [115, 116, 119], [108, 100, 99], [115, 116, 99], [105, 110, 99], [98, 110, 100], [112, 114, 109], [115, 101, 108], [117, 110, 115], [101, 110, 116], [99, 97, 108, 108], [114, 101, 116], [108, 101, 110], [111, 102, 102], [116, 97, 103], [97, 100, 100, 114], [115, 121, 115]]
def nameL (op : Int) : List UInt8 := if 0 ≤ op ∧ op ≤ 29 then nmL.getD op.toNat [] else []
/-- The kinds of a part: 1 a register, 2 a number, 0 none. -/
def ptK : Nat → List Nat
  | 1 => [0, 0, 0] | 2 => [1, 2, 0] | 3 => [1, 1, 0] | 4 => [1, 1, 1] | 5 => [0, 2, 0] | 6 => [1, 1, 2] | 7 => [2, 0, 0] | _ => []
def argW (k : Nat) (n : Int) : List (List UInt8) := if k = 1 then [114 :: Lib.itoa n] else if k = 2 then [Lib.itoa n] else []
def argsW (op a b c : Int) : List (List UInt8) := match ptK (kd op) with | [x, y, z] => argW x a ++ (argW y b ++ argW z c) | _ => []
def joinW : List (List UInt8) → List UInt8
  | [] => []
  | w :: ws => 32 :: (w ++ joinW ws)
def textL (op a b c : Int) : List UInt8 := if rightI op a b c = true then nameL op ++ joinW (argsW op a b c) else []
theorem kd_names : ∀ op : Fin 30, kd (op.val : Int) ≠ 0 := by decide
theorem kd_range {op : Int} (h : kd op ≠ 0) : 0 ≤ op ∧ op ≤ 29 := by
  unfold kd at h
  repeat' split at h
  all_goals first
    | exact absurd rfl h
    | (rename_i hm; simp only [List.mem_cons, List.not_mem_nil, or_false] at hm; omega)
theorem nm_no : ∀ w ∈ nmL, (32 : UInt8) ∉ w ∧ (10 : UInt8) ∉ w ∧ w ≠ [] := by decide
theorem nm_len : nmL.length = 30 := rfl
theorem nameL_mem {op : Int} (h : 0 ≤ op ∧ op ≤ 29) : nameL op ∈ nmL := by
  unfold nameL
  rw [if_pos h, List.getD_eq_getElem?_getD, List.getElem?_eq_getElem (by rw [nm_len]; omega)]
  exact List.getElem_mem _
theorem right_kd {op a b c : Int} (h : rightI op a b c = true) : kd op ≠ 0 := by
  intro e
  unfold rightI at h
  rw [e] at h
  simp [kA] at h
theorem words_join : ∀ (ws : List (List UInt8)) (w : List UInt8), (32 : UInt8) ∉ w → (∀ v ∈ ws, (32 : UInt8) ∉ v) → words (w ++ joinW ws) = w :: ws
  | [], w, h, _ => by rw [show joinW [] = [] from rfl, List.append_nil, words_one h]
  | v :: ws, w, h, hs => by
    rw [show joinW (v :: ws) = 32 :: (v ++ joinW ws) from rfl, words_more h, words_join ws v (hs v List.mem_cons_self) (fun u hu => hs u (List.mem_cons_of_mem _ hu))]
theorem argW_no (k : Nat) (n : Int) (c : UInt8) (hc : c.toNat < 45) : ∀ v ∈ argW k n, c ∉ v := by
  intro v hv
  unfold argW at hv
  split at hv
  · obtain rfl : v = 114 :: Lib.itoa n := by simpa using hv
    intro h
    rcases List.mem_cons.1 h with rfl | h
    · exact absurd hc (by decide)
    · exact itoa_no n c hc h
  · split at hv
    · obtain rfl : v = Lib.itoa n := by simpa using hv
      exact itoa_no n c hc
    · cases hv
theorem argsW_no (op a b c : Int) (x : UInt8) (hx : x.toNat < 45) : ∀ v ∈ argsW op a b c, x ∉ v := by
  intro v hv
  unfold argsW at hv
  split at hv
  · rcases List.mem_append.1 hv with h | h
    · exact argW_no _ _ x hx v h
    · rcases List.mem_append.1 h with h | h
      · exact argW_no _ _ x hx v h
      · exact argW_no _ _ x hx v h
  · cases hv
theorem words_text {op a b c : Int} (h : rightI op a b c = true) : words (textL op a b c) = nameL op :: argsW op a b c := by
  unfold textL
  rw [if_pos h]
  have hm := nm_no _ (nameL_mem (kd_range (right_kd h)))
  exact words_join _ _ hm.1 (argsW_no op a b c 32 (by decide))
/-! ### What any text tells -/
structure In where
  op : Int
  a : Int
  b : Int
  c : Int
  deriving DecidableEq
def In.ok (x : In) : Bool := rightI x.op x.a x.b x.c
def In.text (x : In) : List UInt8 := textL x.op x.a x.b x.c
def idxN (w : List UInt8) : Int := match nmL.findIdx? (· == w) with | some i => i | none => -1
def trimR : List UInt8 → List UInt8
  | [] => []
  | c :: r => if c = 114 then r else c :: r
def eatN (val : List UInt8 → Int) : List Nat → List (List UInt8) → List Int
  | [], _ => []
  | k :: ks, ws => if k = 0 then 0 :: eatN val ks ws else match ws with
    | [] => 0 :: eatN val ks []
    | w :: ws => val w :: eatN val ks ws
def candN (val : List UInt8 → Int) (s : List UInt8) : In := match words s with
  | [] => ⟨-1, 0, 0, 0⟩
  | w :: ws => match eatN val (ptK (kd (idxN w))) ws with
    | [a, b, c] => ⟨idxN w, a, b, c⟩
    | _ => ⟨idxN w, 0, 0, 0⟩
def okK (k : Nat) (n : Int) : Prop := (k = 0 → n = 0) ∧ (k = 1 → 0 ≤ n ∧ n ≤ 7) ∧ (k = 2 → -32768 ≤ n ∧ n ≤ 32767) ∧ k ≤ 2
def goodVal (val : List UInt8 → Int) : Prop := (∀ n, 0 ≤ n → n ≤ 7 → val (114 :: Lib.itoa n) = n) ∧ ∀ n, -32768 ≤ n → n ≤ 32767 → val (Lib.itoa n) = n
theorem eatN_cons {val : List UInt8 → Int} (hv : goodVal val) {k : Nat} {n : Int} (h : okK k n) (ks : List Nat) (ws : List (List UInt8)) : eatN val (k :: ks) (argW k n ++ ws) = n :: eatN val ks ws := by
  obtain ⟨h0, h1, h2, h3⟩ := h
  rw [show eatN val (k :: ks) (argW k n ++ ws) = (if k = 0 then 0 :: eatN val ks (argW k n ++ ws) else match argW k n ++ ws with | [] => 0 :: eatN val ks [] | w :: ws => val w :: eatN val ks ws) from rfl]
  unfold argW
  rcases (show k = 0 ∨ k = 1 ∨ k = 2 by omega) with rfl | rfl | rfl
  · rw [h0 rfl]; rfl
  · have := h1 rfl
    simp only [if_pos, List.cons_append, List.nil_append, Nat.one_ne_zero, if_false]
    rw [hv.1 n this.1 this.2]
  · have := h2 rfl
    simp only [if_pos, List.cons_append, List.nil_append, show ¬ (2 : Nat) = 0 by decide, show ¬ (2 : Nat) = 1 by decide, if_false]
    rw [hv.2 n this.1 this.2]
theorem okK_of {op a b c : Int} (h : rightI op a b c = true) : ∃ x y z, ptK (kd op) = [x, y, z] ∧ okK x a ∧ okK y b ∧ okK z c := by
  have hk : kd op = 0 ∨ kd op = 1 ∨ kd op = 2 ∨ kd op = 3 ∨ kd op = 4 ∨ kd op = 5 ∨ kd op = 6 ∨ kd op = 7 := by
    unfold kd
    repeat' split
    all_goals simp
  unfold rightI at h
  rcases hk with e | e | e | e | e | e | e | e <;> rw [e] at h <;> simp [kA, kB, kC, fR, fI, fW, fZ] at h
  all_goals refine ⟨_, _, _, by rw [e]; rfl, ?_, ?_, ?_⟩ <;> refine ⟨?_, ?_, ?_, ?_⟩ <;> intros <;> first | omega | (simp at *; done) | (simp at *; omega)
theorem nm_nodup : ∀ i j : Fin 30, nmL[i.val]? = nmL[j.val]? → i = j := by decide
theorem idxN_name {op : Int} (h : 0 ≤ op ∧ op ≤ 29) : idxN (nameL op) = op := by
  obtain ⟨n, rfl⟩ : ∃ n : Nat, op = (n : Int) := ⟨op.toNat, by omega⟩
  have hn : n < 30 := by omega
  have : ∀ i : Fin 30, idxN (nameL (i.val : Int)) = (i.val : Int) := by decide
  exact this ⟨n, hn⟩
theorem cand_text {val : List UInt8 → Int} (hv : goodVal val) {x : In} (h : x.ok = true) : candN val x.text = x := by
  obtain ⟨op, a, b, c⟩ := x
  unfold In.ok at h
  simp only at h
  obtain ⟨x, y, z, e, k1, k2, k3⟩ := okK_of h
  unfold candN In.text
  simp only
  rw [words_text h]
  simp only
  rw [idxN_name (kd_range (right_kd h)), e]
  have : eatN val [x, y, z] (argsW op a b c) = [a, b, c] := by
    unfold argsW
    rw [e]
    simp only
    rw [eatN_cons hv k1, eatN_cons hv k2, ← List.append_nil (argW z c), eatN_cons hv k3]
    rfl
  rw [this]
theorem text_nil {x : In} (h : x.ok = false) : x.text = [] := by
  unfold In.text textL
  unfold In.ok at h
  rw [if_neg (by rw [h]; decide)]
theorem text_ne {x : In} (h : x.ok = true) : x.text ≠ [] := by
  unfold In.text textL
  unfold In.ok at h
  rw [if_pos h]
  have := (nm_no _ (nameL_mem (kd_range (right_kd h)))).2.2
  simp [this]
def noIn : In := ⟨0, 0, 0, 0⟩
def parseN (val : List UInt8 → Int) (s : List UInt8) : In × Bool := if (candN val s).text = s ∧ s ≠ [] then (candN val s, true) else (noIn, false)
theorem parse_yes {val : List UInt8 → Int} (hv : goodVal val) {x : In} (h : x.ok = true) : parseN val x.text = (x, true) := by
  unfold parseN
  rw [cand_text hv h, if_pos ⟨rfl, text_ne h⟩]
theorem parse_no {val : List UInt8 → Int} {s : List UInt8} (h : ∀ x : In, x.ok = true → x.text ≠ s) : parseN val s = (noIn, false) := by
  unfold parseN
  rw [if_neg]
  rintro ⟨h1, h2⟩
  cases hk : (candN val s).ok with
  | true => exact h _ hk h1
  | false => exact h2 (by rw [← h1, text_nil hk])
/-- What any text tells: there is one way. -/
theorem parse_is {val : List UInt8 → Int} (hv : goodVal val) (s : List UInt8) : (∃ x : In, x.ok = true ∧ x.text = s ∧ parseN val s = (x, true)) ∨ (∀ x : In, x.ok = true → x.text ≠ s) ∧ parseN val s = (noIn, false) := by
  by_cases h : ∃ x : In, x.ok = true ∧ x.text = s
  · obtain ⟨x, h1, rfl⟩ := h
    exact .inl ⟨x, h1, rfl, parse_yes hv h1⟩
  · refine .inr ⟨fun x h1 h2 => h ⟨x, h1, h2⟩, parse_no fun x h1 h2 => h ⟨x, h1, h2⟩⟩
theorem parse_eq {v1 v2 : List UInt8 → Int} (h1 : goodVal v1) (h2 : goodVal v2) (s : List UInt8) : parseN v1 s = parseN v2 s := by
  rcases parse_is h1 s with ⟨x, k1, rfl, k3⟩ | ⟨k1, k2⟩
  · rw [k3, parse_yes h2 k1]
  · rw [k2, parse_no k1]
theorem good_A : goodVal (fun w => valA (trimR w)) := by
  refine ⟨fun n h0 h1 => ?_, fun n h0 h1 => ?_⟩
  · show valA (trimR (114 :: Lib.itoa n)) = n
    exact valA_itoa n (by omega) (by omega)
  · have : trimR (Lib.itoa n) = Lib.itoa n := by
      rcases Int.lt_or_le n 0 with h | h
      · obtain ⟨u, rfl⟩ : ∃ u : Nat, n = -(u : Int) := ⟨n.natAbs, by omega⟩
        rw [itoa_ng u (by omega)]
        rfl
      · obtain ⟨u, rfl⟩ : ∃ u : Nat, n = (u : Int) := ⟨n.toNat, by omega⟩
        rw [itoa_nn]
        obtain ⟨c, r, hc, c0, c1⟩ := dec_cons u
        rw [hc]
        show (if c = 114 then r else c :: r) = c :: r
        rw [if_neg (by rintro rfl; exact absurd c1 (by decide))]
    show valA (trimR (Lib.itoa n)) = n
    rw [this]
    exact valA_itoa n (by omega) (by omega)
theorem good_R : goodVal numR := ⟨fun n h0 h1 => numR_reg n h0 (by omega), fun n h0 h1 => numR_itoa n (by omega) (by omega)⟩
theorem text_inj {x y : In} (hx : x.ok = true) (hy : y.ok = true) (h : x.text = y.text) : x = y := by
  rw [← cand_text good_R hx, h, cand_text good_R hy]
theorem text_no {x : In} {c : UInt8} (hc : c.toNat < 32) : c ∉ x.text := by
  unfold In.text textL
  split
  · rename_i h
    intro hm
    rcases List.mem_append.1 hm with hm | hm
    · have := nameL_mem (kd_range (right_kd h))
      have hall : ∀ w ∈ nmL, ∀ b ∈ w, 97 ≤ b.toNat ∧ b.toNat ≤ 122 := by decide
      have := hall _ this c hm
      omega
    · have key : ∀ ws : List (List UInt8), (∀ v ∈ ws, c ∉ v) → c ∉ joinW ws := by
        intro ws
        induction ws with
        | nil => intro _ h; cases h
        | cons v ws ih =>
          intro hv hm
          rcases List.mem_cons.1 hm with rfl | hm
          · exact absurd hc (by decide)
          · rcases List.mem_append.1 hm with hm | hm
            · exact hv v List.mem_cons_self hm
            · exact ih (fun u hu => hv u (List.mem_cons_of_mem _ hu)) hm
      exact key _ (argsW_no _ _ _ _ c (by omega)) hm
  · intro h; cases h

/-! ### Lines -/
def lineL (x : In) : List UInt8 := if x.ok = true then x.text ++ [10] else []
def linesL (l : List In) : List UInt8 := l.flatMap lineL
def readN (val : List UInt8 → Int) : Nat → List In → List UInt8 → List In × Nat × Bool
  | 0, acc, _ => (acc, acc.length, true)
  | n + 1, acc, s => if s = [] then (acc, acc.length, true) else
    if (10 : UInt8) ∉ s then ([], acc.length, false) else
    match parseN val (s.takeWhile (· != 10)) with
    | (x, true) => readN val n (acc ++ [x]) (s.drop ((s.takeWhile (· != 10)).length + 1))
    | (_, false) => ([], acc.length, false)
def readL (val : List UInt8 → Int) (s : List UInt8) : List In × Nat × Bool := readN val (s.length + 1) [] s
theorem readN_eq (val : List UInt8 → Int) (n : Nat) (acc : List In) (s : List UInt8) : readN val (n + 1) acc s = (if s = [] then (acc, acc.length, true) else
    if (10 : UInt8) ∉ s then ([], acc.length, false) else
    match parseN val (s.takeWhile (· != 10)) with
    | (x, true) => readN val n (acc ++ [x]) (s.drop ((s.takeWhile (· != 10)).length + 1))
    | (_, false) => ([], acc.length, false)) := rfl
theorem tw10 : ∀ (w r : List UInt8), (10 : UInt8) ∉ w → (w ++ 10 :: r).takeWhile (· != 10) = w
  | [], r, _ => by simp
  | b :: w, r, h => by
    obtain ⟨h1, h2⟩ : ¬ (10 : UInt8) = b ∧ (10 : UInt8) ∉ w := by simpa using h
    rw [List.cons_append, List.takeWhile_cons, if_pos (by simpa using fun e => h1 e.symm), tw10 w r h2]
theorem readN_line (val : List UInt8 → Int) (n : Nat) (acc : List In) {w : List UInt8} (r : List UInt8) (h : (10 : UInt8) ∉ w) : readN val (n + 1) acc (w ++ 10 :: r) = (match parseN val w with
    | (x, true) => readN val n (acc ++ [x]) r
    | (_, false) => ([], acc.length, false)) := by
  rw [readN_eq, if_neg (by simp), if_neg (by simp), tw10 w r h]
  have : (w ++ 10 :: r).drop (w.length + 1) = r := by
    rw [← List.drop_drop, List.drop_left]
    rfl
  rw [this]
theorem readN_fuel (val : List UInt8 → Int) : ∀ (n m : Nat) (acc : List In) (s : List UInt8), s.length < n → s.length < m → readN val n acc s = readN val m acc s
  | 0, _, _, _, h, _ => absurd h (Nat.not_lt_zero _)
  | _, 0, _, _, _, h => absurd h (Nat.not_lt_zero _)
  | n + 1, m + 1, acc, s, h1, h2 => by
    rw [readN_eq, readN_eq]
    split
    · rfl
    · rename_i hs
      split
      · rfl
      · split
        · refine readN_fuel val n m _ _ ?_ ?_ <;> (rw [List.length_drop]; have : 0 < s.length := List.length_pos_iff.2 hs; omega)
        · rfl
theorem line_no {x : In} (h : x.ok = true) : (10 : UInt8) ∉ x.text := text_no (by decide)
theorem readN_lines {val : List UInt8 → Int} (hv : goodVal val) : ∀ (l : List In) (n : Nat) (acc : List In) (r : List UInt8), (linesL l ++ r).length < n → readN val n acc (linesL l ++ r) = readN val (r.length + 1) (acc ++ l.filter (·.ok)) r
  | [], n, acc, r, h => by
    rw [show linesL [] = [] from rfl, List.nil_append] at h ⊢
    rw [List.filter_nil, List.append_nil]
    exact readN_fuel val _ _ _ _ h (Nat.lt_succ_self _)
  | x :: l, n, acc, r, h => by
    have e : linesL (x :: l) = lineL x ++ linesL l := by simp [linesL]
    rw [e] at h ⊢
    cases hx : x.ok with
    | false =>
      have : lineL x = [] := by unfold lineL; rw [hx]; rfl
      rw [this, List.nil_append] at h ⊢
      rw [readN_lines hv l n acc r h, List.filter_cons, if_neg (by rw [hx]; decide)]
    | true =>
      have : lineL x = x.text ++ [10] := by unfold lineL; rw [if_pos hx]
      rw [this] at h ⊢
      cases n with
      | zero => exact absurd h (Nat.not_lt_zero _)
      | succ n =>
        have e2 : (x.text ++ [10] ++ linesL l ++ r) = x.text ++ 10 :: (linesL l ++ r) := by simp
        rw [e2] at h ⊢
        rw [readN_line val n acc _ (line_no hx), parse_yes hv hx]
        simp only
        rw [readN_lines hv l n (acc ++ [x]) r (by rw [List.length_append, List.length_cons] at h; omega), List.filter_cons, if_pos hx, List.append_assoc]
        rfl
theorem read_lines {val : List UInt8 → Int} (hv : goodVal val) (l : List In) : readL val (linesL l) = (l.filter (·.ok), (l.filter (·.ok)).length, true) := by
  have := readN_lines hv l ((linesL l).length + 1) [] [] (by simp)
  rw [List.append_nil, List.nil_append] at this
  unfold readL
  rw [this]
  rfl
/-- One line more, at any place. -/
theorem read_more {val : List UInt8 → Int} (hv : goodVal val) (a b : List In) {w : List UInt8} (hw : (10 : UInt8) ∉ w) : readL val (linesL a ++ (w ++ 10 :: linesL b)) = (match parseN val w with
    | (x, true) => (a.filter (·.ok) ++ [x] ++ b.filter (·.ok), (a.filter (·.ok) ++ [x] ++ b.filter (·.ok)).length, true)
    | (_, false) => ([], (a.filter (·.ok)).length, false)) := by
  unfold readL
  rw [readN_lines hv a _ [] _ (Nat.lt_succ_self _), List.nil_append, readN_line val _ _ _ hw]
  cases hp : parseN val w with
  | mk x is =>
    cases is with
    | false => rfl
    | true =>
      simp only
      have := readN_lines hv b (w ++ 10 :: linesL b).length (a.filter (·.ok) ++ [x]) [] (by simp; omega)
      rw [List.append_nil] at this
      rw [this]
      rfl
theorem readN_val {v1 v2 : List UInt8 → Int} (h1 : goodVal v1) (h2 : goodVal v2) : ∀ (n : Nat) (acc : List In) (s : List UInt8), readN v1 n acc s = readN v2 n acc s
  | 0, _, _ => rfl
  | n + 1, acc, s => by
    rw [readN_eq, readN_eq, parse_eq h1 h2]
    split
    · rfl
    · split
      · rfl
      · split
        · exact readN_val h1 h2 n _ _
        · rfl

end Go.Proofs.YtdhpbofpomefoaaDoor
