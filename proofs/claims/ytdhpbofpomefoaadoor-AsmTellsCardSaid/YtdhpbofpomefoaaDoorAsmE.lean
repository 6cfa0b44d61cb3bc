/- Layer 16: the document on names. -/
import Derived.Test.YtdhpbofpomefoaaDoorAsmC
namespace Go.Proofs.YtdhpbofpomefoaaDoor
set_option linter.unusedSimpArgs false
set_option linter.unusedVariables false
open Go.RowKit

def nbr : ByteArray := ⟨#[104, 97, 108, 116, 32, 109, 111, 118, 105, 32, 109, 111, 118, 32, 97, 100, 100, 32, 115, 117, 98, 32, 109, 117, 108, 32, 100, 105, 118, 32, 108, 116, 32, 101, 113, 32, 106, 109, 112, 32, 106, 122, 32, 108, 100, 98, 32, 115, 116, 98, 32, 108, 100, 119, 32, 115, 116, 119, 32, 108, 100, 99, 32, 115, 116, 99, 32, 105, 110, 99, 32, 98, 110, 100, 32, 112, 114, 109, 32, 115, 101, 108, 32, 117, 110, 115, 32, 101, 110, 116, 32, 99, 97, 108, 108, 32, 114, 101, 116, 32, 108, 101, 110, 32, 111, 102, 102, 32, 116, 97, 103, 32, 97, 100, 100, 114, 32, 115, 121, 115, 32]⟩
def nbB (i : Nat) : UInt8 := nbr.data.toList.getD i 0
def nbN : Nat → Nat
  | 0 => 0
  | i + 1 => if nbB i = 32 then nbN i + 1 else nbN i
def nbF : Nat → Nat
  | 0 => 0
  | i + 1 => if nbB i = 32 then i + 1 else nbF i
theorem nb_word : ∀ i : Fin 121, nbB i.val = 32 → (nbN i.val < 30 ∧ nbF i.val ≤ i.val) ∧ (nbr.extract (nbF i.val) i.val).data.toList = nmL.getD (nbN i.val) [] := by decide +kernel
theorem nb_all : nbN 121 = 30 := by decide +kernel
theorem nb_bd : ∀ i : Fin 122, nbN i.val ≤ 30 ∧ nbF i.val ≤ 121 := by decide +kernel
theorem nb_get {k : Nat} (h : k < 121) : ((⟨#[104, 97, 108, 116, 32, 109, 111, 118, 105, 32, 109, 111, 118, 32, 97, 100, 100, 32, 115, 117, 98, 32, 109, 117, 108, 32, 100, 105, 118, 32, 108, 116, 32, 101, 113, 32, 106, 109, 112, 32, 106, 122, 32, 108, 100, 98, 32, 115, 116, 98, 32, 108, 100, 119, 32, 115, 116, 119, 32, 108, 100, 99, 32, 115, 116, 99, 32, 105, 110, 99, 32, 98, 110, 100, 32, 112, 114, 109, 32, 115, 101, 108, 32, 117, 110, 115, 32, 101, 110, 116, 32, 99, 97, 108, 108, 32, 114, 101, 116, 32, 108, 101, 110, 32, 111, 102, 102, 32, 116, 97, 103, 32, 97, 100, 100, 114, 32, 115, 121, 115, 32]⟩ : ByteArray)[k]'(Nat.lt_of_lt_of_eq h (show 121 = (⟨#[104, 97, 108, 116, 32, 109, 111, 118, 105, 32, 109, 111, 118, 32, 97, 100, 100, 32, 115, 117, 98, 32, 109, 117, 108, 32, 100, 105, 118, 32, 108, 116, 32, 101, 113, 32, 106, 109, 112, 32, 106, 122, 32, 108, 100, 98, 32, 115, 116, 98, 32, 108, 100, 119, 32, 115, 116, 119, 32, 108, 100, 99, 32, 115, 116, 99, 32, 105, 110, 99, 32, 98, 110, 100, 32, 112, 114, 109, 32, 115, 101, 108, 32, 117, 110, 115, 32, 101, 110, 116, 32, 99, 97, 108, 108, 32, 114, 101, 116, 32, 108, 101, 110, 32, 111, 102, 102, 32, 116, 97, 103, 32, 97, 100, 100, 114, 32, 115, 121, 115, 32]⟩ : ByteArray).size by decide +kernel))).toNat = (nbB k).toNat := by
  unfold nbB nbr
  rw [List.getD_eq_getElem?_getD, List.getElem?_eq_getElem (show k < (⟨#[104, 97, 108, 116, 32, 109, 111, 118, 105, 32, 109, 111, 118, 32, 97, 100, 100, 32, 115, 117, 98, 32, 109, 117, 108, 32, 100, 105, 118, 32, 108, 116, 32, 101, 113, 32, 106, 109, 112, 32, 106, 122, 32, 108, 100, 98, 32, 115, 116, 98, 32, 108, 100, 119, 32, 115, 116, 119, 32, 108, 100, 99, 32, 115, 116, 99, 32, 105, 110, 99, 32, 98, 110, 100, 32, 112, 114, 109, 32, 115, 101, 108, 32, 117, 110, 115, 32, 101, 110, 116, 32, 99, 97, 108, 108, 32, 114, 101, 116, 32, 108, 101, 110, 32, 111, 102, 102, 32, 116, 97, 103, 32, 97, 100, 100, 114, 32, 115, 121, 115, 32]⟩ : ByteArray).data.toList.length from Nat.lt_of_lt_of_eq h (by decide +kernel))]
  rfl
theorem nb_size : nbr.size = 121 := by decide +kernel
set_option maxRecDepth 100000 in
set_option maxHeartbeats 4000000 in
theorem rname_ (op : Int) (w : World) : Calls Tryd.prog 13 #[.int .i64 op] w fun e w' => e = .returned (.string ⟨(nameL op).toArray⟩) ∧ Ext w w' := by
  go_enter Tryd.func13, Tryd.ntmps13
  go_wp2
  go_loopw [3, 4, 5] (fun n f i wr => ∃ k : Nat, k ≤ 121 ∧ i = .int .i64 k ∧ n = .int .i64 (nbN k) ∧ f = .int .i64 (nbF k) ∧ Hid (∀ j, j < nbN k → ¬ op = (j : Int)) ∧ Hid (Ext w wr)) (fun _ _ i _ => 121 - (intOf i).toNat)
  case atStart => exact ⟨0, Nat.zero_le _, rfl, rfl, rfl, hid (fun j hj => absurd hj (Nat.not_lt_zero _)), hid (Ext.refl _)⟩
  case round =>
    obtain ⟨k, hk, rfl, rfl, rfl, hne, hx⟩ := hrel
    have hk0 : (0 : Int) ≤ (k : Int) := by omega
    by_cases hlt : k < 121
    · have hk1 : (k : Int) < 121 := by omega
      have hg := nb_get hlt
      obtain ⟨hb30, hbF⟩ := nb_bd ⟨k, by omega⟩
      simp only at hb30 hbF
      by_cases hb : nbB k = 32
      · obtain ⟨⟨w1, w2⟩, w3⟩ := nb_word ⟨k, hlt⟩ hb
        simp only at w1 w2 w3
        have hq : ((((⟨#[104, 97, 108, 116, 32, 109, 111, 118, 105, 32, 109, 111, 118, 32, 97, 100, 100, 32, 115, 117, 98, 32, 109, 117, 108, 32, 100, 105, 118, 32, 108, 116, 32, 101, 113, 32, 106, 109, 112, 32, 106, 122, 32, 108, 100, 98, 32, 115, 116, 98, 32, 108, 100, 119, 32, 115, 116, 119, 32, 108, 100, 99, 32, 115, 116, 99, 32, 105, 110, 99, 32, 98, 110, 100, 32, 112, 114, 109, 32, 115, 101, 108, 32, 117, 110, 115, 32, 101, 110, 116, 32, 99, 97, 108, 108, 32, 114, 101, 116, 32, 108, 101, 110, 32, 111, 102, 102, 32, 116, 97, 103, 32, 97, 100, 100, 114, 32, 115, 121, 115, 32]⟩ : ByteArray)[k]'(Nat.lt_of_lt_of_eq hlt (show 121 = (⟨#[104, 97, 108, 116, 32, 109, 111, 118, 105, 32, 109, 111, 118, 32, 97, 100, 100, 32, 115, 117, 98, 32, 109, 117, 108, 32, 100, 105, 118, 32, 108, 116, 32, 101, 113, 32, 106, 109, 112, 32, 106, 122, 32, 108, 100, 98, 32, 115, 116, 98, 32, 108, 100, 119, 32, 115, 116, 119, 32, 108, 100, 99, 32, 115, 116, 99, 32, 105, 110, 99, 32, 98, 110, 100, 32, 112, 114, 109, 32, 115, 101, 108, 32, 117, 110, 115, 32, 101, 110, 116, 32, 99, 97, 108, 108, 32, 114, 101, 116, 32, 108, 101, 110, 32, 111, 102, 102, 32, 116, 97, 103, 32, 97, 100, 100, 114, 32, 115, 121, 115, 32]⟩ : ByteArray).size by decide +kernel))).toNat : Int) == 32) = true := by rw [hg, hb]; rfl
        have hN1 : nbN (k + 1) = nbN k + 1 := by rw [nbN, if_pos hb]
        have hF1 : nbF (k + 1) = k + 1 := by rw [nbF, if_pos hb]
        clear hg
        by_cases he : op = (nbN k : Int)
        · have hh : ((nbN k : Int) == op) = true := by rw [he]; exact beq_self_eq_true _
          have hres : nameL op = nmL.getD (nbN k) [] := by
            rw [he]
            unfold nameL
            rw [if_pos (by omega)]
            simp
          have hwi : (nbF k : Int) ≤ (k : Int) := by omega
          have HRS : Hid ((ByteArray.extract ⟨#[104, 97, 108, 116, 32, 109, 111, 118, 105, 32, 109, 111, 118, 32, 97, 100, 100, 32, 115, 117, 98, 32, 109, 117, 108, 32, 100, 105, 118, 32, 108, 116, 32, 101, 113, 32, 106, 109, 112, 32, 106, 122, 32, 108, 100, 98, 32, 115, 116, 98, 32, 108, 100, 119, 32, 115, 116, 119, 32, 108, 100, 99, 32, 115, 116, 99, 32, 105, 110, 99, 32, 98, 110, 100, 32, 112, 114, 109, 32, 115, 101, 108, 32, 117, 110, 115, 32, 101, 110, 116, 32, 99, 97, 108, 108, 32, 114, 101, 116, 32, 108, 101, 110, 32, 111, 102, 102, 32, 116, 97, 103, 32, 97, 100, 100, 114, 32, 115, 121, 115, 32]⟩ (nbF k) k) = ⟨(nameL op).toArray⟩) := hid (by
            rw [hres, ← w3]
            exact (ba_eta _).symm)
          clear hres he w3 hN1 hF1 hne
          go_wp2
          go_ret
          exact ⟨by rw [← HRS.out]; rfl, hx.out⟩
        · have hh : ((nbN k : Int) == op) = false := by simpa using fun e => he e.symm
          have HNE := hid (show ∀ j, j < nbN (k + 1) → ¬ op = (j : Int) from fun j hj => by
            rw [hN1] at hj
            by_cases hj2 : j = nbN k
            · subst hj2; exact he
            · exact hne.out j (by omega))
          have HN1 := hid hN1
          have HF1 := hid hF1
          have hwr : wrap64 ((nbN k : Int) + 1) = (nbN k : Int) + 1 := by unfold wrap64; omega
          clear hN1 hF1 hne w3 he
          go_wp2
          go_roundw
          case rel => exact ⟨k + 1, by omega, by go_num, by rw [HN1.out]; go_num, by rw [HF1.out]; go_num, HNE, hx⟩
          case measure => simp [intOf]; omega
      · have hq : ((((⟨#[104, 97, 108, 116, 32, 109, 111, 118, 105, 32, 109, 111, 118, 32, 97, 100, 100, 32, 115, 117, 98, 32, 109, 117, 108, 32, 100, 105, 118, 32, 108, 116, 32, 101, 113, 32, 106, 109, 112, 32, 106, 122, 32, 108, 100, 98, 32, 115, 116, 98, 32, 108, 100, 119, 32, 115, 116, 119, 32, 108, 100, 99, 32, 115, 116, 99, 32, 105, 110, 99, 32, 98, 110, 100, 32, 112, 114, 109, 32, 115, 101, 108, 32, 117, 110, 115, 32, 101, 110, 116, 32, 99, 97, 108, 108, 32, 114, 101, 116, 32, 108, 101, 110, 32, 111, 102, 102, 32, 116, 97, 103, 32, 97, 100, 100, 114, 32, 115, 121, 115, 32]⟩ : ByteArray)[k]'(Nat.lt_of_lt_of_eq hlt (show 121 = (⟨#[104, 97, 108, 116, 32, 109, 111, 118, 105, 32, 109, 111, 118, 32, 97, 100, 100, 32, 115, 117, 98, 32, 109, 117, 108, 32, 100, 105, 118, 32, 108, 116, 32, 101, 113, 32, 106, 109, 112, 32, 106, 122, 32, 108, 100, 98, 32, 115, 116, 98, 32, 108, 100, 119, 32, 115, 116, 119, 32, 108, 100, 99, 32, 115, 116, 99, 32, 105, 110, 99, 32, 98, 110, 100, 32, 112, 114, 109, 32, 115, 101, 108, 32, 117, 110, 115, 32, 101, 110, 116, 32, 99, 97, 108, 108, 32, 114, 101, 116, 32, 108, 101, 110, 32, 111, 102, 102, 32, 116, 97, 103, 32, 97, 100, 100, 114, 32, 115, 121, 115, 32]⟩ : ByteArray).size by decide +kernel))).toNat : Int) == 32) = false := by
          rw [hg]
          have : ¬ (nbB k).toNat = 32 := fun e => hb (UInt8.toNat.inj e)
          simpa using (fun e => this (by omega))
        have HN1 : Hid (nbN (k + 1) = nbN k) := hid (by rw [nbN, if_neg hb])
        have HF1 : Hid (nbF (k + 1) = nbF k) := hid (by rw [nbF, if_neg hb])
        clear hg
        go_wp2
        go_roundw
        case rel => exact ⟨k + 1, by omega, by go_num, by rw [HN1.out], by rw [HF1.out], hid (by rw [HN1.out]; exact hne.out), hx⟩
        case measure => simp [intOf]; omega
    · obtain rfl : k = 121 := by omega
      have hk1 : ¬ ((121 : Nat) : Int) < 121 := by omega
      have hno : nameL op = [] := nameL_no (fun h => by
        have := hne.out op.toNat (by rw [nb_all]; omega)
        omega)
      have HNO := hid hno
      clear hno
      go_wp2
      go_ret
      exact ⟨by rw [HNO.out]; rfl, hx.out⟩

end Go.Proofs.YtdhpbofpomefoaaDoor
