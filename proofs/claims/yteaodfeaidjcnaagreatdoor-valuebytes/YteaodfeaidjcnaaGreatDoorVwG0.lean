/- The program's Get and the document's tell the same. -/
import Derived.Test.YteaodfeaidjcnaaGreatDoorVwB0
import Derived.Test.YteaodfeaidjcnaaGreatDoorVrV
namespace Go.Proofs.YteaodfeaidjcnaaGreatDoor
open Go.RowKit

theorem num8_val (c : UInt8) (l : List UInt8) (i : Nat) : num8 ⟨(c :: l).toArray⟩ i = (valB ⟨l.toArray⟩ i : Int) := by
  induction i with
  | zero => rfl
  | succ i ih =>
    show 256 * num8 ⟨(c :: l).toArray⟩ i + gB ⟨(c :: l).toArray⟩ (i + 1) = ((256 * valB ⟨l.toArray⟩ i + (byteAt ⟨l.toArray⟩ i).toNat : Nat) : Int)
    rw [ih, show gB ⟨(c :: l).toArray⟩ (i + 1) = ((byteAt ⟨l.toArray⟩ i).toNat : Int) from rfl]
    omega
theorem byte_ext (r : ByteArray) (n i : Nat) (hi : i < n) : byteAt (r.extract 0 n) i = byteAt r i := by
  unfold byteAt
  rw [ext_list, List.drop_zero, Nat.sub_zero, List.getD_eq_getElem?_getD, List.getElem?_take, if_pos hi, List.getD_eq_getElem?_getD]
theorem valB_ext (r : ByteArray) (n i : Nat) (hi : i ≤ n) : valB (r.extract 0 n) i = valB r i := by
  induction i with
  | zero => rfl
  | succ i ih =>
    show 256 * valB (r.extract 0 n) i + (byteAt (r.extract 0 n) i).toNat = 256 * valB r i + (byteAt r i).toNat
    rw [ih (by omega), byte_ext r n i (by omega)]
theorem getF_none (t : ByteArray) (k : Int) (v : Vl) (h : firstV t = (v, 0)) : getF t k = (blank0, 0, 4) := by
  unfold getF; rw [h, if_pos rfl]
theorem getF_bad (t : ByteArray) (k : Int) (v : Vl) (n : Int) (h : firstV t = (v, n)) (hg : vGood v = false) : getF t k = (blank0, 0, 4) := by
  unfold getF
  rw [h]
  simp only []
  by_cases h0 : n = 0
  · rw [if_pos h0]
  · rw [if_neg h0, hg, if_neg (by decide)]
theorem getF_good (t : ByteArray) (k : Int) (v : Vl) (n : Int) (h : firstV t = (v, n)) (hn : n ≠ 0) (hg : vGood v = true) : getF t k = (v, k + n, 0) := by
  unfold getF
  rw [h]
  simp only []
  rw [if_neg hn, if_pos hg]
/-- Where both have the same value and length, or the document's are none. -/
theorem get_same (t : ByteArray) (k : Int) (v : Vl) (n : Int) (h0 : t.size ≠ 0) (h3 : ¬ (gB t 0 = 3 ∧ 2 ≤ t.size ∧ 1 < gB t 1)) (e1 : firstV t = (v, n)) (e2 : getT t = (v, n)) (hn : n ≠ 0) (hs : ¬ (t.size : Int) < n) : getF t k = getR t k := by
  cases hg : vGood v
  · rw [getF_bad t k v n e1 hg, getR_bad t k v n h0 h3 e2 (Or.inl hg)]
  · rw [getF_good t k v n e1 hn hg, getR_good t k v n h0 h3 e2 hg hs]
theorem get_none (t : ByteArray) (k : Int) (u v : Vl) (n : Int) (h0 : t.size ≠ 0) (h3 : ¬ (gB t 0 = 3 ∧ 2 ≤ t.size ∧ 1 < gB t 1)) (e1 : firstV t = (u, 0)) (e2 : getT t = (v, n)) (hs : vGood v = false ∨ (t.size : Int) < n) : getF t k = getR t k := by
  rw [getF_none t k u e1, getR_bad t k v n h0 h3 e2 hs]

theorem getT1 (t : ByteArray) (h : gB t 0 = 1) : getT t = (⟨1, if 9 ≤ t.size then wrap64 (num8 t 8) else 0, noText, false, 0⟩, 9) := by unfold getT; rw [if_pos h]
theorem getT2 (t : ByteArray) (h : gB t 0 = 2) (h2 : 2 ≤ t.size) : getT t = (⟨2, 0, if 2 + gB t 1 ≤ t.size then t.extract 2 (2 + gB t 1).toNat else noText, false, 0⟩, 2 + gB t 1) := by unfold getT; rw [if_neg (by omega), if_pos h, if_pos h2]
theorem getT2s (t : ByteArray) (h : gB t 0 = 2) (h2 : ¬ 2 ≤ t.size) : getT t = (⟨2, 0, noText, false, 0⟩, 2) := by unfold getT; rw [if_neg (by omega), if_pos h, if_neg h2]
theorem getT3 (t : ByteArray) (h : gB t 0 = 3) : getT t = (⟨3, 0, noText, if 2 ≤ t.size then gB t 1 != 0 else false, 0⟩, 2) := by unfold getT; rw [if_neg (by omega), if_neg (by omega), if_pos h]
theorem getT4 (t : ByteArray) (h : gB t 0 = 4) : getT t = (⟨4, 0, noText, false, if 2 ≤ t.size then gB t 1 else 0⟩, 2) := by unfold getT; rw [if_neg (by omega), if_neg (by omega), if_neg (by omega), if_pos h]
theorem getT5 (t : ByteArray) (h1 : gB t 0 ≠ 1) (h2 : gB t 0 ≠ 2) (h3 : gB t 0 ≠ 3) (h4 : gB t 0 ≠ 4) : getT t = (⟨gB t 0, 0, noText, false, 0⟩, 1) := by unfold getT; rw [if_neg h1, if_neg h2, if_neg h3, if_neg h4]

theorem get_eq (t : ByteArray) (k : Int) : getF t k = getR t k := by
  obtain ⟨⟨l⟩⟩ := t
  cases l with
  | nil => rfl
  | cons c l =>
    obtain ⟨r, hr⟩ : ∃ r : ByteArray, (⟨l.toArray⟩ : ByteArray) = r := ⟨_, rfl⟩
    obtain ⟨t, ht⟩ : ∃ t : ByteArray, (⟨(c :: l).toArray⟩ : ByteArray) = t := ⟨_, rfl⟩
    have hf : firstV t = firstR (c.toNat : Int) r := by rw [← ht, ← hr]; exact first_cons c l
    have hz : t.size = r.size + 1 := by rw [← ht, ← hr]; rfl
    have g0 : gB t 0 = (c.toNat : Int) := by rw [← ht]; rfl
    have g1 : gB t 1 = ((byteAt r 0).toNat : Int) := by rw [← ht, ← hr]; rfl
    have hn : num8 t 8 = (valB r 8 : Int) := by rw [← ht, ← hr]; exact num8_val c l 8
    have hx : ∀ q : Nat, t.extract 2 (2 + q) = r.extract 1 (1 + q) := fun q => bytes_ext (by
      rw [ext_list, ext_list, ← ht, ← hr]
      show (l.drop 1).take (2 + q - 2) = (l.drop 1).take (1 + q - 1)
      rw [Nat.add_sub_cancel_left, Nat.add_sub_cancel_left])
    rw [show (⟨⟨c :: l⟩⟩ : ByteArray) = t from ht]
    clear ht hr
    have h0 : t.size ≠ 0 := by omega
    have hq := (byteAt r 0).toNat_lt
    obtain ⟨q, eq⟩ : ∃ q, (byteAt r 0).toNat = q := ⟨_, rfl⟩
    obtain ⟨b, eb⟩ : ∃ b, c.toNat = b := ⟨_, rfl⟩
    rw [eb] at hf g0
    unfold firstR at hf
    rw [eq] at hf g1 hq
    clear eq eb
    by_cases c0 : (b : Int) = 0
    · rw [if_pos c0] at hf
      exact get_same t k blank0 1 h0 (by omega) hf (by rw [getT5 t (by omega) (by omega) (by omega) (by omega), g0, c0]; rfl) (by decide) (by omega)
    · rw [if_neg c0] at hf
      by_cases rz : r.size = 0
      · rw [if_pos rz] at hf
        by_cases c1 : (b : Int) = 1
        · exact get_none t k _ _ _ h0 (by omega) hf (getT1 t (by omega)) (Or.inr (by omega))
        · by_cases c2 : (b : Int) = 2
          · exact get_none t k _ _ _ h0 (by omega) hf (getT2s t (by omega) (by omega)) (Or.inr (by omega))
          · by_cases c3 : (b : Int) = 3
            · exact get_none t k _ _ _ h0 (by omega) hf (getT3 t (by omega)) (Or.inr (by omega))
            · by_cases c4 : (b : Int) = 4
              · exact get_none t k _ _ _ h0 (by omega) hf (getT4 t (by omega)) (Or.inr (by omega))
              · exact get_none t k _ _ _ h0 (by omega) hf (getT5 t (by omega) (by omega) (by omega) (by omega)) (Or.inl (good_else _ _ _ _ _ (by omega) (by omega) (by omega) (by omega) (by omega)))
      · rw [if_neg rz] at hf
        by_cases c1 : (b : Int) = 1
        · rw [if_pos c1] at hf
          by_cases h8 : 8 ≤ r.size
          · rw [if_pos h8, valB_ext r 8 8 (Nat.le_refl _)] at hf
            exact get_same t k _ _ h0 (by omega) hf (by rw [getT1 t (by omega), if_pos (by omega), hn]) (by decide) (by omega)
          · rw [if_neg h8] at hf
            exact get_none t k _ _ _ h0 (by omega) hf (getT1 t (by omega)) (Or.inr (by omega))
        · rw [if_neg c1] at hf
          by_cases c2 : (b : Int) = 2
          · rw [if_pos c2] at hf
            by_cases hl : 1 + q ≤ r.size
            · rw [if_pos hl] at hf
              refine get_same t k _ _ h0 (by omega) hf ?_ (by omega) (by omega)
              rw [getT2 t (by omega) (by omega), g1, if_pos (by omega), show ((2 : Int) + (q : Int)).toNat = 2 + q by omega, hx q]
              exact congrArg (Prod.mk _) (by omega)
            · rw [if_neg hl] at hf
              exact get_none t k _ _ _ h0 (by omega) hf (getT2 t (by omega) (by omega)) (Or.inr (by rw [g1]; omega))
          · rw [if_neg c2] at hf
            by_cases c3 : (b : Int) = 3
            · rw [if_pos c3] at hf
              by_cases hl : q ≤ 1
              · rw [if_pos hl] at hf
                refine get_same t k _ _ h0 (by omega) hf ?_ (by decide) (by omega)
                rw [getT3 t (by omega), if_pos (by omega), g1]
                have h01 : q = 0 ∨ q = 1 := by omega
                rcases h01 with rfl | rfl <;> rfl
              · rw [if_neg hl] at hf
                rw [getF_none t k _ hf]
                unfold getR
                rw [if_neg h0, if_pos (by omega)]
            · rw [if_neg c3] at hf
              by_cases c4 : (b : Int) = 4
              · rw [if_pos c4] at hf
                exact get_same t k _ _ h0 (by omega) hf (by rw [getT4 t (by omega), if_pos (by omega), g1]) (by decide) (by omega)
              · rw [if_neg c4] at hf
                exact get_none t k _ _ _ h0 (by omega) hf (getT5 t (by omega) (by omega) (by omega) (by omega)) (Or.inl (good_else _ _ _ _ _ (by omega) (by omega) (by omega) (by omega) (by omega)))
theorem getP_eq (s : ByteArray) (k : Int) : getP s k = getV s k := by
  unfold getP getV
  by_cases h : k < 0 ∨ (s.size : Int) < k
  · rw [if_pos h, if_pos h]
  · rw [if_neg h, if_neg h, get_eq]
end Go.Proofs.YteaodfeaidjcnaaGreatDoor
