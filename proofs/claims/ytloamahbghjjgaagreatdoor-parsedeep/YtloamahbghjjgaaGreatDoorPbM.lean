/- All calls of the reader that read tokens: at every list of these. -/
import Derived.Test.YtloamahbghjjgaaGreatDoorPbL
namespace Go.Proofs.YtloamahbghjjgaaGreatDoor
open Go.RowKit

theorem operand_word {t : Tk} {l : List Tk} (ha : ¬ atomB t = true) (hw : t.kind = 4) : rd .operand (t :: l) = wordO t l := by
  rw [rd_operand, if_neg ha, if_pos hw]
  cases l <;> rfl
theorem operand_ok (l : List Tk) (h4 : ∀ t o m, l = t :: o :: m → ArOk m) (h6 : ∀ t l', l = t :: l' → RdOk 60 [] (rd (.chain 1) l') l') : RdOk 220 [] (rd .operand l) l := by
  intro X R w tv nds d dp m hr hf
  cases l with
  | nil => exact op_bad [] (by intro k hk; simp only [List.mem_cons, List.not_mem_nil, or_false] at hk; rcases hk with h | h | h | h | h | h <;> subst h <;> decide) R w tv nds d dp m hr hf
  | cons t l =>
    by_cases ha : atomB t = true
    · rw [rd_operand, if_pos ha]
      rcases atom_kind ha with h | h | h | h
      · exact op_lit0 t l h R w tv nds d dp m hr hf
      · exact op_lit1 t l h R w tv nds d dp m hr hf
      · exact op_lit2 t l h R w tv nds d dp m hr hf
      · exact op_ref t l h R w tv nds d dp m hr hf
    have hat : t.kind ≠ 0 ∧ t.kind ≠ 1 ∧ t.kind ≠ 2 ∧ t.kind ≠ 3 := by
      refine ⟨fun h => ha ?_, fun h => ha ?_, fun h => ha ?_, fun h => ha ?_⟩ <;> simp [atomB, h]
    by_cases hw : t.kind = 4
    · rw [operand_word ha hw]
      exact op_word t l hw (fun o q e => h4 t o q (by rw [e])) R w tv nds d dp m hr hf
    · rw [rd_operand, if_neg ha, if_neg hw]
      by_cases ho : t.kind = 6
      · rw [if_pos ho]
        exact op_par t l ho (h6 t l rfl) R w tv nds d dp m hr hf
      · rw [if_neg ho]
        refine op_bad (t :: l) ?_ R w tv nds d dp m hr hf
        intro k hk
        simp only [List.mem_cons, List.not_mem_nil, or_false] at hk
        show t.kind ≠ k
        rcases hk with h | h | h | h | h | h <;> subst h
        · exact hat.1
        · exact hat.2.1
        · exact hat.2.2.1
        · exact hat.2.2.2
        · exact hw
        · exact ho
theorem args_ok (l : List Tk) (h : ∀ l', l'.length ≤ l.length → RdOk 60 [] (rd (.chain 1) l') l') : ArOk l := by
  by_cases h7 : (headT l).kind = 7
  · exact args_none l h7
  · exact args_some l h7 h
theorem chains_ok (n : Nat) (hs : ∀ l : List Tk, l.length ≤ n → RdOk 152 [] (rd .signed l) l) :
    ∀ (j k : Nat), k + j = 6 → 1 ≤ k → ∀ l : List Tk, l.length ≤ n → RdOk 96 [.int .i64 (k : Int)] (rd (.chain k) l) l
  | 0, k, hk, _, l, hl => by
    have : k = 6 := by omega
    subst this
    exact chain_top l (hs l hl)
  | j + 1, k, hk, h1, l, hl => chain_low k h1 (by omega) l (fun l' hl' => chains_ok n hs j (k + 1) (by omega) (by omega) l' (by omega))
theorem formulas_ok (n : Nat) (hs : ∀ l : List Tk, l.length ≤ n → RdOk 152 [] (rd .signed l) l) (l : List Tk) (hl : l.length ≤ n) : RdOk 60 [] (rd (.chain 1) l) l :=
  formula_ok l (chains_ok n hs 5 1 rfl (Nat.le_refl 1) l hl)
theorem signed_ok : ∀ (n : Nat) (l : List Tk), l.length ≤ n → RdOk 152 [] (rd .signed l) l
  | 0, l, hl => by
    have : l = [] := List.eq_nil_of_length_eq_zero (by omega)
    subst this
    exact signed_no [] (by decide) (percented_ok [] (operand_ok [] (fun t o m e => by cases e) (fun t l' e => by cases e)))
  | n + 1, l, hl => by
    by_cases hs : signB (headT l) = true
    · cases l with
      | nil => exact absurd hs (by decide)
      | cons t l =>
        have hs : signB t = true := hs
        exact signed_yes t l hs (signed_ok n l (by simpa using hl))
    · refine signed_no l (by simpa using hs) (percented_ok l (operand_ok l (fun t o m e => ?_) (fun t l' e => ?_)))
      · have hm : m.length ≤ n := by rw [e] at hl; simp only [List.length_cons] at hl; omega
        exact args_ok m (fun l' hl' => formulas_ok n (signed_ok n) l' (by omega))
      · have hm : l'.length ≤ n := by rw [e] at hl; simp only [List.length_cons] at hl; omega
        exact formulas_ok n (signed_ok n) l' hm
/-- The contract of formula. -/
theorem formula_val (l : List Tk) : RdOk 60 [] (rd (.chain 1) l) l := formulas_ok l.length (signed_ok l.length) l (Nat.le_refl _)
end Go.Proofs.YtloamahbghjjgaaGreatDoor
