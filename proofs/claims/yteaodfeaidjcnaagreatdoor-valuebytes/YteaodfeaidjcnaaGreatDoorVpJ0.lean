/- Which of two values comes first, as the program reckons it. -/
import Derived.Test.YteaodfeaidjcnaaGreatDoorVpI
import Derived.Test.YteaodfeaidjcnaaGreatDoorVrK
namespace Go.Proofs.YteaodfeaidjcnaaGreatDoor
open Go.RowKit

theorem good_kind (x : Vl) (h : vGood x = true) : x.kind = 0 ∨ x.kind = 1 ∨ x.kind = 2 ∨ x.kind = 3 ∨ x.kind = 4 := by
  obtain ⟨k, n, s, b, f⟩ := x
  by_cases k0 : k = 0
  · exact Or.inl k0
  · by_cases k1 : k = 1
    · exact Or.inr (Or.inl k1)
    · by_cases k2 : k = 2
      · exact Or.inr (Or.inr (Or.inl k2))
      · by_cases k3 : k = 3
        · exact Or.inr (Or.inr (Or.inr (Or.inl k3)))
        · by_cases k4 : k = 4
          · exact Or.inr (Or.inr (Or.inr (Or.inr k4)))
          · rw [good_else k n s b f k0 k1 k2 k3 k4] at h; cases h
theorem bl_good (k : Int) (h : k = 0 ∨ k = 1 ∨ k = 2 ∨ k = 3) : vGood (bl k) = true := by
  rcases h with rfl | rfl | rfl | rfl <;> decide +kernel
theorem bes_good (u x : Vl) (hu : vGood u = true) (hx : vGood x = true) (k2 : x.kind ≠ 4) : vGood (besV u x) = true := by
  unfold besV
  by_cases h : u.kind = 0
  · rw [if_pos h]
    exact bl_good x.kind (by have := good_kind x hx; omega)
  · rw [if_neg h]; exact hu
theorem sound_of (u : Vl) (h : vGood u = true) : vSound u = u := by unfold vSound; rw [if_pos h]
theorem bes_size (u x : Vl) (hu : u.text.size ≤ 1000) : (besV u x).text.size ≤ 1000 := by
  unfold besV
  by_cases h : u.kind = 0
  · rw [if_pos h]; show noText.size ≤ 1000; decide
  · rw [if_neg h]; exact hu
/-- Which of two comes first, once each stands for what it is beside the other. -/
def ordP (U X : Vl) : Int := if U.kind = X.kind then (if U.kind = 2 then ltL (mapB lowC U.text).data.toList (mapB lowC X.text).data.toList else cmpV (asNumV U).1 (asNumV X).1) else cmpV U.kind X.kind
theorem cmp00 : cmpV 0 0 = 0 := by decide
theorem cmp01 : cmpV 0 10000 = -1 := by decide
theorem cmp10 : cmpV 10000 0 = 1 := by decide
theorem cmp11 : cmpV 10000 10000 = 0 := by decide
theorem ord_prog (u x : Vl) (hu : vGood u = true) (hx : vGood x = true) (k1 : u.kind ≠ 4) (k2 : x.kind ≠ 4) : ordV3 u x = (ordP (besV u x) (besV x u), 0) := by
  have g1 := good_kind u hu
  have g2 := good_kind x hx
  clear hu hx
  obtain ⟨k, n, s, b, f⟩ := u
  obtain ⟨k', n', s', b', f'⟩ := x
  simp only [] at g1 g2 k1 k2
  have h1 : k = 0 ∨ k = 1 ∨ k = 2 ∨ k = 3 := by omega
  have h2 : k' = 0 ∨ k' = 1 ∨ k' = 2 ∨ k' = 3 := by omega
  clear g1 g2 k1 k2
  rcases h1 with rfl | rfl | rfl | rfl <;> rcases h2 with rfl | rfl | rfl | rfl <;> cases b <;> cases b' <;> simp [ordV3, besV, bl, sameV, ordP, asNumV, cmp00, cmp01, cmp10, cmp11]
theorem ordP_ne (U X : Vl) (h : (U.kind == X.kind) = false) : ordP U X = cmpV U.kind X.kind := by
  unfold ordP; rw [if_neg (by rw [beq_eq_false_iff_ne] at h; exact h)]
theorem ordP_text (U X : Vl) (h : (U.kind == X.kind) = true) (h2 : (U.kind == 2) = true) : ordP U X = ltL (mapB lowC U.text).data.toList (mapB lowC X.text).data.toList := by
  rw [beq_iff_eq] at h h2
  unfold ordP; rw [if_pos h, if_pos h2]
theorem ordP_num (U X : Vl) (h : (U.kind == X.kind) = true) (h2 : (U.kind == 2) = false) : ordP U X = cmpV (asNumV U).1 (asNumV X).1 := by
  rw [beq_iff_eq] at h; rw [beq_eq_false_iff_ne] at h2
  unfold ordP; rw [if_pos h, if_neg h2]

end Go.Proofs.YteaodfeaidjcnaaGreatDoor
