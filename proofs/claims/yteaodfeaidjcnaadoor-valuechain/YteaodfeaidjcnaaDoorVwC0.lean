/- The order of values is turned when they are, and goes on from one to the next. -/
import Derived.Test.YteaodfeaidjcnaaDoorVpJ0
namespace Go.Proofs.YteaodfeaidjcnaaDoor
open Go.RowKit

theorem cmpV_turn (a b : Int) : cmpV b a = -cmpV a b := by
  unfold cmpV
  by_cases h1 : a < b
  · rw [if_neg (by omega), if_pos h1, if_pos h1]; rfl
  · by_cases h2 : b < a
    · rw [if_pos h2, if_neg h1, if_pos h2]
    · rw [if_neg h2, if_neg h1, if_neg h1, if_neg h2]; rfl
theorem cmpV_in (a b : Int) : -1 ≤ cmpV a b ∧ cmpV a b ≤ 1 := by
  unfold cmpV
  split
  · omega
  · split <;> omega
theorem cmpV_le (a b : Int) : cmpV a b ≤ 0 ↔ a ≤ b := by
  unfold cmpV
  split
  · constructor <;> intro _ <;> omega
  · split
    · constructor <;> intro _ <;> omega
    · constructor <;> intro _ <;> omega
theorem ltL_turn (l m : List UInt8) : ltL m l = -ltL l m := by
  induction l generalizing m with
  | nil => cases m <;> rfl
  | cons a l ih =>
    cases m with
    | nil => rfl
    | cons b m =>
      unfold ltL
      by_cases h1 : a.toNat < b.toNat
      · have h2 : ¬ b.toNat < a.toNat := by omega
        rw [if_neg h2, if_pos h1, if_pos h1]; rfl
      · by_cases h2 : b.toNat < a.toNat
        · rw [if_pos h2, if_neg h1, if_pos h2]
        · rw [if_neg h2, if_neg h1, if_neg h1, if_neg h2]; exact ih m
theorem ltL_in (l m : List UInt8) : -1 ≤ ltL l m ∧ ltL l m ≤ 1 := by
  induction l generalizing m with
  | nil => cases m <;> simp [ltL]
  | cons a l ih =>
    cases m with
    | nil => simp [ltL]
    | cons b m =>
      unfold ltL
      split
      · omega
      · split
        · omega
        · exact ih m
theorem ltL_go (l m n : List UInt8) (h1 : ltL l m ≤ 0) (h2 : ltL m n ≤ 0) : ltL l n ≤ 0 := by
  induction l generalizing m n with
  | nil => cases n <;> simp [ltL]
  | cons a l ih =>
    cases m with
    | nil => simp [ltL] at h1
    | cons b m =>
      cases n with
      | nil => simp [ltL] at h2
      | cons c n =>
        unfold ltL at h1 h2 ⊢
        by_cases x1 : a.toNat < b.toNat
        · by_cases x2 : c.toNat < b.toNat
          · rw [if_neg (by omega), if_pos x2] at h2; omega
          · rw [if_pos (by omega)]; decide
        · rw [if_neg x1] at h1
          by_cases x3 : b.toNat < a.toNat
          · rw [if_pos x3] at h1; omega
          · rw [if_neg x3] at h1
            by_cases x4 : b.toNat < c.toNat
            · rw [if_pos (by omega)]; decide
            · rw [if_neg x4] at h2
              by_cases x5 : c.toNat < b.toNat
              · rw [if_pos x5] at h2; omega
              · rw [if_neg x5] at h2
                rw [if_neg (by omega), if_neg (by omega)]
                exact ih m n h1 h2
theorem ordP_turn (U X : Vl) : ordP X U = -ordP U X := by
  unfold ordP
  by_cases h : U.kind = X.kind
  · rw [if_pos h, if_pos h.symm, ← h]
    by_cases h2 : U.kind = 2
    · rw [if_pos h2, if_pos h2]; exact ltL_turn _ _
    · rw [if_neg h2, if_neg h2]; exact cmpV_turn _ _
  · rw [if_neg h, if_neg (Ne.symm h)]; exact cmpV_turn _ _
theorem ordP_in (U X : Vl) : -1 ≤ ordP U X ∧ ordP U X ≤ 1 := by
  unfold ordP
  split
  · split
    · exact ltL_in _ _
    · exact cmpV_in _ _
  · exact cmpV_in _ _
theorem ordP_go (U X Z : Vl) (h1 : ordP U X ≤ 0) (h2 : ordP X Z ≤ 0) : ordP U Z ≤ 0 := by
  unfold ordP at h1 h2 ⊢
  by_cases a : U.kind = X.kind
  · rw [if_pos a] at h1
    by_cases b : X.kind = Z.kind
    · rw [if_pos b] at h2
      rw [if_pos (a.trans b)]
      by_cases c : U.kind = 2
      · rw [if_pos c] at h1 ⊢
        rw [if_pos (by rw [← a]; exact c)] at h2
        exact ltL_go _ _ _ h1 h2
      · rw [if_neg c] at h1 ⊢
        rw [if_neg (by rw [← a]; exact c)] at h2
        rw [cmpV_le] at h1 h2 ⊢
        omega
    · rw [if_neg b, cmpV_le] at h2
      rw [if_neg (by rw [a]; exact b), cmpV_le]
      omega
  · rw [if_neg a, cmpV_le] at h1
    by_cases b : X.kind = Z.kind
    · rw [if_neg (by rw [← b]; exact a), cmpV_le]
      omega
    · rw [if_neg b, cmpV_le] at h2
      rw [if_neg (by omega), cmpV_le]
      omega
theorem good_fail (u : Vl) (h : vGood u = true) (hk : u.kind = 4) : u.fail ≠ 0 := by
  obtain ⟨k, n, s, b, f⟩ := u
  simp only [] at hk ⊢
  subst hk
  rw [vGood4] at h
  simp at h
  omega
/-- What is asked of two: whether they are told, which way, and turned. -/
theorem ord_turn (u x : Vl) (hu : vGood u = true) (hx : vGood x = true) :
    ((ordV3 u x).2 == 0) = ((ordV3 x u).2 == 0) ∧ ((ordV3 u x).2 = 0 → (ordV3 u x).1 = -(ordV3 x u).1 ∧ (ordV3 u x).2 = 0 ∧ (ordV3 x u).2 = 0) ∧ -1 ≤ (ordV3 x u).1 ∧ (ordV3 x u).1 ≤ 1 := by
  by_cases k1 : u.kind = 4
  · have f1 := good_fail u hu k1
    by_cases k2 : x.kind = 4
    · have f2 := good_fail x hx k2
      have e1 : ordV3 u x = (0, u.fail) := by unfold ordV3; rw [if_pos k1]
      have e2 : ordV3 x u = (0, x.fail) := by unfold ordV3; rw [if_pos k2]
      rw [e1, e2]
      simp only [beq_eq_false_iff_ne.mpr f1, beq_eq_false_iff_ne.mpr f2]
      simp [f1]
    · have e1 : ordV3 u x = (0, u.fail) := by unfold ordV3; rw [if_pos k1]
      have e2 : ordV3 x u = (0, u.fail) := by unfold ordV3; rw [if_neg k2, if_pos k1]
      rw [e1, e2]
      simp [f1]
  · by_cases k2 : x.kind = 4
    · have f2 := good_fail x hx k2
      have e1 : ordV3 u x = (0, x.fail) := by unfold ordV3; rw [if_neg k1, if_pos k2]
      have e2 : ordV3 x u = (0, x.fail) := by unfold ordV3; rw [if_pos k2]
      rw [e1, e2]
      simp [f2]
    · rw [ord_prog u x hu hx k1 k2, ord_prog x u hx hu k2 k1, ordP_turn (besV u x) (besV x u)]
      have := ordP_in (besV u x) (besV x u)
      refine ⟨rfl, fun _ => ⟨?_, rfl, rfl⟩, ?_, ?_⟩ <;> simp only [] <;> omega
theorem bes_not (u x : Vl) (h : u.kind ≠ 0) : besV u x = u := by unfold besV; rw [if_neg h]
/-- Told values that aren't blank: the order is that of the keys. -/
theorem ord_told (X Y : Vl) (hX : X.kind ≠ 0) (hY : Y.kind ≠ 0) (h : (ordV3 (vSound X) (vSound Y)).2 = 0) : (ordV3 (vSound X) (vSound Y)).1 = ordP X Y := by
  have gX := sound_good X
  have gY := sound_good Y
  have k1 : (vSound X).kind ≠ 4 := fun k => by
    have e : ordV3 (vSound X) (vSound Y) = (0, (vSound X).fail) := by unfold ordV3; rw [if_pos k]
    rw [e] at h
    exact good_fail _ gX k h
  have k2 : (vSound Y).kind ≠ 4 := fun k => by
    have e : ordV3 (vSound X) (vSound Y) = (0, (vSound Y).fail) := by unfold ordV3; rw [if_neg k1, if_pos k]
    rw [e] at h
    exact good_fail _ gY k h
  have eX : vSound X = X := by
    unfold vSound at k1 ⊢
    by_cases g : vGood X = true
    · rw [if_pos g]
    · rw [if_neg g] at k1; exact absurd rfl k1
  have eY : vSound Y = Y := by
    unfold vSound at k2 ⊢
    by_cases g : vGood Y = true
    · rw [if_pos g]
    · rw [if_neg g] at k2; exact absurd rfl k2
  rw [ord_prog _ _ gX gY k1 k2, eX, eY, bes_not X Y hX, bes_not Y X hY]
/-- What is asked of three. -/
theorem ord_chain (X Y Z : Vl) (hX : X.kind ≠ 0) (hY : Y.kind ≠ 0) (hZ : Z.kind ≠ 0) (p r s : Int)
    (h1 : ordV3 (vSound X) (vSound Y) = (p, 0)) (h2 : ordV3 (vSound Y) (vSound Z) = (r, 0)) (h3 : ordV3 (vSound X) (vSound Z) = (s, 0)) :
    ¬ (p ≤ 0 ∧ r ≤ 0 ∧ 0 < s) ∧ ¬ (0 ≤ p ∧ 0 ≤ r ∧ s < 0) := by
  have e1 := ord_told X Y hX hY (by rw [h1])
  have e2 := ord_told Y Z hY hZ (by rw [h2])
  have e3 := ord_told X Z hX hZ (by rw [h3])
  rw [h1] at e1
  rw [h2] at e2
  rw [h3] at e3
  simp only [] at e1 e2 e3
  subst e1 e2 e3
  have t1 := ordP_turn X Y
  have t2 := ordP_turn Y Z
  have t3 := ordP_turn X Z
  constructor
  · rintro ⟨a, b, c⟩
    have := ordP_go X Y Z a b
    omega
  · rintro ⟨a, b, c⟩
    have := ordP_go Z Y X (by omega) (by omega)
    omega
end Go.Proofs.YteaodfeaidjcnaaDoor
