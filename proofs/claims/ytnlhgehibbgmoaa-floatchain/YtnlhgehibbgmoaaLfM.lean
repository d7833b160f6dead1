/- Plain facts on the order of float64: it is one, and From keeps it. -/
import Derived.Test.YtnlhgehibbgmoaaLfR
namespace Go.Proofs.Ytnlhgehibbgmoaa
open Go.RowKit

/-- A word's place among all. -/
def keyV (x : Nat) : Int := if 9218868437227405312 < Fl.rng x then 18446744073709551616 else if Fl.sgn x = true then -(Fl.rng x : Int) - 1 else (Fl.rng x : Int)

theorem key_table (x : Nat) (h : Fl.rng x ≤ 9218868437227405312) :
    (clsV x = 6 ∧ keyV x = 9218868437227405312 ∧ Fl.kv x = 9218868437227405312) ∨ (clsV x = 1 ∧ keyV x = -9218868437227405313 ∧ Fl.kv x = -9218868437227405312) ∨ (clsV x = 4 ∧ keyV x = 0 ∧ Fl.kv x = 0) ∨ (clsV x = 3 ∧ keyV x = -1 ∧ Fl.kv x = 0) ∨
      (clsV x = 5 ∧ keyV x = Fl.kv x ∧ 0 < Fl.kv x ∧ Fl.kv x < 9218868437227405312) ∨ (clsV x = 2 ∧ keyV x = Fl.kv x - 1 ∧ Fl.kv x < 0 ∧ -9218868437227405312 < Fl.kv x) := by
  have h' : ¬ 9218868437227405312 < Fl.rng x := by omega
  unfold clsV keyV
  simp only [h', if_false]
  cases s : Fl.sgn x
  · rw [kv_pos s]
    simp only [Bool.false_eq_true, if_false]
    by_cases a : Fl.rng x = 9218868437227405312
    · rw [if_pos a]; exact Or.inl ⟨rfl, by omega, by omega⟩
    · rw [if_neg a]
      by_cases b : Fl.rng x = 0
      · rw [if_pos b]; exact Or.inr (Or.inr (Or.inl ⟨rfl, by omega, by omega⟩))
      · rw [if_neg b]; exact Or.inr (Or.inr (Or.inr (Or.inr (Or.inl ⟨rfl, trivial, by omega, by omega⟩))))
  · rw [kv_neg s]
    simp only [if_true]
    by_cases a : Fl.rng x = 9218868437227405312
    · rw [if_pos a]; exact Or.inr (Or.inl ⟨rfl, by omega, by omega⟩)
    · rw [if_neg a]
      by_cases b : Fl.rng x = 0
      · rw [if_pos b]; exact Or.inr (Or.inr (Or.inr (Or.inl ⟨rfl, by omega, by omega⟩)))
      · rw [if_neg b]; exact Or.inr (Or.inr (Or.inr (Or.inr (Or.inr ⟨rfl, trivial, by omega, by omega⟩))))
theorem key_top (x : Nat) (h : Fl.rng x ≤ 9218868437227405312) : keyV x < 18446744073709551616 := by
  rcases key_table x h with ⟨_, e, _⟩ | ⟨_, e, _⟩ | ⟨_, e, _⟩ | ⟨_, e, _⟩ | ⟨_, e, _⟩ | ⟨_, e, _⟩ <;> omega
theorem sig_same {a b c d : Int} (h1 : a < b ↔ c < d) (h2 : b < a ↔ d < c) : sig a b = sig c d := by
  unfold sig; simp only [h1, h2]

theorem orF_key (x y : Nat) : orF x y = sig (keyV x) (keyV y) := by
  have r7x := rk_seven x
  have r7y := rk_seven y
  by_cases hx : 9218868437227405312 < Fl.rng x
  · have kx : keyV x = 18446744073709551616 := by unfold keyV; rw [if_pos hx]
    have rx := r7x.2 hx
    by_cases hy : 9218868437227405312 < Fl.rng y
    · have ky : keyV y = 18446744073709551616 := by unfold keyV; rw [if_pos hy]
      unfold orF
      rw [rx, r7y.2 hy, if_pos rfl, if_pos hx, kx, ky]; rfl
    · have ky := key_top y (by omega)
      have ry := cls_range y
      have ry7 : rkV (clsV y) ≠ 7 := fun h => hy (r7y.1 h)
      have ryl : rkV (clsV y) ≤ 7 := by unfold rkV; split <;> omega
      unfold orF
      rw [rx, if_neg (by omega), kx, sig_gt (by omega), sig_gt (by omega)]
  · have nx : rkV (clsV x) = clsV x := by
      unfold rkV; rw [if_neg]; intro h; exact hx (r7x.1 (by rw [h]; rfl))
    by_cases hy : 9218868437227405312 < Fl.rng y
    · have ky : keyV y = 18446744073709551616 := by unfold keyV; rw [if_pos hy]
      have kx := key_top x (by omega)
      have rx := cls_range x
      unfold orF
      rw [r7y.2 hy, nx, if_neg (by omega), ky, sig_lt (by omega), sig_lt (by omega)]
    · have ny : rkV (clsV y) = clsV y := by
        unfold rkV; rw [if_neg]; intro h; exact hy (r7y.1 (by rw [h]; rfl))
      unfold orF
      rw [if_neg hx, nx, ny]
      rcases key_table x (by omega) with ⟨c1, e1, k1⟩ | ⟨c1, e1, k1⟩ | ⟨c1, e1, k1⟩ | ⟨c1, e1, k1⟩ | ⟨c1, e1, k1⟩ | ⟨c1, e1, k1⟩ <;> rcases key_table y (by omega) with ⟨c2, e2, k2⟩ | ⟨c2, e2, k2⟩ | ⟨c2, e2, k2⟩ | ⟨c2, e2, k2⟩ | ⟨c2, e2, k2⟩ | ⟨c2, e2, k2⟩ <;> rw [c1, c2] <;> first | (rw [if_pos rfl]; exact sig_same (by omega) (by omega)) | (rw [if_neg (by decide)]; exact sig_same (by omega) (by omega))
theorem sig_turn (a b : Int) : sig a b = -sig b a := by unfold sig; split <;> split <;> omega
theorem sig_le (a b : Int) : sig a b ≤ 0 ↔ a ≤ b := by unfold sig; split <;> (try split) <;> omega
theorem orF_turn (x y : Nat) : orF x y = -orF y x := by rw [orF_key, orF_key]; exact sig_turn _ _
theorem orF_self (x : Nat) : orF x x = 0 := by rw [orF_key]; unfold sig; rw [if_neg (by omega), if_neg (by omega)]
theorem orF_trans (x y z : Nat) (h1 : orF x y ≤ 0) (h2 : orF y z ≤ 0) : orF x z ≤ 0 := by
  rw [orF_key, sig_le] at *; omega
theorem orF_range (x y : Nat) : -1 ≤ orF x y ∧ orF x y ≤ 1 := by rw [orF_key]; unfold sig; split <;> (try split) <;> omega
theorem frq_mono {r s : Nat} (h : r ≤ s) : frq r ≤ frq s := by
  unfold frq
  exact Nat.div_le_div_right (Nat.add_le_add_right (Nat.mul_le_mul_right _ (Fl.mg_le h)) _)
theorem fr_mono (x y : Nat) (h : orF x y ≤ 0) (ex : frE x = 0) (ey : frE y = 0) : frN x ≤ frN y := by
  have hx : Fl.rng x < 9218868437227405312 ∧ ¬ 9000000000000000000 < frq (Fl.rng x) := by
    unfold frE at ex
    by_cases h1 : 9218868437227405312 < Fl.rng x
    · rw [if_pos h1] at ex; cases ex
    · rw [if_neg h1] at ex
      by_cases h2 : Fl.rng x = 9218868437227405312
      · rw [if_pos h2] at ex; cases ex
      · rw [if_neg h2] at ex
        refine ⟨by omega, fun h3 => ?_⟩
        rw [if_pos h3] at ex; cases ex
  have hy : Fl.rng y < 9218868437227405312 ∧ ¬ 9000000000000000000 < frq (Fl.rng y) := by
    unfold frE at ey
    by_cases h1 : 9218868437227405312 < Fl.rng y
    · rw [if_pos h1] at ey; cases ey
    · rw [if_neg h1] at ey
      by_cases h2 : Fl.rng y = 9218868437227405312
      · rw [if_pos h2] at ey; cases ey
      · rw [if_neg h2] at ey
        refine ⟨by omega, fun h3 => ?_⟩
        rw [if_pos h3] at ey; cases ey
  rw [orF_key, sig_le] at h
  unfold keyV at h
  rw [if_neg (by omega : ¬ 9218868437227405312 < Fl.rng x), if_neg (by omega : ¬ 9218868437227405312 < Fl.rng y)] at h
  unfold frN
  rw [if_neg (by omega : ¬ 9218868437227405312 ≤ Fl.rng x), if_neg hx.2, if_neg (by omega : ¬ 9218868437227405312 ≤ Fl.rng y), if_neg hy.2]
  cases sx : Fl.sgn x <;> cases sy : Fl.sgn y <;> rw [sx, sy] at h <;> simp only [Bool.false_eq_true, if_false, if_true] at h ⊢
  · have := frq_mono (show Fl.rng x ≤ Fl.rng y by omega); omega
  · omega
  · omega
  · have := frq_mono (show Fl.rng y ≤ Fl.rng x by omega); omega
end Go.Proofs.Ytnlhgehibbgmoaa
