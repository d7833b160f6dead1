/- Plain facts for AddrMeets. -/
import Derived.Test.YtlgmpoofcdkaeaaDoorAwB
import Derived.Test.YtlgmpoofcdkaeaaDoorAdN
namespace Go.Proofs.YtlgmpoofcdkaeaaDoor
open Go.RowKit

theorem max_comm4 (a b : Int) : max a b = max b a := by omega
theorem min_comm4 (a b : Int) : min a b = min b a := by omega
theorem meet_comm (a b c d a' b' c' d' : Int) : meetB a' b' c' d' a b c d = meetB a b c d a' b' c' d' := by
  unfold meetB
  rw [max_comm4 a' a, max_comm4 b' b, min_comm4 c' c, min_comm4 d' d]
  cases areaG a b c d <;> cases areaG a' b' c' d' <;> rfl
theorem area_mono (a b c d a' b' c' d' : Int) (h1 : a ≤ a') (h2 : b ≤ b') (h3 : c' ≤ c) (h4 : d' ≤ d) (h5 : a' ≤ c') (h6 : b' ≤ d') : areaC a' b' c' d' ≤ areaC a b c d := by
  unfold areaC
  exact Int.mul_le_mul (by omega) (by omega) (by omega) (by omega)
theorem hasG_iff (a b c d x y : Int) : hasG a b c d x y = true ↔ areaG a b c d = true ∧ a ≤ x ∧ x ≤ c ∧ b ≤ y ∧ y ≤ d := by
  unfold hasG; simp
theorem meetB_iff (a b c d a' b' c' d' : Int) : meetB a b c d a' b' c' d' = true ↔ areaG a b c d = true ∧ areaG a' b' c' d' = true ∧ areaG (max a a') (max b b') (min c c') (min d d') = true := by
  unfold meetB; simp
theorem meet_has (a b c d a' b' c' d' x y : Int) : (meetB a b c d a' b' c' d' && hasG (max a a') (max b b') (min c c') (min d d') x y) = (hasG a b c d x y && hasG a' b' c' d' x y) := by
  rw [Bool.eq_iff_iff, Bool.and_eq_true, Bool.and_eq_true, meetB_iff, hasG_iff, hasG_iff, hasG_iff]
  constructor
  · rintro ⟨⟨h1, h2, _⟩, _, h4, h5, h6, h7⟩
    exact ⟨⟨h1, by omega, by omega, by omega, by omega⟩, h2, by omega, by omega, by omega, by omega⟩
  · rintro ⟨⟨h1, h2, h3, h4, h5⟩, k1, k2, k3, k4, k5⟩
    have g : areaG (max a a') (max b b') (min c c') (min d d') = true := by
      obtain ⟨p1, p2, p3, p4, p5⟩ := (areaG_iff _ _ _ _).1 h1
      obtain ⟨q1, q2, q3, q4, q5⟩ := (areaG_iff _ _ _ _).1 k1
      rw [cellG_iff] at p1 p2 q1 q2
      rw [areaG_iff, cellG_iff, cellG_iff]
      have := area_mono a b c d (max a a') (max b b') (min c c') (min d d') (by omega) (by omega) (by omega) (by omega) (by omega) (by omega)
      refine ⟨by omega, by omega, by omega, by omega, by omega⟩
    exact ⟨⟨h1, k1, g⟩, g, by omega, by omega, by omega, by omega⟩
theorem meet_good (a b c d a' b' c' d' : Int) (h : meetB a b c d a' b' c' d' = true) : areaG (max a a') (max b b') (min c c') (min d d') = true := ((meetB_iff _ _ _ _ _ _ _ _).1 h).2.2
theorem meet_size (a b c d a' b' c' d' : Int) (h : meetB a b c d a' b' c' d' = true) : areaN (max a a') (max b b') (min c c') (min d d') ≤ areaN a b c d := by
  obtain ⟨h1, h2, h3⟩ := (meetB_iff _ _ _ _ _ _ _ _).1 h
  unfold areaN
  rw [if_pos h1, if_pos h3]
  obtain ⟨_, _, p3, p4, _⟩ := (areaG_iff _ _ _ _).1 h3
  exact area_mono _ _ _ _ _ _ _ _ (by omega) (by omega) (by omega) (by omega) p3 p4
theorem meet_none (a b c d a' b' c' d' : Int) (h : (areaG a b c d && areaG a' b' c' d') = false) : meetB a b c d a' b' c' d' = false := by
  unfold meetB
  cases g : areaG a b c d
  · rfl
  · rw [g] at h
    rw [show areaG a' b' c' d' = false from h]; rfl
theorem between_has1 (a b c d : Int) (h : areaG (min a c) (min b d) (max a c) (max b d) = true) : hasG (min a c) (min b d) (max a c) (max b d) a b = true := by
  rw [hasG_iff]; exact ⟨h, by omega, by omega, by omega, by omega⟩
theorem between_has2 (a b c d : Int) (h : areaG (min a c) (min b d) (max a c) (max b d) = true) : hasG (min a c) (min b d) (max a c) (max b d) c d = true := by
  rw [hasG_iff]; exact ⟨h, by omega, by omega, by omega, by omega⟩
theorem meet_pack (a b c d a' b' c' d' : Int) : ∃ (m0 m1 m2 m3 : Int) (ok : Bool),
    (∀ w : World, Calls Tryd.prog 33 #[.agg #[.int .i64 a, .int .i64 b, .int .i64 c, .int .i64 d], .agg #[.int .i64 a', .int .i64 b', .int .i64 c', .int .i64 d']] w fun e w' => e = .returned (.tuple #[.agg #[.int .i64 m0, .int .i64 m1, .int .i64 m2, .int .i64 m3], .bool ok]) ∧ Below w.heap.size w w') ∧
    (∀ w : World, Calls Tryd.prog 33 #[.agg #[.int .i64 a', .int .i64 b', .int .i64 c', .int .i64 d'], .agg #[.int .i64 a, .int .i64 b, .int .i64 c, .int .i64 d]] w fun e w' => e = .returned (.tuple #[.agg #[.int .i64 m0, .int .i64 m1, .int .i64 m2, .int .i64 m3], .bool ok]) ∧ Below w.heap.size w w') ∧
    (ok = true → areaG m0 m1 m2 m3 = true) ∧ (ok = true → areaN m0 m1 m2 m3 ≤ areaN a b c d) ∧
    (∀ x y, (ok && hasG m0 m1 m2 m3 x y) = (hasG a b c d x y && hasG a' b' c' d' x y)) ∧ ((areaG a b c d && areaG a' b' c' d') = false → ok = false) := by
  have h1 := fun w => meet_val a b c d a' b' c' d' w
  have h2 := fun w => meet_val a' b' c' d' a b c d w
  rw [meet_comm a b c d a' b' c' d', max_comm4 a' a, max_comm4 b' b, min_comm4 c' c, min_comm4 d' d] at h2
  have hh := meet_has a b c d a' b' c' d'
  have hn := meet_none a b c d a' b' c' d'
  have hg := meet_good a b c d a' b' c' d'
  have hz := meet_size a b c d a' b' c' d'
  cases e : meetB a b c d a' b' c' d'
  · rw [e, if_neg (by simp)] at h1 h2
    simp only [e] at hh
    exact ⟨0, 0, 0, 0, false, h1, h2, fun h => (by cases h), fun h => (by cases h), fun x y => (by rw [← hh x y]; rfl), fun _ => rfl⟩
  · rw [e, if_pos rfl] at h1 h2
    simp only [e] at hh
    exact ⟨_, _, _, _, true, h1, h2, fun _ => hg e, fun _ => hz e, fun x y => hh x y, fun h => (by rw [hn h] at e; cases e)⟩
/-- What may be said of a world, and stays behind whatever is below. -/
structure Keeps (K : World → Prop) (L : Nat) : Prop where
  nx : ∀ {w w' : World}, K w → Below w.heap.size w w' → K w'
  drew : ∀ {w : World}, K w → K w.drew
  set : ∀ {w : World} {B i : Nat} (v : Value), K w → L ≤ B → K (w.setCell ⟨B, i, none⟩ v)
theorem Keeps.al {K : World → Prop} {L : Nat} (h : Keeps K L) {w : World} (k : K w) (o : Obj) : K (w.alloc o) := h.nx k (below_al w o)
theorem keeps_cells (B L : Nat) (t : TypeId) (cs : Array Value) (h : B < L) : Keeps (fun w => CellsAt w B t cs) L where
  nx := fun h b => cells_nx h b
  drew := fun h => cells_drew h
  set := fun v k hB => cells_set_far k (by omega) _ v
theorem keeps_below (L : Nat) (w : World) (h : w.heap.size ≤ L) : Keeps (fun w' => Below w.heap.size w w') L where
  nx := fun h b => below_nx h b
  drew := fun h => h.drew
  set := fun v k hB => below_set k (by omega) v
theorem keeps_and {K J : World → Prop} {L : Nat} (h : Keeps K L) (j : Keeps J L) : Keeps (fun w => K w ∧ J w) L where
  nx := fun k b => ⟨h.nx k.1 b, j.nx k.2 b⟩
  drew := fun k => ⟨h.drew k.1, j.drew k.2⟩
  set := fun v k hB => ⟨h.set v k.1 hB, j.set v k.2 hB⟩
end Go.Proofs.YtlgmpoofcdkaeaaDoor
