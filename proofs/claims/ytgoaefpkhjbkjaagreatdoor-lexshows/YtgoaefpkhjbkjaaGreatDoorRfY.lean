/- The contracts of the reference's nearest, Mul, Div, Mod. -/
import Derived.Test.YtgoaefpkhjbkjaaGreatDoorRfZ
import Derived.Test.YtgoaefpkhjbkjaaGreatDoorFxZ
namespace Go.Proofs.YtgoaefpkhjbkjaaGreatDoor
open Go.RowKit

/-- The quotient, rounded, of numbers that aren't below 0. -/
def nrI (a b : Int) : Int := a / b + (if b ≤ 2 * (a % b) then 1 else 0)
theorem divmod_of {a q b r : Int} (h : a = q * b + r) (h0 : 0 ≤ r) (h1 : r < b) : a / b = q ∧ a % b = r := by
  have hb : 0 < b := by omega
  constructor
  · rw [h, Int.add_comm, Int.add_mul_ediv_right _ _ (by omega), Int.ediv_eq_zero_of_lt h0 h1]; omega
  · rw [h, Int.add_comm, Int.add_mul_emod_self_right, Int.emod_eq_of_lt h0 h1]
theorem one_arr (w : World) (t : TypeId) (k : Int) : Arr (w.alloc (.cells #[.int .i64 k] t)) (.slice (some ⟨w.heap.size, 0, none⟩) 1 1) [k] := by
  refine Or.inr ⟨w.heap.size, 0, 1, rfl, by simp, by simp, fun i hi => ?_⟩
  have : i = 0 := by simpa using hi
  subst this
  simp
theorem dig_one : Dc.Dig [1] := by intro x hx; simp at hx; subst hx; omega

set_option maxRecDepth 100000 in
set_option maxHeartbeats 4000000 in
theorem nearest_ref (va vb : Value) (xs ys : List Int) (w : World) (hx : xs.length ≤ 200) (hy : ys.length ≤ 200) (hva : Arr w va xs) (hvb : Arr w vb ys) (dx : Dc.Dig xs) (dy : Dc.Dig ys) (cy : Dc.Cn ys) (hpos : 0 < Dc.val ys) :
    Calls Tryz.prog 116 #[va, vb] w fun e w' => NumPost (nrI (Dc.val xs) (Dc.val ys)) (max xs.length 1 + 1) w e w' := by
  have HVA := hide hva
  have HVB := hide hvb
  have HD := hide (And.intro dx (And.intro dy (And.intro cy hpos)))
  clear hva hvb dx dy cy hpos
  go_enter Tryz.func116, Tryz.ntmps116
  go_wp2_with fail
  refine (over_ref va vb xs ys _ hx hy (unhide HVA) (unhide HVB) (unhide HD).1 (unhide HD).2.1 (unhide HD).2.2.1 (unhide HD).2.2.2).mono ?_
  rintro e w1 ⟨b1, vq, vr, qs, rs, rfl, q1, r1, q2, q3, r2, r3, es, rl, ql, rlen, fq⟩
  have Q := hide (And.intro q1 (And.intro q2 (And.intro q3 (And.intro ql fq))))
  have R := hide (And.intro r1 (And.intro r2 (And.intro r3 (And.intro rl rlen))))
  obtain ⟨d1, d2⟩ := divmod_of es (Dc.val_nonneg rs r2) rl
  have ED := hide (And.intro d1 d2)
  clear q1 r1 q2 q3 r2 r3 es rl ql rlen d1 d2 fq
  go_wp2_with fail
  refine (plus_ref vr vr rs rs _ (by have := (unhide R).2.2.2.2; omega) (by have := (unhide R).2.2.2.2; omega) (unhide R).1 (unhide R).1 (unhide R).2.1 (unhide R).2.1).mono ?_
  rintro e w2 ⟨b2, vt, ts, rfl, t1, t2, t3, t4, t5⟩
  have T := hide (And.intro t1 (And.intro t2 (And.intro t3 (And.intro t4 t5))))
  have b12 := below_next b1 b2
  clear t1 t2 t3 t4 t5
  go_wp2_with fail
  refine (below_any vt vb ts ys _ (by have := (unhide T).2.2.2.2; have := (unhide R).2.2.2.2; omega) (by omega) (unhide T).1 ((unhide HVB).below (Nat.le_refl _) b12) (unhide T).2.1 (unhide HD).2.1 (unhide T).2.2.1 (unhide HD).2.2.1).mono ?_
  rintro e w3 ⟨rfl, b3⟩
  have b13 := below_next b12 b3
  rw [(unhide T).2.2.2.1]
  by_cases hl : Dc.val rs + Dc.val rs < Dc.val ys
  · rw [decide_eq_true hl]
    have HN : Hid (Dc.val qs = nrI (Dc.val xs) (Dc.val ys)) := hide (by unfold nrI; rw [(unhide ED).1, (unhide ED).2, if_neg (by omega)]; omega)
    have b23 := below_next b2 b3
    clear hl
    go_wp2
    go_ret
    exact ⟨b13, vq, qs, rfl, (unhide Q).1.below (Nat.le_refl _) b23, (unhide Q).2.1, (unhide Q).2.2.1, unhide HN, by have := (unhide Q).2.2.2; omega, (unhide Q).2.2.2.2⟩
  · rw [decide_eq_false hl]
    have HN : Hid (Dc.val qs + Dc.val [1] = nrI (Dc.val xs) (Dc.val ys)) := hide (by unfold nrI; rw [(unhide ED).1, (unhide ED).2, if_pos (by omega)]; simp [Dc.val])
    have b23 := below_next b2 b3
    have Q3 := hide ((unhide Q).1.below (Nat.le_refl _) b23)
    clear hl
    go_wp2_with fail
    refine (plus_ref vq _ qs [1] _ (by have := (unhide Q).2.2.2; omega) (by simp) ((unhide Q3).below (Nat.le_refl _) ((Below.refl _ _).alloc (Nat.le_refl _) _)) (one_arr _ _ _) (unhide Q).2.1 dig_one).mono ?_
    rintro e w4 ⟨b4, vs, ss, rfl, s1, s2, s3, s4, s5⟩
    have S := hide (And.intro s1 (And.intro s2 (And.intro s3 (And.intro s4 s5))))
    clear s1 s2 s3 s4 s5
    go_wp2
    go_ret
    obtain ⟨s1, s2, s3, s4, s5, s6⟩ := unhide S
    exact ⟨below_next (b13.alloc (by have := b13.size; omega) _) b4, vs, ss, rfl, s1, s2, s3, by rw [s4]; exact unhide HN, by have := (unhide Q).2.2.2; simp at s5; omega, fr_mono s6 (by have := b13.size; simp; omega)⟩

/-- Rounded by words of 64 bits, and by digits: the same. -/
theorem sc_ref (neg : Bool) (x y z : Nat) (_hz : 0 < z) : (sgnN neg (nrI ((x : Int) * (y : Int)) (z : Int)), sgnE (nrI ((x : Int) * (y : Int)) (z : Int))) = scR neg x y z := by
  have e : nrI ((x : Int) * (y : Int)) (z : Int) = ((x * y / z + (if z ≤ 2 * (x * y % z) then 1 else 0) : Nat) : Int) := by
    unfold nrI
    rw [← Int.natCast_mul, ← Int.natCast_ediv, ← Int.natCast_emod]
    by_cases h : z ≤ 2 * (x * y % z)
    · rw [if_pos h, if_pos (by omega)]; simp
    · rw [if_neg h, if_neg (by omega)]; simp
  rw [e]
  unfold scR
  by_cases h : x * y / z ≤ 9000000000000000000
  · have hk : nrOk x y z = true := decide_eq_true h
    have hv : nrV x y z = x * y / z + (if z ≤ 2 * (x * y % z) then 1 else 0) := by unfold nrV; rw [if_pos hk]
    rw [if_pos hk, hv]
  · have hk : ¬ nrOk x y z = true := by unfold nrOk; rw [decide_eq_true_iff]; exact h
    rw [if_neg hk]
    have hgt : (9000000000000000000 : Int) < ((x * y / z + (if z ≤ 2 * (x * y % z) then 1 else 0) : Nat) : Int) := by
      rw [Int.natCast_add]
      have : (9000000000000000000 : Int) < ((x * y / z : Nat) : Int) := by
        have := Nat.lt_of_not_le h
        exact Int.ofNat_lt.2 this
      omega
    unfold sgnN sgnE
    rw [if_pos hgt, if_pos hgt]

theorem val_pos {ys : List Int} {b : Int} (h : Dc.val ys = (b.natAbs : Int)) (hb : b ≠ 0) : 0 < Dc.val ys := by rw [h]; omega

end Go.Proofs.YtgoaefpkhjbkjaaGreatDoor

namespace Go.Proofs.YtgoaefpkhjbkjaaGreatDoor
open Go.RowKit

theorem modV_cases' (a b : Int) (hb : b ≠ 0) :
    (a.tmod b = 0 ∧ modV a b = 0) ∨ (a.tmod b < 0 ∧ b < 0 ∧ b < a.tmod b ∧ modV a b = a.tmod b) ∨ (0 < a.tmod b ∧ 0 < b ∧ a.tmod b < b ∧ modV a b = a.tmod b) ∨
      (a.tmod b < 0 ∧ 0 < b ∧ 0 < a.tmod b + b ∧ a.tmod b + b < b ∧ modV a b = a.tmod b + b) ∨ (0 < a.tmod b ∧ b < 0 ∧ a.tmod b + b < 0 ∧ b < a.tmod b + b ∧ modV a b = a.tmod b + b) := by
  have h1 : (a.tmod b).natAbs = a.natAbs % b.natAbs := Int.natAbs_tmod a b
  have h2 : a.natAbs % b.natAbs < b.natAbs := Nat.mod_lt _ (by omega)
  rw [← h1] at h2
  clear h1
  unfold modV
  generalize a.tmod b = t at *
  rcases Int.lt_trichotomy t 0 with ht | ht | ht
  · by_cases hn : b < 0
    · refine Or.inr (Or.inl ⟨ht, hn, by omega, ?_⟩)
      rw [if_neg]; intro h; have := h.2; simp [ht, hn] at this
    · refine Or.inr (Or.inr (Or.inr (Or.inl ⟨ht, by omega, by omega, by omega, ?_⟩)))
      rw [if_pos]; exact ⟨by omega, by simp [ht]; omega⟩
  · subst ht
    exact Or.inl ⟨rfl, by rw [if_neg]; intro h; exact h.1 rfl⟩
  · by_cases hn : b < 0
    · refine Or.inr (Or.inr (Or.inr (Or.inr ⟨ht, hn, by omega, by omega, ?_⟩)))
      rw [if_pos]; exact ⟨by omega, by simp [hn]; omega⟩
    · refine Or.inr (Or.inr (Or.inl ⟨ht, by omega, by omega, ?_⟩))
      rw [if_neg]; intro h; have h2 := h.2
      rw [decide_eq_false (by omega), decide_eq_false hn] at h2; cases h2

/-- What is left, by sizes. -/
theorem mod_sizes (a b R : Int) (hb : b ≠ 0) (hR : (a.natAbs : Int) % (b.natAbs : Int) = R) :
    (R ≠ 0 → (decide (a < 0) != decide (b < 0)) = true → modV a b = (if b < 0 then -((b.natAbs : Int) - R) else (b.natAbs : Int) - R)) ∧
    ((R = 0 ∨ (decide (a < 0) != decide (b < 0)) = false) → modV a b = (if b < 0 then -R else R)) := by
  have h1 : (a.tmod b).natAbs = a.natAbs % b.natAbs := Int.natAbs_tmod a b
  have h2 : ((a.natAbs % b.natAbs : Nat) : Int) = R := by rw [← hR]; exact Int.natCast_emod _ _
  have h3 : 0 ≤ a → 0 ≤ a.tmod b := fun h => Int.tmod_nonneg b h
  have h4 : a < 0 → a.tmod b ≤ 0 := fun h => by
    have := Int.tmod_nonneg b (show 0 ≤ -a by omega)
    rw [Int.neg_tmod] at this
    omega
  have hm := modV_cases' a b hb
  constructor
  · intro hr hs
    by_cases ha : a < 0
    · have hb2 : ¬ b < 0 := by intro h; rw [decide_eq_true ha, decide_eq_true h] at hs; cases hs
      rw [if_neg hb2]
      have := h4 ha
      rcases hm with h | h | h | h | h <;> omega
    · have hb2 : b < 0 := by
        rcases Int.lt_or_le b 0 with h | h
        · exact h
        · rw [decide_eq_false ha, decide_eq_false (by omega)] at hs; cases hs
      rw [if_pos hb2]
      have := h3 (by omega)
      rcases hm with h | h | h | h | h <;> omega
  · intro hs
    by_cases hr : R = 0
    · have ht : a.tmod b = 0 := by omega
      rcases hm with h | h | h | h | h
      · rw [h.2]; split <;> omega
      · omega
      · omega
      · omega
      · omega
    · have hs : (decide (a < 0) != decide (b < 0)) = false := by
        rcases hs with h | h
        · exact absurd h hr
        · exact h
      by_cases ha : a < 0
      · have hb2 : b < 0 := by
          rcases Int.lt_or_le b 0 with h | h
          · exact h
          · rw [decide_eq_true ha, decide_eq_false (by omega)] at hs; cases hs
        rw [if_pos hb2]
        have := h4 ha
        rcases hm with h | h | h | h | h <;> omega
      · have hb2 : ¬ b < 0 := by intro h; rw [decide_eq_false ha, decide_eq_true h] at hs; cases hs
        rw [if_neg hb2]
        have := h3 (by omega)
        rcases hm with h | h | h | h | h <;> omega

end Go.Proofs.YtgoaefpkhjbkjaaGreatDoor

namespace Go.Proofs.YtgoaefpkhjbkjaaGreatDoor
open Go.RowKit

theorem two_arr (w : World) (t : TypeId) (k l : Int) : Arr (w.alloc (.cells #[.int .i64 k, .int .i64 l] t)) (.slice (some ⟨w.heap.size, 0, none⟩) 2 2) [k, l] := by
  refine Or.inr ⟨w.heap.size, 0, 2, rfl, by simp, by simp, fun i hi => ?_⟩
  have : i = 0 ∨ i = 1 := by simp at hi; omega
  rcases this with rfl | rfl <;> simp
theorem dig_ten : Dc.Dig [0, 1] := by intro x hx; simp at hx; rcases hx with rfl | rfl <;> omega
theorem val_ten : Dc.val [0, 1] = 10 := by simp [Dc.val]
theorem cn_one : Dc.Cn [1] := by
  intro x l' e
  have h := congrArg List.reverse e
  rw [List.reverse_append] at h
  simp at h
  omega

/-- A power of ten, as digits. -/
def PowAt (w : World) (v : Value) (m : Nat) : Prop := ∃ ss, Arr w v ss ∧ Dc.Dig ss ∧ Dc.Cn ss ∧ Dc.val ss = 10 ^ m ∧ ss.length ≤ 1 + 3 * m
theorem PowAt.below {w w' : World} {v : Value} {m : Nat} (h : PowAt w v m) (hb : Below w.heap.size w w') : PowAt w' v m := by
  obtain ⟨ss, h1, h2⟩ := h
  exact ⟨ss, h1.below (Nat.le_refl _) hb, h2⟩
theorem pow_one (w : World) (t : TypeId) : PowAt (w.alloc (.cells #[.int .i64 1] t)) (.slice (some ⟨w.heap.size, 0, none⟩) 1 1) 0 :=
  ⟨[1], one_arr w t 1, dig_one, cn_one, by simp [Dc.val], by simp⟩
theorem times_ten (v : Value) (m : Nat) (w : World) (t : TypeId) (hm : m ≤ 40) (h : PowAt w v m) :
    Calls Tryz.prog 114 #[v, .slice (some ⟨w.heap.size, 0, none⟩) 2 2] (w.alloc (.cells #[.int .i64 0, .int .i64 1] t)) fun e w' => Below w.heap.size w w' ∧ ∃ v', e = .returned v' ∧ PowAt w' v' (m + 1) := by
  obtain ⟨ss, h1, h2, h3, h4, h5⟩ := h
  have ba : Below w.heap.size w (w.alloc (.cells #[.int .i64 0, .int .i64 1] t)) := (Below.refl _ _).alloc (Nat.le_refl _) _
  refine (times_ref v _ ss [0, 1] _ (by omega) (by simp) (h1.below (Nat.le_refl _) ba) (two_arr w t 0 1) h2 dig_ten).mono ?_
  rintro e w1 ⟨b1, v', zs, rfl, z1, z2, z3, z4, z5, _⟩
  refine ⟨below_next ba b1, v', rfl, zs, z1, z2, z3, by rw [z4, h4, val_ten, Int.pow_succ], ?_⟩
  simp at z5
  omega

theorem nrI_one (x z : Nat) (hz : 0 < z) (hx : x ≤ 9000000000000000000) : nrI (x : Int) (z : Int) = ((nrV x 1 z : Nat) : Int) := by
  have hk := (nr_one x z hz hx).1
  unfold nrI nrV
  rw [if_pos hk, Nat.mul_one, ← Int.natCast_ediv, ← Int.natCast_emod]
  by_cases h : z ≤ 2 * (x % z)
  · rw [if_pos h, if_pos (by omega)]; simp
  · rw [if_neg h, if_neg (by omega)]; simp

end Go.Proofs.YtgoaefpkhjbkjaaGreatDoor

namespace Go.Proofs.YtgoaefpkhjbkjaaGreatDoor
open Go.RowKit

theorem whole_eq (a : Int) (zs : List Int) (hd : Dc.Dig zs) (hv : Dc.val zs = (a.natAbs : Int)) (hl : 4 < zs.length) (h1 : -9000000000000000000 ≤ a) (h2 : a ≤ 9000000000000000000) :
    Dc.val (zs.drop 4) = (a.natAbs : Int) / 10000 ∧ sgnN (decide (a < 0)) ((a.natAbs : Int) / 10000) = a.tdiv 10000 := by
  have e := Dc.val_append (zs.take 4) (zs.drop 4)
  rw [List.take_append_drop, List.length_take, Nat.min_eq_left (by omega), hv] at e
  have b1 := Dc.val_nonneg (zs.take 4) (hd.take 4)
  have b2 := Dc.val_lt (zs.take 4) (hd.take 4)
  rw [List.length_take, Nat.min_eq_left (by omega)] at b2
  have e4 : (10 : Int) ^ 4 = 10000 := by decide
  rw [e4] at e b2
  have ht : (a.tdiv 10000).natAbs = a.natAbs / 10000 := Int.natAbs_tdiv a 10000
  refine ⟨by omega, ?_⟩
  unfold sgnN
  rw [if_neg (by omega)]
  by_cases ha : a < 0
  · rw [decide_eq_true ha, if_pos rfl]
    have h3 : a.tdiv 10000 ≤ 0 := by
      have := Int.tdiv_nonneg (show 0 ≤ -a by omega) (show (0 : Int) ≤ 10000 by omega)
      rw [Int.neg_tdiv] at this
      omega
    omega
  · rw [decide_eq_false ha]
    have h3 : 0 ≤ a.tdiv 10000 := Int.tdiv_nonneg (by omega) (by omega)
    show (a.natAbs : Int) / 10000 = a.tdiv 10000
    omega
theorem whole_small (a : Int) (zs : List Int) (hd : Dc.Dig zs) (hv : Dc.val zs = (a.natAbs : Int)) (hl : zs.length ≤ 4) : a.tdiv 10000 = 0 := by
  have b2 := Dc.val_lt zs hd
  have h3 : (10 : Int) ^ zs.length ≤ 10 ^ 4 := Dc.pow_le hl
  have e4 : (10 : Int) ^ 4 = 10000 := by decide
  have ht : (a.tdiv 10000).natAbs = a.natAbs / 10000 := Int.natAbs_tdiv a 10000
  omega
theorem cn_drop {zs : List Int} (h : Dc.Cn zs) (k : Nat) : Dc.Cn (zs.drop k) := by
  intro x l' e
  refine h x (zs.take k ++ l') ?_
  rw [List.append_assoc, ← e, List.take_append_drop]
theorem getD_drop (zs : List Int) (k i : Nat) : (zs.drop k).getD i 0 = zs.getD (k + i) 0 := by
  rw [List.getD_eq_getElem?_getD, List.getD_eq_getElem?_getD, List.getElem?_drop]

end Go.Proofs.YtgoaefpkhjbkjaaGreatDoor
