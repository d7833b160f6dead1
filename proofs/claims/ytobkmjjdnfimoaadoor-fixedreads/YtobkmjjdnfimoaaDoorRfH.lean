/- The contracts of the reference's nearest, Mul, Div, Mod. -/
import Derived.Test.YtobkmjjdnfimoaaDoorRfG
import Derived.Test.YtobkmjjdnfimoaaDoorFxE
namespace Go.Proofs.YtobkmjjdnfimoaaDoor
open Go.RowKit

/-- The quotient, rounded, of numbers that aren't below 0. -/
def nrI (a b : Int) : Int := a / b + (if b ≤ 2 * (a % b) then 1 else 0)
theorem divmod_of {a q b r : Int} (h : a = q * b + r) (h0 : 0 ≤ r) (h1 : r < b) : a / b = q ∧ a % b = r := by
  have hb : 0 < b := by omega
  constructor
  · rw [h, Int.add_comm, Int.add_mul_ediv_right _ _ (by omega), Int.ediv_eq_zero_of_lt h0 h1]; omega
  · rw [h, Int.add_comm, Int.add_mul_emod_self_right, Int.emod_eq_of_lt h0 h1]
theorem one_arr (w : World) (t : TypeId) (k : Int) : Arr (w.alloc (.cells #[.int .i64 k] t)) (.slice (some ⟨w.heap.size, 0, none⟩) 1 1) [k] := by
  refine Or.inr ⟨w.heap.size, 0, 1, rfl, by simp, by simp, fun i hi => ?_⟩
  have : i = 0 := by simpa using hi
  subst this
  simp
theorem dig_one : Dc.Dig [1] := by intro x hx; simp at hx; subst hx; omega

set_option maxRecDepth 100000 in
set_option maxHeartbeats 4000000 in
theorem nearest_ref (va vb : Value) (xs ys : List Int) (w : World) (hx : xs.length ≤ 200) (hy : ys.length ≤ 200) (hva : Arr w va xs) (hvb : Arr w vb ys) (dx : Dc.Dig xs) (dy : Dc.Dig ys) (cy : Dc.Cn ys) (hpos : 0 < Dc.val ys) :
    Calls Tryd.prog 40 #[va, vb] w fun e w' => NumPost (nrI (Dc.val xs) (Dc.val ys)) (max xs.length 1 + 1) w e w' := by
  have HVA := hide hva
  have HVB := hide hvb
  have HD := hide (And.intro dx (And.intro dy (And.intro cy hpos)))
  clear hva hvb dx dy cy hpos
  go_enter Tryd.func40, Tryd.ntmps40
  go_wp2_with fail
  refine (over_ref va vb xs ys _ hx hy (unhide HVA) (unhide HVB) (unhide HD).1 (unhide HD).2.1 (unhide HD).2.2.1 (unhide HD).2.2.2).mono ?_
  rintro e w1 ⟨b1, vq, vr, qs, rs, rfl, q1, r1, q2, q3, r2, r3, es, rl, ql, rlen, fq⟩
  have Q := hide (And.intro q1 (And.intro q2 (And.intro q3 (And.intro ql fq))))
  have R := hide (And.intro r1 (And.intro r2 (And.intro r3 (And.intro rl rlen))))
  obtain ⟨d1, d2⟩ := divmod_of es (Dc.val_nonneg rs r2) rl
  have ED := hide (And.intro d1 d2)
  clear q1 r1 q2 q3 r2 r3 es rl ql rlen d1 d2 fq
  go_wp2_with fail
  refine (plus_ref vr vr rs rs _ (by have := (unhide R).2.2.2.2; omega) (by have := (unhide R).2.2.2.2; omega) (unhide R).1 (unhide R).1 (unhide R).2.1 (unhide R).2.1).mono ?_
  rintro e w2 ⟨b2, vt, ts, rfl, t1, t2, t3, t4, t5⟩
  have T := hide (And.intro t1 (And.intro t2 (And.intro t3 (And.intro t4 t5))))
  have b12 := below_next b1 b2
  clear t1 t2 t3 t4 t5
  go_wp2_with fail
  refine (below_any vt vb ts ys _ (by have := (unhide T).2.2.2.2; have := (unhide R).2.2.2.2; omega) (by omega) (unhide T).1 ((unhide HVB).below (Nat.le_refl _) b12) (unhide T).2.1 (unhide HD).2.1 (unhide T).2.2.1 (unhide HD).2.2.1).mono ?_
  rintro e w3 ⟨rfl, b3⟩
  have b13 := below_next b12 b3
  rw [(unhide T).2.2.2.1]
  by_cases hl : Dc.val rs + Dc.val rs < Dc.val ys
  · rw [decide_eq_true hl]
    have HN : Hid (Dc.val qs = nrI (Dc.val xs) (Dc.val ys)) := hide (by unfold nrI; rw [(unhide ED).1, (unhide ED).2, if_neg (by omega)]; omega)
    have b23 := below_next b2 b3
    clear hl
    go_wp2
    go_ret
    exact ⟨b13, vq, qs, rfl, (unhide Q).1.below (Nat.le_refl _) b23, (unhide Q).2.1, (unhide Q).2.2.1, unhide HN, by have := (unhide Q).2.2.2; omega, (unhide Q).2.2.2.2⟩
  · rw [decide_eq_false hl]
    have HN : Hid (Dc.val qs + Dc.val [1] = nrI (Dc.val xs) (Dc.val ys)) := hide (by unfold nrI; rw [(unhide ED).1, (unhide ED).2, if_pos (by omega)]; simp [Dc.val])
    have b23 := below_next b2 b3
    have Q3 := hide ((unhide Q).1.below (Nat.le_refl _) b23)
    clear hl
    go_wp2_with fail
    refine (plus_ref vq _ qs [1] _ (by have := (unhide Q).2.2.2; omega) (by simp) ((unhide Q3).below (Nat.le_refl _) ((Below.refl _ _).alloc (Nat.le_refl _) _)) (one_arr _ _ _) (unhide Q).2.1 dig_one).mono ?_
    rintro e w4 ⟨b4, vs, ss, rfl, s1, s2, s3, s4, s5⟩
    have S := hide (And.intro s1 (And.intro s2 (And.intro s3 (And.intro s4 s5))))
    clear s1 s2 s3 s4 s5
    go_wp2
    go_ret
    obtain ⟨s1, s2, s3, s4, s5, s6⟩ := unhide S
    exact ⟨below_next (b13.alloc (by have := b13.size; omega) _) b4, vs, ss, rfl, s1, s2, s3, by rw [s4]; exact unhide HN, by have := (unhide Q).2.2.2; simp at s5; omega, fr_mono s6 (by have := b13.size; simp; omega)⟩

/-- Rounded by words of 64 bits, and by digits: the same. -/
theorem sc_ref (neg : Bool) (x y z : Nat) (_hz : 0 < z) : (sgnN neg (nrI ((x : Int) * (y : Int)) (z : Int)), sgnE (nrI ((x : Int) * (y : Int)) (z : Int))) = scR neg x y z := by
  have e : nrI ((x : Int) * (y : Int)) (z : Int) = ((x * y / z + (if z ≤ 2 * (x * y % z) then 1 else 0) : Nat) : Int) := by
    unfold nrI
    rw [← Int.natCast_mul, ← Int.natCast_ediv, ← Int.natCast_emod]
    by_cases h : z ≤ 2 * (x * y % z)
    · rw [if_pos h, if_pos (by omega)]; simp
    · rw [if_neg h, if_neg (by omega)]; simp
  rw [e]
  unfold scR
  by_cases h : x * y / z ≤ 9000000000000000000
  · have hk : nrOk x y z = true := decide_eq_true h
    have hv : nrV x y z = x * y / z + (if z ≤ 2 * (x * y % z) then 1 else 0) := by unfold nrV; rw [if_pos hk]
    rw [if_pos hk, hv]
  · have hk : ¬ nrOk x y z = true := by unfold nrOk; rw [decide_eq_true_iff]; exact h
    rw [if_neg hk]
    have hgt : (9000000000000000000 : Int) < ((x * y / z + (if z ≤ 2 * (x * y % z) then 1 else 0) : Nat) : Int) := by
      rw [Int.natCast_add]
      have : (9000000000000000000 : Int) < ((x * y / z : Nat) : Int) := by
        have := Nat.lt_of_not_le h
        exact Int.ofNat_lt.2 this
      omega
    unfold sgnN sgnE
    rw [if_pos hgt, if_pos hgt]

theorem val_pos {ys : List Int} {b : Int} (h : Dc.val ys = (b.natAbs : Int)) (hb : b ≠ 0) : 0 < Dc.val ys := by rw [h]; omega

set_option maxRecDepth 100000 in
set_option maxHeartbeats 4000000 in
theorem mul_ref (a b : Int) (w : World) : Calls Tryd.prog 18 #[.int .i64 a, .int .i64 b] w fun e w' => PairPost (mulR a b) w e w' := by
  cases hg : (goodB a && goodB b)
  · have hs : mulR a b = (0, 5) := by unfold mulR; rw [hg]; rfl
    rw [hs]
    clear hs
    cases ha : goodB a
    · have HA := hide ha
      clear ha hg
      go_enter Tryd.func18, Tryd.ntmps18
      go_wp2_with fail
      refine (good_ref a _).mono ?_
      rintro e w1 ⟨rfl, rfl⟩
      rw [unhide HA]
      go_wp2_with fail
      refine (good_ref b _).mono ?_
      rintro e w2 ⟨rfl, rfl⟩
      go_wp2
      go_ret2
      exact ⟨rfl, Below.refl _ _⟩
    · have hb : goodB b = false := by rw [ha] at hg; exact hg
      have HA := hide ha
      have HB := hide hb
      clear ha hb hg
      go_enter Tryd.func18, Tryd.ntmps18
      go_wp2_with fail
      refine (good_ref a _).mono ?_
      rintro e w1 ⟨rfl, rfl⟩
      rw [unhide HA]
      go_wp2_with fail
      refine (good_ref b _).mono ?_
      rintro e w2 ⟨rfl, rfl⟩
      rw [unhide HB]
      go_wp2
      go_ret2
      exact ⟨rfl, Below.refl _ _⟩
  · have hs : mulR a b = scR (decide (a < 0) != decide (b < 0)) a.natAbs b.natAbs 10000 := by unfold mulR; rw [hg]; rfl
    rw [hs]
    have HSC := hide (sc_ref (decide (a < 0) != decide (b < 0)) a.natAbs b.natAbs 10000 (by omega))
    rw [Bool.and_eq_true] at hg
    have HA := hide hg.1
    have HB := hide hg.2
    rw [goodB_iff, goodB_iff] at hg
    obtain ⟨⟨a1, a2⟩, v1, v2⟩ := hg
    clear hs
    go_enter Tryd.func18, Tryd.ntmps18
    go_wp2_with fail
    refine (good_ref a _).mono ?_
    rintro e w1 ⟨rfl, rfl⟩
    rw [unhide HA]
    go_wp2_with fail
    refine (good_ref b _).mono ?_
    rintro e w2 ⟨rfl, rfl⟩
    rw [unhide HB]
    go_wp2_with fail
    refine (digits_ref a _ (by omega) (by omega)).mono ?_
    rintro e w3 ⟨b3, va, xs, rfl, x1, x2, x3, x4, x5⟩
    have X := hide (And.intro x1 (And.intro x2 (And.intro x3 (And.intro x4 x5))))
    clear x1 x2 x3 x4 x5
    go_wp2_with fail
    refine (digits_ref b _ (by omega) (by omega)).mono ?_
    rintro e w4 ⟨b4, vb, ys, rfl, y1, y2, y3, y4, y5⟩
    have Y := hide (And.intro y1 (And.intro y2 (And.intro y3 (And.intro y4 y5))))
    have b14 := below_next b3 b4
    clear y1 y2 y3 y4 y5
    go_wp2_with fail
    refine (times_ref va vb xs ys _ (by have := (unhide X).2.2.2.2; omega) (by have := (unhide Y).2.2.2.2; omega) ((unhide X).1.below (Nat.le_refl _) b4) (unhide Y).1 (unhide X).2.1 (unhide Y).2.1).mono ?_
    rintro e w5 ⟨b5, vm, ms, rfl, m1, m2, m3, m4, m5⟩
    have M : Hid (Arr w5 vm ms ∧ Dc.Dig ms ∧ Dc.Cn ms ∧ Dc.val ms = (a.natAbs : Int) * (b.natAbs : Int) ∧ ms.length ≤ 50) := hide ⟨m1, m2, m3, by rw [m4, (unhide X).2.2.2.1, (unhide Y).2.2.2.1], by have := (unhide X).2.2.2.2; have := (unhide Y).2.2.2.2; omega⟩
    have b15 := below_next b14 b5
    clear m1 m2 m3 m4 m5
    go_wp2_with fail
    refine (digits_ref 10000 _ (by omega) (by omega)).mono ?_
    rintro e w6 ⟨b6, vs, ss, rfl, s1, s2, s3, s4, s5⟩
    have S : Hid (Arr w6 vs ss ∧ Dc.Dig ss ∧ Dc.Cn ss ∧ Dc.val ss = 10000 ∧ ss.length ≤ 19) := hide ⟨s1, s2, s3, s4, s5.1⟩
    have b16 := below_next b15 b6
    clear s1 s2 s3 s4 s5
    go_wp2_with fail
    refine (nearest_ref vm vs ms ss _ (by have := (unhide M).2.2.2.2; omega) (by have := (unhide S).2.2.2.2; omega) ((unhide M).1.below (Nat.le_refl _) b6) (unhide S).1 (unhide M).2.1 (unhide S).2.1 (unhide S).2.2.1 (by rw [(unhide S).2.2.2.1]; omega)).mono ?_
    rintro e w7 ⟨b7, vn, ns, rfl, n1, n2, n3, n4, n5⟩
    have N : Hid (Arr w7 vn ns ∧ Dc.Dig ns ∧ Dc.Cn ns ∧ Dc.val ns = nrI ((a.natAbs : Int) * (b.natAbs : Int)) 10000 ∧ ns.length ≤ 900) := hide ⟨n1, n2, n3, by rw [n4, (unhide M).2.2.2.1, (unhide S).2.2.2.1], by have := (unhide M).2.2.2.2; omega⟩
    have b17 := below_next b16 b7
    clear n1 n2 n3 n4 n5
    go_wp2_with fail
    refine (number_ref vn ns _ _ (unhide N).2.2.2.2 (unhide N).1 (unhide N).2.1 (unhide N).2.2.1).mono ?_
    rintro e w8 ⟨rfl, b8⟩
    rw [(unhide N).2.2.2.1]
    have hsc := unhide HSC
    have HSC1 : Hid (sgnN (decide (a < 0) != decide (b < 0)) (nrI ((a.natAbs : Int) * (b.natAbs : Int)) 10000) = (scR (decide (a < 0) != decide (b < 0)) a.natAbs b.natAbs 10000).1 ∧ sgnE (nrI ((a.natAbs : Int) * (b.natAbs : Int)) 10000) = (scR (decide (a < 0) != decide (b < 0)) a.natAbs b.natAbs 10000).2) := hide ⟨by rw [← hsc]; rfl, by rw [← hsc]; rfl⟩
    clear hsc
    go_wp2
    go_ret2
    exact ⟨by rw [← (unhide HSC1).1, ← (unhide HSC1).2]; rfl, below_next b17 b8⟩
end Go.Proofs.YtobkmjjdnfimoaaDoor
