/- The contracts of the reference's nearest, Mul, Div, Mod. -/
import Derived.BigQuiet
import Derived.BigRegion
import Derived.Deep.CutBlock
import Derived.Deep.CutRange
import Derived.Deep.DeepFit
import Derived.Deep.QuietTactic
import Derived.Laws.Bits64b
import Derived.Laws.IdiomStrings
import Derived.Laws.Rows
import Derived.Lib.BitFns
import Derived.Lib.IndexBytes
import Derived.Lib.ItoaMem
import Derived.Lib.ItoaNum
import Derived.Lib.Walk
import Derived.Shelf.Bits.Mul64
import Derived.Shelf.LaysM
import Derived.Shelf.Small.Bits
import Derived.Shelf.Small.Strs
import Derived.Shelf.Small.Wraps
import Derived.Shelf.Strconv.Itoa0
import Derived.Shelf.Strconv.Itoa1
import Derived.Shelf.Strconv.Itoa2
import Derived.Shelf.Strings.AsciiSet
import Derived.Shelf.Strings.Cut
import Derived.Shelf.Strings.Prefix
import Derived.Shelf.Strings.Search1
import Derived.Shelf.Strings.Search2
import Derived.Shelf.Strings.Shaped
import Derived.Shelf.Strings.Trim
import Derived.Test.YtbeijnflfmjgfaaGreatDoorProg
import Derived.Test.YtbeijnflfmjgfaaGreatDoorRows
import Derived.WalkKit
import Derived.WalkLawsBesides
import Derived.WalkSmall
import Derived.WalkSpells
import Derived.Test.YtbeijnflfmjgfaaGreatDoorZoAA
import Derived.Test.YtbeijnflfmjgfaaGreatDoorZoAB
import Derived.Test.YtbeijnflfmjgfaaGreatDoorZoAC
import Derived.Test.YtbeijnflfmjgfaaGreatDoorZoAD
import Derived.Test.YtbeijnflfmjgfaaGreatDoorZoAE
namespace Go.Proofs.YtbeijnflfmjgfaaGreatDoor
open Go.RowKit

def nrI (a b : Int) : Int := a / b + (if b ≤ 2 * (a % b) then 1 else 0)
theorem divmod_of {a q b r : Int} (h : a = q * b + r) (h0 : 0 ≤ r) (h1 : r < b) : a / b = q ∧ a % b = r := by
  have hb : 0 < b := by omega
  constructor
  · rw [h, Int.add_comm, Int.add_mul_ediv_right _ _ (by omega), Int.ediv_eq_zero_of_lt h0 h1]; omega
  · rw [h, Int.add_comm, Int.add_mul_emod_self_right, Int.emod_eq_of_lt h0 h1]
theorem one_arr (w : World) (t : TypeId) (k : Int) : Arr (w.alloc (.cells #[.int .i64 k] t)) (.slice (some ⟨w.heap.size, 0, none⟩) 1 1) [k] := by
  refine Or.inr ⟨w.heap.size, 0, 1, rfl, by simp, by simp, fun i hi => ?_⟩
  have : i = 0 := by simpa using hi
  subst this
  simp
theorem dig_one : Dc.Dig [1] := by intro x hx; simp at hx; subst hx; omega

set_option maxRecDepth 100000 in
set_option maxHeartbeats 4000000 in
theorem nearest_ref (va vb : Value) (xs ys : List Int) (w : World) (hx : xs.length ≤ 200) (hy : ys.length ≤ 200) (hva : Arr w va xs) (hvb : Arr w vb ys) (dx : Dc.Dig xs) (dy : Dc.Dig ys) (cy : Dc.Cn ys) (hpos : 0 < Dc.val ys) :
    Calls Tryz.prog 85 #[va, vb] w fun e w' => NumPost (nrI (Dc.val xs) (Dc.val ys)) (max xs.length 1 + 1) w e w' := by
  have HVA := hide hva
  have HVB := hide hvb
  have HD := hide (And.intro dx (And.intro dy (And.intro cy hpos)))
  clear hva hvb dx dy cy hpos
  go_enter Tryz.func85, Tryz.ntmps85
  go_wp2_with fail
  refine (over_ref va vb xs ys _ hx hy (unhide HVA) (unhide HVB) (unhide HD).1 (unhide HD).2.1 (unhide HD).2.2.1 (unhide HD).2.2.2).mono ?_
  rintro e w1 ⟨b1, vq, vr, qs, rs, rfl, q1, r1, q2, q3, r2, r3, es, rl, ql, rlen, fq⟩
  have Q := hide (And.intro q1 (And.intro q2 (And.intro q3 (And.intro ql fq))))
  have R := hide (And.intro r1 (And.intro r2 (And.intro r3 (And.intro rl rlen))))
  obtain ⟨d1, d2⟩ := divmod_of es (Dc.val_nonneg rs r2) rl
  have ED := hide (And.intro d1 d2)
  clear q1 r1 q2 q3 r2 r3 es rl ql rlen d1 d2 fq
  go_wp2_with fail
  refine (plus_ref vr vr rs rs _ (by have := (unhide R).2.2.2.2; omega) (by have := (unhide R).2.2.2.2; omega) (unhide R).1 (unhide R).1 (unhide R).2.1 (unhide R).2.1).mono ?_
  rintro e w2 ⟨b2, vt, ts, rfl, t1, t2, t3, t4, t5⟩
  have T := hide (And.intro t1 (And.intro t2 (And.intro t3 (And.intro t4 t5))))
  have b12 := below_next b1 b2
  clear t1 t2 t3 t4 t5
  go_wp2_with fail
  refine (below_any vt vb ts ys _ (by have := (unhide T).2.2.2.2; have := (unhide R).2.2.2.2; omega) (by omega) (unhide T).1 ((unhide HVB).below (Nat.le_refl _) b12) (unhide T).2.1 (unhide HD).2.1 (unhide T).2.2.1 (unhide HD).2.2.1).mono ?_
  rintro e w3 ⟨rfl, b3⟩
  have b13 := below_next b12 b3
  rw [(unhide T).2.2.2.1]
  by_cases hl : Dc.val rs + Dc.val rs < Dc.val ys
  · rw [decide_eq_true hl]
    have HN : Hid (Dc.val qs = nrI (Dc.val xs) (Dc.val ys)) := hide (by unfold nrI; rw [(unhide ED).1, (unhide ED).2, if_neg (by omega)]; omega)
    have b23 := below_next b2 b3
    clear hl
    go_wp2
    go_ret
    exact ⟨b13, vq, qs, rfl, (unhide Q).1.below (Nat.le_refl _) b23, (unhide Q).2.1, (unhide Q).2.2.1, unhide HN, by have := (unhide Q).2.2.2; omega, (unhide Q).2.2.2.2⟩
  · rw [decide_eq_false hl]
    have HN : Hid (Dc.val qs + Dc.val [1] = nrI (Dc.val xs) (Dc.val ys)) := hide (by unfold nrI; rw [(unhide ED).1, (unhide ED).2, if_pos (by omega)]; simp [Dc.val])
    have b23 := below_next b2 b3
    have Q3 := hide ((unhide Q).1.below (Nat.le_refl _) b23)
    clear hl
    go_wp2_with fail
    refine (plus_ref vq _ qs [1] _ (by have := (unhide Q).2.2.2; omega) (by simp) ((unhide Q3).below (Nat.le_refl _) ((Below.refl _ _).alloc (Nat.le_refl _) _)) (one_arr _ _ _) (unhide Q).2.1 dig_one).mono ?_
    rintro e w4 ⟨b4, vs, ss, rfl, s1, s2, s3, s4, s5⟩
    have S := hide (And.intro s1 (And.intro s2 (And.intro s3 (And.intro s4 s5))))
    clear s1 s2 s3 s4 s5
    go_wp2
    go_ret
    obtain ⟨s1, s2, s3, s4, s5, s6⟩ := unhide S
    exact ⟨below_next (b13.alloc (by have := b13.size; omega) _) b4, vs, ss, rfl, s1, s2, s3, by rw [s4]; exact unhide HN, by have := (unhide Q).2.2.2; simp at s5; omega, fr_mono s6 (by have := b13.size; simp; omega)⟩

theorem sc_ref (neg : Bool) (x y z : Nat) (_hz : 0 < z) : (sgnN neg (nrI ((x : Int) * (y : Int)) (z : Int)), sgnE (nrI ((x : Int) * (y : Int)) (z : Int))) = scR neg x y z := by
  have e : nrI ((x : Int) * (y : Int)) (z : Int) = ((x * y / z + (if z ≤ 2 * (x * y % z) then 1 else 0) : Nat) : Int) := by
    unfold nrI
    rw [← Int.natCast_mul, ← Int.natCast_ediv, ← Int.natCast_emod]
    by_cases h : z ≤ 2 * (x * y % z)
    · rw [if_pos h, if_pos (by omega)]; simp
    · rw [if_neg h, if_neg (by omega)]; simp
  rw [e]
  unfold scR
  by_cases h : x * y / z ≤ 9000000000000000000
  · have hk : nrOk x y z = true := decide_eq_true h
    have hv : nrV x y z = x * y / z + (if z ≤ 2 * (x * y % z) then 1 else 0) := by unfold nrV; rw [if_pos hk]
    rw [if_pos hk, hv]
  · have hk : ¬ nrOk x y z = true := by unfold nrOk; rw [decide_eq_true_iff]; exact h
    rw [if_neg hk]
    have hgt : (9000000000000000000 : Int) < ((x * y / z + (if z ≤ 2 * (x * y % z) then 1 else 0) : Nat) : Int) := by
      rw [Int.natCast_add]
      have : (9000000000000000000 : Int) < ((x * y / z : Nat) : Int) := by
        have := Nat.lt_of_not_le h
        exact Int.ofNat_lt.2 this
      omega
    unfold sgnN sgnE
    rw [if_pos hgt, if_pos hgt]

theorem val_pos {ys : List Int} {b : Int} (h : Dc.val ys = (b.natAbs : Int)) (hb : b ≠ 0) : 0 < Dc.val ys := by rw [h]; omega

set_option maxRecDepth 100000 in
set_option maxHeartbeats 4000000 in
theorem mul_ref (a b : Int) (w : World) : Calls Tryz.prog 45 #[.int .i64 a, .int .i64 b] w fun e w' => PairPost (mulR a b) w e w' := by
  cases hg : (goodB a && goodB b)
  · have hs : mulR a b = (0, 5) := by unfold mulR; rw [hg]; rfl
    rw [hs]
    clear hs
    cases ha : goodB a
    · have HA := hide ha
      clear ha hg
      go_enter Tryz.func45, Tryz.ntmps45
      go_wp2_with fail
      refine (good_ref a _).mono ?_
      rintro e w1 ⟨rfl, rfl⟩
      rw [unhide HA]
      go_wp2_with fail
      refine (good_ref b _).mono ?_
      rintro e w2 ⟨rfl, rfl⟩
      go_wp2
      go_ret2
      exact ⟨rfl, Below.refl _ _⟩
    · have hb : goodB b = false := by rw [ha] at hg; exact hg
      have HA := hide ha
      have HB := hide hb
      clear ha hb hg
      go_enter Tryz.func45, Tryz.ntmps45
      go_wp2_with fail
      refine (good_ref a _).mono ?_
      rintro e w1 ⟨rfl, rfl⟩
      rw [unhide HA]
      go_wp2_with fail
      refine (good_ref b _).mono ?_
      rintro e w2 ⟨rfl, rfl⟩
      rw [unhide HB]
      go_wp2
      go_ret2
      exact ⟨rfl, Below.refl _ _⟩
  · have hs : mulR a b = scR (decide (a < 0) != decide (b < 0)) a.natAbs b.natAbs 10000 := by unfold mulR; rw [hg]; rfl
    rw [hs]
    have HSC := hide (sc_ref (decide (a < 0) != decide (b < 0)) a.natAbs b.natAbs 10000 (by omega))
    rw [Bool.and_eq_true] at hg
    have HA := hide hg.1
    have HB := hide hg.2
    rw [goodB_iff, goodB_iff] at hg
    obtain ⟨⟨a1, a2⟩, v1, v2⟩ := hg
    clear hs
    go_enter Tryz.func45, Tryz.ntmps45
    go_wp2_with fail
    refine (good_ref a _).mono ?_
    rintro e w1 ⟨rfl, rfl⟩
    rw [unhide HA]
    go_wp2_with fail
    refine (good_ref b _).mono ?_
    rintro e w2 ⟨rfl, rfl⟩
    rw [unhide HB]
    go_wp2_with fail
    refine (digits_ref a _ (by omega) (by omega)).mono ?_
    rintro e w3 ⟨b3, va, xs, rfl, x1, x2, x3, x4, x5⟩
    have X := hide (And.intro x1 (And.intro x2 (And.intro x3 (And.intro x4 x5))))
    clear x1 x2 x3 x4 x5
    go_wp2_with fail
    refine (digits_ref b _ (by omega) (by omega)).mono ?_
    rintro e w4 ⟨b4, vb, ys, rfl, y1, y2, y3, y4, y5⟩
    have Y := hide (And.intro y1 (And.intro y2 (And.intro y3 (And.intro y4 y5))))
    have b14 := below_next b3 b4
    clear y1 y2 y3 y4 y5
    go_wp2_with fail
    refine (times_ref va vb xs ys _ (by have := (unhide X).2.2.2.2; omega) (by have := (unhide Y).2.2.2.2; omega) ((unhide X).1.below (Nat.le_refl _) b4) (unhide Y).1 (unhide X).2.1 (unhide Y).2.1).mono ?_
    rintro e w5 ⟨b5, vm, ms, rfl, m1, m2, m3, m4, m5⟩
    have M : Hid (Arr w5 vm ms ∧ Dc.Dig ms ∧ Dc.Cn ms ∧ Dc.val ms = (a.natAbs : Int) * (b.natAbs : Int) ∧ ms.length ≤ 50) := hide ⟨m1, m2, m3, by rw [m4, (unhide X).2.2.2.1, (unhide Y).2.2.2.1], by have := (unhide X).2.2.2.2; have := (unhide Y).2.2.2.2; omega⟩
    have b15 := below_next b14 b5
    clear m1 m2 m3 m4 m5
    go_wp2_with fail
    refine (digits_ref 10000 _ (by omega) (by omega)).mono ?_
    rintro e w6 ⟨b6, vs, ss, rfl, s1, s2, s3, s4, s5⟩
    have S : Hid (Arr w6 vs ss ∧ Dc.Dig ss ∧ Dc.Cn ss ∧ Dc.val ss = 10000 ∧ ss.length ≤ 19) := hide ⟨s1, s2, s3, s4, s5.1⟩
    have b16 := below_next b15 b6
    clear s1 s2 s3 s4 s5
    go_wp2_with fail
    refine (nearest_ref vm vs ms ss _ (by have := (unhide M).2.2.2.2; omega) (by have := (unhide S).2.2.2.2; omega) ((unhide M).1.below (Nat.le_refl _) b6) (unhide S).1 (unhide M).2.1 (unhide S).2.1 (unhide S).2.2.1 (by rw [(unhide S).2.2.2.1]; omega)).mono ?_
    rintro e w7 ⟨b7, vn, ns, rfl, n1, n2, n3, n4, n5⟩
    have N : Hid (Arr w7 vn ns ∧ Dc.Dig ns ∧ Dc.Cn ns ∧ Dc.val ns = nrI ((a.natAbs : Int) * (b.natAbs : Int)) 10000 ∧ ns.length ≤ 900) := hide ⟨n1, n2, n3, by rw [n4, (unhide M).2.2.2.1, (unhide S).2.2.2.1], by have := (unhide M).2.2.2.2; omega⟩
    have b17 := below_next b16 b7
    clear n1 n2 n3 n4 n5
    go_wp2_with fail
    refine (number_ref vn ns _ _ (unhide N).2.2.2.2 (unhide N).1 (unhide N).2.1 (unhide N).2.2.1).mono ?_
    rintro e w8 ⟨rfl, b8⟩
    rw [(unhide N).2.2.2.1]
    have hsc := unhide HSC
    have HSC1 : Hid (sgnN (decide (a < 0) != decide (b < 0)) (nrI ((a.natAbs : Int) * (b.natAbs : Int)) 10000) = (scR (decide (a < 0) != decide (b < 0)) a.natAbs b.natAbs 10000).1 ∧ sgnE (nrI ((a.natAbs : Int) * (b.natAbs : Int)) 10000) = (scR (decide (a < 0) != decide (b < 0)) a.natAbs b.natAbs 10000).2) := hide ⟨by rw [← hsc]; rfl, by rw [← hsc]; rfl⟩
    clear hsc
    go_wp2
    go_ret2
    exact ⟨by rw [← (unhide HSC1).1, ← (unhide HSC1).2]; rfl, below_next b17 b8⟩
end Go.Proofs.YtbeijnflfmjgfaaGreatDoor

namespace Go.Proofs.YtbeijnflfmjgfaaGreatDoor
open Go.RowKit

set_option maxRecDepth 100000 in
set_option maxHeartbeats 4000000 in
theorem div_ref (a b : Int) (w : World) : Calls Tryz.prog 46 #[.int .i64 a, .int .i64 b] w fun e w' => PairPost (divR a b) w e w' := by
  cases hg : (goodB a && goodB b)
  · have hs : divR a b = (0, 5) := by unfold divR; rw [hg]; rfl
    rw [hs]
    clear hs
    cases ha : goodB a
    · have HA := hide ha
      clear ha hg
      go_enter Tryz.func46, Tryz.ntmps46
      go_wp2_with fail
      refine (good_ref a _).mono ?_
      rintro e w1 ⟨rfl, rfl⟩
      rw [unhide HA]
      go_wp2_with fail
      refine (good_ref b _).mono ?_
      rintro e w2 ⟨rfl, rfl⟩
      go_wp2
      go_ret2
      exact ⟨rfl, Below.refl _ _⟩
    · have hb : goodB b = false := by rw [ha] at hg; exact hg
      have HA := hide ha
      have HB := hide hb
      clear ha hb hg
      go_enter Tryz.func46, Tryz.ntmps46
      go_wp2_with fail
      refine (good_ref a _).mono ?_
      rintro e w1 ⟨rfl, rfl⟩
      rw [unhide HA]
      go_wp2_with fail
      refine (good_ref b _).mono ?_
      rintro e w2 ⟨rfl, rfl⟩
      rw [unhide HB]
      go_wp2
      go_ret2
      exact ⟨rfl, Below.refl _ _⟩
  · have hs : divR a b = (if b = 0 then (0, 6) else scR (decide (a < 0) != decide (b < 0)) a.natAbs 10000 b.natAbs) := by unfold divR; rw [hg]; rfl
    rw [hs]
    have HSC := hide (fun h0 : b ≠ 0 => sc_ref (decide (a < 0) != decide (b < 0)) a.natAbs 10000 b.natAbs (by omega))
    rw [Bool.and_eq_true] at hg
    have HA := hide hg.1
    have HB := hide hg.2
    rw [goodB_iff, goodB_iff] at hg
    obtain ⟨⟨a1, a2⟩, v1, v2⟩ := hg
    clear hs
    by_cases hb0 : b = 0
    · rw [if_pos hb0]
      have hbb : (b == 0) = true := by rw [beq_iff_eq]; exact hb0
      clear HSC hb0
      go_enter Tryz.func46, Tryz.ntmps46
      go_wp2_with fail
      refine (good_ref a _).mono ?_
      rintro e w1 ⟨rfl, rfl⟩
      rw [unhide HA]
      go_wp2_with fail
      refine (good_ref b _).mono ?_
      rintro e w2 ⟨rfl, rfl⟩
      rw [unhide HB]
      go_wp2
      go_ret2
      exact ⟨rfl, Below.refl _ _⟩
    · rw [if_neg hb0]
      have HSC := hide (unhide HSC hb0)
      have hbb : (b == 0) = false := by rw [beq_eq_false_iff_ne]; exact hb0
      have HB0 := hide hb0
      clear hb0
      go_enter Tryz.func46, Tryz.ntmps46
      go_wp2_with fail
      refine (good_ref a _).mono ?_
      rintro e w1 ⟨rfl, rfl⟩
      rw [unhide HA]
      go_wp2_with fail
      refine (good_ref b _).mono ?_
      rintro e w2 ⟨rfl, rfl⟩
      rw [unhide HB]
      go_wp2_with fail
      refine (digits_ref a _ (by omega) (by omega)).mono ?_
      rintro e w3 ⟨b3, va, xs, rfl, x1, x2, x3, x4, x5⟩
      have X := hide (And.intro x1 (And.intro x2 (And.intro x3 (And.intro x4 x5))))
      clear x1 x2 x3 x4 x5
      go_wp2_with fail
      refine (digits_ref b _ (by omega) (by omega)).mono ?_
      rintro e w4 ⟨b4, vb, ys, rfl, y1, y2, y3, y4, y5⟩
      have Y := hide (And.intro y1 (And.intro y2 (And.intro y3 (And.intro y4 y5))))
      have b14 := below_next b3 b4
      clear y1 y2 y3 y4 y5
      go_wp2_with fail
      refine (digits_ref 10000 _ (by omega) (by omega)).mono ?_
      rintro e w5 ⟨b5, vs, ss, rfl, s1, s2, s3, s4, s5⟩
      have S : Hid (Arr w5 vs ss ∧ Dc.Dig ss ∧ Dc.Cn ss ∧ Dc.val ss = 10000 ∧ ss.length ≤ 19) := hide ⟨s1, s2, s3, s4, s5.1⟩
      have b15 := below_next b14 b5
      have b45 := below_next b4 b5
      clear s1 s2 s3 s4 s5
      go_wp2_with fail
      refine (times_ref va vs xs ss _ (by have := (unhide X).2.2.2.2; omega) (by have := (unhide S).2.2.2.2; omega) ((unhide X).1.below (Nat.le_refl _) b45) (unhide S).1 (unhide X).2.1 (unhide S).2.1).mono ?_
      rintro e w6 ⟨b6, vm, ms, rfl, m1, m2, m3, m4, m5⟩
      have M : Hid (Arr w6 vm ms ∧ Dc.Dig ms ∧ Dc.Cn ms ∧ Dc.val ms = (a.natAbs : Int) * ((10000 : Nat) : Int) ∧ ms.length ≤ 50) := hide ⟨m1, m2, m3, by rw [m4, (unhide X).2.2.2.1, (unhide S).2.2.2.1]; rfl, by have := (unhide X).2.2.2.2; have := (unhide S).2.2.2.2; omega⟩
      have b16 := below_next b15 b6
      have b56 := below_next b5 b6
      clear m1 m2 m3 m4 m5
      go_wp2_with fail
      refine (nearest_ref vm vb ms ys _ (by have := (unhide M).2.2.2.2; omega) (by have := (unhide Y).2.2.2.2; omega) (unhide M).1 ((unhide Y).1.below (Nat.le_refl _) b56) (unhide M).2.1 (unhide Y).2.1 (unhide Y).2.2.1 (val_pos (unhide Y).2.2.2.1 (unhide HB0))).mono ?_
      rintro e w7 ⟨b7, vn, ns, rfl, n1, n2, n3, n4, n5⟩
      have N : Hid (Arr w7 vn ns ∧ Dc.Dig ns ∧ Dc.Cn ns ∧ Dc.val ns = nrI ((a.natAbs : Int) * ((10000 : Nat) : Int)) (b.natAbs : Int) ∧ ns.length ≤ 900) := hide ⟨n1, n2, n3, by rw [n4, (unhide M).2.2.2.1, (unhide Y).2.2.2.1], by have := (unhide M).2.2.2.2; omega⟩
      have b17 := below_next b16 b7
      clear n1 n2 n3 n4 n5
      go_wp2_with fail
      refine (number_ref vn ns _ _ (unhide N).2.2.2.2 (unhide N).1 (unhide N).2.1 (unhide N).2.2.1).mono ?_
      rintro e w8 ⟨rfl, b8⟩
      rw [(unhide N).2.2.2.1]
      have hsc := unhide HSC
      have HSC1 : Hid (sgnN (decide (a < 0) != decide (b < 0)) (nrI ((a.natAbs : Int) * ((10000 : Nat) : Int)) (b.natAbs : Int)) = (scR (decide (a < 0) != decide (b < 0)) a.natAbs 10000 b.natAbs).1 ∧ sgnE (nrI ((a.natAbs : Int) * ((10000 : Nat) : Int)) (b.natAbs : Int)) = (scR (decide (a < 0) != decide (b < 0)) a.natAbs 10000 b.natAbs).2) := hide ⟨by rw [← hsc], by rw [← hsc]⟩
      have b18 := below_next b17 b8
      clear hsc HSC
      go_wp2
      go_ret2
      exact ⟨by rw [← (unhide HSC1).1, ← (unhide HSC1).2]; rfl, b18⟩

theorem modV_cases' (a b : Int) (hb : b ≠ 0) :
    (a.tmod b = 0 ∧ modV a b = 0) ∨ (a.tmod b < 0 ∧ b < 0 ∧ b < a.tmod b ∧ modV a b = a.tmod b) ∨ (0 < a.tmod b ∧ 0 < b ∧ a.tmod b < b ∧ modV a b = a.tmod b) ∨
      (a.tmod b < 0 ∧ 0 < b ∧ 0 < a.tmod b + b ∧ a.tmod b + b < b ∧ modV a b = a.tmod b + b) ∨ (0 < a.tmod b ∧ b < 0 ∧ a.tmod b + b < 0 ∧ b < a.tmod b + b ∧ modV a b = a.tmod b + b) := by
  have h1 : (a.tmod b).natAbs = a.natAbs % b.natAbs := Int.natAbs_tmod a b
  have h2 : a.natAbs % b.natAbs < b.natAbs := Nat.mod_lt _ (by omega)
  rw [← h1] at h2
  clear h1
  unfold modV
  generalize a.tmod b = t at *
  rcases Int.lt_trichotomy t 0 with ht | ht | ht
  · by_cases hn : b < 0
    · refine Or.inr (Or.inl ⟨ht, hn, by omega, ?_⟩)
      rw [if_neg]; intro h; have := h.2; simp [ht, hn] at this
    · refine Or.inr (Or.inr (Or.inr (Or.inl ⟨ht, by omega, by omega, by omega, ?_⟩)))
      rw [if_pos]; exact ⟨by omega, by simp [ht]; omega⟩
  · subst ht
    exact Or.inl ⟨rfl, by rw [if_neg]; intro h; exact h.1 rfl⟩
  · by_cases hn : b < 0
    · refine Or.inr (Or.inr (Or.inr (Or.inr ⟨ht, hn, by omega, by omega, ?_⟩)))
      rw [if_pos]; exact ⟨by omega, by simp [hn]; omega⟩
    · refine Or.inr (Or.inr (Or.inl ⟨ht, by omega, by omega, ?_⟩))
      rw [if_neg]; intro h; have h2 := h.2
      rw [decide_eq_false (by omega), decide_eq_false hn] at h2; cases h2

theorem mod_sizes (a b R : Int) (hb : b ≠ 0) (hR : (a.natAbs : Int) % (b.natAbs : Int) = R) :
    (R ≠ 0 → (decide (a < 0) != decide (b < 0)) = true → modV a b = (if b < 0 then -((b.natAbs : Int) - R) else (b.natAbs : Int) - R)) ∧
    ((R = 0 ∨ (decide (a < 0) != decide (b < 0)) = false) → modV a b = (if b < 0 then -R else R)) := by
  have h1 : (a.tmod b).natAbs = a.natAbs % b.natAbs := Int.natAbs_tmod a b
  have h2 : ((a.natAbs % b.natAbs : Nat) : Int) = R := by rw [← hR]; exact Int.natCast_emod _ _
  have h3 : 0 ≤ a → 0 ≤ a.tmod b := fun h => Int.tmod_nonneg b h
  have h4 : a < 0 → a.tmod b ≤ 0 := fun h => by
    have := Int.tmod_nonneg b (show 0 ≤ -a by omega)
    rw [Int.neg_tmod] at this
    omega
  have hm := modV_cases' a b hb
  constructor
  · intro hr hs
    by_cases ha : a < 0
    · have hb2 : ¬ b < 0 := by intro h; rw [decide_eq_true ha, decide_eq_true h] at hs; cases hs
      rw [if_neg hb2]
      have := h4 ha
      rcases hm with h | h | h | h | h <;> omega
    · have hb2 : b < 0 := by
        rcases Int.lt_or_le b 0 with h | h
        · exact h
        · rw [decide_eq_false ha, decide_eq_false (by omega)] at hs; cases hs
      rw [if_pos hb2]
      have := h3 (by omega)
      rcases hm with h | h | h | h | h <;> omega
  · intro hs
    by_cases hr : R = 0
    · have ht : a.tmod b = 0 := by omega
      rcases hm with h | h | h | h | h
      · rw [h.2]; split <;> omega
      · omega
      · omega
      · omega
      · omega
    · have hs : (decide (a < 0) != decide (b < 0)) = false := by
        rcases hs with h | h
        · exact absurd h hr
        · exact h
      by_cases ha : a < 0
      · have hb2 : b < 0 := by
          rcases Int.lt_or_le b 0 with h | h
          · exact h
          · rw [decide_eq_true ha, decide_eq_false (by omega)] at hs; cases hs
        rw [if_pos hb2]
        have := h4 ha
        rcases hm with h | h | h | h | h <;> omega
      · have hb2 : ¬ b < 0 := by intro h; rw [decide_eq_false ha, decide_eq_true h] at hs; cases hs
        rw [if_neg hb2]
        have := h3 (by omega)
        rcases hm with h | h | h | h | h <;> omega

set_option maxRecDepth 100000 in
set_option maxHeartbeats 8000000 in
theorem mod_ref (a b : Int) (w : World) : Calls Tryz.prog 109 #[.int .i64 a, .int .i64 b] w fun e w' => PairPost (modR a b) w e w' := by
  cases hg : (goodB a && goodB b)
  · have hs : modR a b = (0, 5) := by unfold modR; rw [hg]; rfl
    rw [hs]
    clear hs
    cases ha : goodB a
    · have HA := hide ha
      clear ha hg
      go_enter Tryz.func109, Tryz.ntmps109
      go_wp2_with fail
      refine (good_ref a _).mono ?_
      rintro e w1 ⟨rfl, rfl⟩
      rw [unhide HA]
      go_wp2_with fail
      refine (good_ref b _).mono ?_
      rintro e w2 ⟨rfl, rfl⟩
      go_wp2
      go_ret2
      exact ⟨rfl, Below.refl _ _⟩
    · have hb : goodB b = false := by rw [ha] at hg; exact hg
      have HA := hide ha
      have HB := hide hb
      clear ha hb hg
      go_enter Tryz.func109, Tryz.ntmps109
      go_wp2_with fail
      refine (good_ref a _).mono ?_
      rintro e w1 ⟨rfl, rfl⟩
      rw [unhide HA]
      go_wp2_with fail
      refine (good_ref b _).mono ?_
      rintro e w2 ⟨rfl, rfl⟩
      rw [unhide HB]
      go_wp2
      go_ret2
      exact ⟨rfl, Below.refl _ _⟩
  · have hs : modR a b = (if b = 0 then (0, 6) else (modV a b, 0)) := by unfold modR; rw [hg]; rfl
    rw [hs]
    rw [Bool.and_eq_true] at hg
    have HA := hide hg.1
    have HB := hide hg.2
    rw [goodB_iff, goodB_iff] at hg
    obtain ⟨⟨a1, a2⟩, v1, v2⟩ := hg
    clear hs
    by_cases hb0 : b = 0
    · rw [if_pos hb0]
      have hbb : (b == 0) = true := by rw [beq_iff_eq]; exact hb0
      clear hb0
      go_enter Tryz.func109, Tryz.ntmps109
      go_wp2_with fail
      refine (good_ref a _).mono ?_
      rintro e w1 ⟨rfl, rfl⟩
      rw [unhide HA]
      go_wp2_with fail
      refine (good_ref b _).mono ?_
      rintro e w2 ⟨rfl, rfl⟩
      rw [unhide HB]
      go_wp2
      go_ret2
      exact ⟨rfl, Below.refl _ _⟩
    · rw [if_neg hb0]
      have hbb : (b == 0) = false := by rw [beq_eq_false_iff_ne]; exact hb0
      obtain ⟨R, hR⟩ : ∃ R : Int, (a.natAbs : Int) % (b.natAbs : Int) = R := ⟨_, rfl⟩
      obtain ⟨ms1, ms2⟩ := mod_sizes a b R hb0 hR
      have hR0 : 0 ≤ R := by rw [← hR]; exact Int.emod_nonneg _ (by omega)
      have hR1 : R < (b.natAbs : Int) := by rw [← hR]; exact Int.emod_lt_of_pos _ (by omega)
      have HS1 := hide ms1
      have HS2 := hide ms2
      have HR := hide hR
      have HB0 := hide hb0
      clear hb0 ms1 ms2 hR
      go_enter Tryz.func109, Tryz.ntmps109
      go_wp2_with fail
      refine (good_ref a _).mono ?_
      rintro e w1 ⟨rfl, rfl⟩
      rw [unhide HA]
      go_wp2_with fail
      refine (good_ref b _).mono ?_
      rintro e w2 ⟨rfl, rfl⟩
      rw [unhide HB]
      go_wp2_with fail
      refine (digits_ref a _ (by omega) (by omega)).mono ?_
      rintro e w3 ⟨b3, va, xs, rfl, x1, x2, x3, x4, x5⟩
      have X := hide (And.intro x1 (And.intro x2 (And.intro x3 (And.intro x4 x5))))
      clear x1 x2 x3 x4 x5
      go_wp2_with fail
      refine (digits_ref b _ (by omega) (by omega)).mono ?_
      rintro e w4 ⟨b4, vb, ys, rfl, y1, y2, y3, y4, y5⟩
      have Y := hide (And.intro y1 (And.intro y2 (And.intro y3 (And.intro y4 y5))))
      have b14 := below_next b3 b4
      clear y1 y2 y3 y4 y5
      go_wp2_with fail
      refine (over_ref va vb xs ys _ (by have := (unhide X).2.2.2.2; omega) (by have := (unhide Y).2.2.2.2; omega) ((unhide X).1.below (Nat.le_refl _) b4) (unhide Y).1 (unhide X).2.1 (unhide Y).2.1 (unhide Y).2.2.1 (val_pos (unhide Y).2.2.2.1 (unhide HB0))).mono ?_
      rintro e w5 ⟨b5, vq, vr, qs, rs, rfl, q1, r1, q2, q3, r2, r3, es, rl, ql, rlen, fq⟩
      obtain ⟨_, dm⟩ := divmod_of es (Dc.val_nonneg rs r2) rl
      have RR : Hid (Arr w5 vr rs ∧ Dc.Dig rs ∧ Dc.Cn rs ∧ Dc.val rs = R ∧ rs.length ≤ 900) := hide ⟨r1, r2, r3, by rw [← dm, (unhide X).2.2.2.1, (unhide Y).2.2.2.1, unhide HR], by have := (unhide Y).2.2.2.2; omega⟩
      have b15 := below_next b14 b5
      clear q1 r1 q2 q3 r2 r3 es rl ql rlen fq dm
      go_wp2_with fail
      refine (number_ref vr rs _ _ (unhide RR).2.2.2.2 (unhide RR).1 (unhide RR).2.1 (unhide RR).2.2.1).mono ?_
      rintro e w6 ⟨rfl, b6⟩
      rw [(unhide RR).2.2.2.1]
      have e1 : sgnN false R = R ∧ sgnE R = 0 := by
        unfold sgnN sgnE
        have h' : ¬ (9000000000000000000 : Int) < R := by omega
        rw [if_neg h', if_neg h']; exact ⟨rfl, rfl⟩
      rw [e1.1, e1.2]
      have b16 := below_next b15 b6
      clear e1
      by_cases hr0 : R = 0
      · have HM := hide (unhide HS2 (Or.inl hr0))
        have hrb : (R == 0) = true := by rw [beq_iff_eq]; exact hr0
        have HR0 := hide hr0
        clear hr0
        by_cases hbn : b < 0
        · have HM' : Hid (modV a b = 0) := hide (by rw [unhide HM, if_pos hbn, unhide HR0]; rfl)
          go_wp2
          go_ret2
          exact ⟨by rw [unhide HM']; rfl, b16⟩
        · have HM' : Hid (modV a b = 0) := hide (by rw [unhide HM, if_neg hbn, unhide HR0])
          go_wp2
          go_ret2
          exact ⟨by rw [unhide HM']; rfl, b16⟩
      · have hrb : (R == 0) = false := by rw [beq_eq_false_iff_ne]; exact hr0
        have hrn : (R != 0) = true := by rw [bne_iff_ne]; exact hr0
        have HR0 := hide hr0
        clear hr0
        by_cases hbn : b < 0 <;> by_cases han : a < 0
        · have d1 : decide (a < 0) = true := decide_eq_true han
          have d2 : decide (b < 0) = true := decide_eq_true hbn
          have HM' : Hid (modV a b = -R) := hide (by rw [unhide HS2 (Or.inr (by rw [d1, d2]; rfl)), if_pos hbn])
          go_wp2
          go_ret2
          exact ⟨by rw [unhide HM']; rfl, b16⟩
        · have d1 : decide (a < 0) = false := decide_eq_false han
          have d2 : decide (b < 0) = true := decide_eq_true hbn
          have HM' : Hid (modV a b = -((b.natAbs : Int) - R)) := hide (by rw [unhide HS1 (unhide HR0) (by rw [d1, d2]; rfl), if_pos hbn])
          go_wp2_with fail
          refine (number_ref vb ys _ _ (by have := (unhide Y).2.2.2.2; omega) ((unhide Y).1.below (Nat.le_refl _) (below_next b5 b6)) (unhide Y).2.1 (unhide Y).2.2.1).mono ?_
          rintro e w7 ⟨rfl, b7⟩
          rw [(unhide Y).2.2.2.1]
          have e2 : sgnN false (b.natAbs : Int) = (b.natAbs : Int) ∧ sgnE (b.natAbs : Int) = 0 := by
            unfold sgnN sgnE
            have h' : ¬ (9000000000000000000 : Int) < (b.natAbs : Int) := by omega
            rw [if_neg h', if_neg h']; exact ⟨rfl, rfl⟩
          rw [e2.1, e2.2]
          have hB : (b.natAbs : Int) ≤ 9000000000000000000 := by omega
          clear e2
          generalize (b.natAbs : Int) = bb at *
          go_wp2
          go_ret2
          exact ⟨by rw [unhide HM']; rfl, below_next b16 b7⟩
        · have d1 : decide (a < 0) = true := decide_eq_true han
          have d2 : decide (b < 0) = false := decide_eq_false hbn
          have HM' : Hid (modV a b = (b.natAbs : Int) - R) := hide (by rw [unhide HS1 (unhide HR0) (by rw [d1, d2]; rfl), if_neg hbn])
          go_wp2_with fail
          refine (number_ref vb ys _ _ (by have := (unhide Y).2.2.2.2; omega) ((unhide Y).1.below (Nat.le_refl _) (below_next b5 b6)) (unhide Y).2.1 (unhide Y).2.2.1).mono ?_
          rintro e w7 ⟨rfl, b7⟩
          rw [(unhide Y).2.2.2.1]
          have e2 : sgnN false (b.natAbs : Int) = (b.natAbs : Int) ∧ sgnE (b.natAbs : Int) = 0 := by
            unfold sgnN sgnE
            have h' : ¬ (9000000000000000000 : Int) < (b.natAbs : Int) := by omega
            rw [if_neg h', if_neg h']; exact ⟨rfl, rfl⟩
          rw [e2.1, e2.2]
          have hB : (b.natAbs : Int) ≤ 9000000000000000000 := by omega
          clear e2
          generalize (b.natAbs : Int) = bb at *
          go_wp2
          go_ret2
          exact ⟨by rw [unhide HM']; rfl, below_next b16 b7⟩
        · have d1 : decide (a < 0) = false := decide_eq_false han
          have d2 : decide (b < 0) = false := decide_eq_false hbn
          have HM' : Hid (modV a b = R) := hide (by rw [unhide HS2 (Or.inr (by rw [d1, d2]; rfl)), if_neg hbn])
          go_wp2
          go_ret2
          exact ⟨by rw [unhide HM']; rfl, b16⟩
end Go.Proofs.YtbeijnflfmjgfaaGreatDoor

namespace Go.Proofs.YtbeijnflfmjgfaaGreatDoor
open Go.RowKit

theorem two_arr (w : World) (t : TypeId) (k l : Int) : Arr (w.alloc (.cells #[.int .i64 k, .int .i64 l] t)) (.slice (some ⟨w.heap.size, 0, none⟩) 2 2) [k, l] := by
  refine Or.inr ⟨w.heap.size, 0, 2, rfl, by simp, by simp, fun i hi => ?_⟩
  have : i = 0 ∨ i = 1 := by simp at hi; omega
  rcases this with rfl | rfl <;> simp
theorem dig_ten : Dc.Dig [0, 1] := by intro x hx; simp at hx; rcases hx with rfl | rfl <;> omega
theorem val_ten : Dc.val [0, 1] = 10 := by simp [Dc.val]
theorem cn_one : Dc.Cn [1] := by
  intro x l' e
  have h := congrArg List.reverse e
  rw [List.reverse_append] at h
  simp at h
  omega

def PowAt (w : World) (v : Value) (m : Nat) : Prop := ∃ ss, Arr w v ss ∧ Dc.Dig ss ∧ Dc.Cn ss ∧ Dc.val ss = 10 ^ m ∧ ss.length ≤ 1 + 3 * m
theorem PowAt.below {w w' : World} {v : Value} {m : Nat} (h : PowAt w v m) (hb : Below w.heap.size w w') : PowAt w' v m := by
  obtain ⟨ss, h1, h2⟩ := h
  exact ⟨ss, h1.below (Nat.le_refl _) hb, h2⟩
theorem pow_one (w : World) (t : TypeId) : PowAt (w.alloc (.cells #[.int .i64 1] t)) (.slice (some ⟨w.heap.size, 0, none⟩) 1 1) 0 :=
  ⟨[1], one_arr w t 1, dig_one, cn_one, by simp [Dc.val], by simp⟩
theorem times_ten (v : Value) (m : Nat) (w : World) (t : TypeId) (hm : m ≤ 40) (h : PowAt w v m) :
    Calls Tryz.prog 84 #[v, .slice (some ⟨w.heap.size, 0, none⟩) 2 2] (w.alloc (.cells #[.int .i64 0, .int .i64 1] t)) fun e w' => Below w.heap.size w w' ∧ ∃ v', e = .returned v' ∧ PowAt w' v' (m + 1) := by
  obtain ⟨ss, h1, h2, h3, h4, h5⟩ := h
  have ba : Below w.heap.size w (w.alloc (.cells #[.int .i64 0, .int .i64 1] t)) := (Below.refl _ _).alloc (Nat.le_refl _) _
  refine (times_ref v _ ss [0, 1] _ (by omega) (by simp) (h1.below (Nat.le_refl _) ba) (two_arr w t 0 1) h2 dig_ten).mono ?_
  rintro e w1 ⟨b1, v', zs, rfl, z1, z2, z3, z4, z5, _⟩
  refine ⟨below_next ba b1, v', rfl, zs, z1, z2, z3, by rw [z4, h4, val_ten, Int.pow_succ], ?_⟩
  simp at z5
  omega

theorem nrI_one (x z : Nat) (hz : 0 < z) (hx : x ≤ 9000000000000000000) : nrI (x : Int) (z : Int) = ((nrV x 1 z : Nat) : Int) := by
  have hk := (nr_one x z hz hx).1
  unfold nrI nrV
  rw [if_pos hk, Nat.mul_one, ← Int.natCast_ediv, ← Int.natCast_emod]
  by_cases h : z ≤ 2 * (x % z)
  · rw [if_pos h, if_pos (by omega)]; simp
  · rw [if_neg h, if_neg (by omega)]; simp

set_option maxRecDepth 100000 in
set_option maxHeartbeats 8000000 in
theorem round_ref (a n : Int) (w : World) : Calls Tryz.prog 108 #[.int .i64 a, .int .i64 n] w fun e w' => PairPost (roundR a n) w e w' := by
  cases hg : goodB a
  · have hs : roundR a n = (0, 5) := by unfold roundR; rw [hg]; rfl
    have HG := hide hg
    rw [hs]
    clear hg hs
    go_enter Tryz.func108, Tryz.ntmps108
    go_wp2_with fail
    refine (good_ref a _).mono ?_
    rintro e w1 ⟨rfl, rfl⟩
    rw [unhide HG]
    go_wp2
    go_ret2
    exact ⟨rfl, Below.refl _ _⟩
  · have HG := hide hg
    unfold roundR
    rw [if_pos hg]
    rw [goodB_iff] at hg
    obtain ⟨a1, a2⟩ := hg
    by_cases h1 : n < -15
    · rw [if_pos (Or.inl h1)]
      go_enter Tryz.func108, Tryz.ntmps108
      go_wp2_with fail
      refine (good_ref a _).mono ?_
      rintro e w1 ⟨rfl, rfl⟩
      rw [unhide HG]
      go_wp2
      go_ret2
      exact ⟨rfl, Below.refl _ _⟩
    by_cases h2 : 15 < n
    · rw [if_pos (Or.inr h2)]
      go_enter Tryz.func108, Tryz.ntmps108
      go_wp2_with fail
      refine (good_ref a _).mono ?_
      rintro e w1 ⟨rfl, rfl⟩
      rw [unhide HG]
      go_wp2
      go_ret2
      exact ⟨rfl, Below.refl _ _⟩
    rw [if_neg (by omega)]
    by_cases h3 : 4 ≤ n
    · rw [if_pos h3]
      go_enter Tryz.func108, Tryz.ntmps108
      go_wp2_with fail
      refine (good_ref a _).mono ?_
      rintro e w1 ⟨rfl, rfl⟩
      rw [unhide HG]
      go_wp2
      go_ret2
      exact ⟨rfl, Below.refl _ _⟩
    rw [if_neg h3]
    have hn1 : -15 ≤ n := by omega
    have hn3 : n ≤ 3 := by omega
    clear h1 h2 h3
    go_enter Tryz.func108, Tryz.ntmps108
    go_wp2_with fail
    refine (good_ref a _).mono ?_
    rintro e w1 ⟨rfl, rfl⟩
    rw [unhide HG]
    go_wp2
    go_loopw [7, 8] (fun v t wr => ∃ j : Nat, t = .int .i64 (n + (j : Int)) ∧ n + (j : Int) ≤ 4 ∧ Hid (PowAt wr v j) ∧ Hid (Below w1.heap.size w1 wr)) (fun _ t _ => (4 - intOf t).toNat)
    case atStart => exact ⟨0, by simp, by omega, hide (pow_one _ _), hide ((Below.refl _ _).alloc (Nat.le_refl _) _)⟩
    case round =>
      obtain ⟨j, rfl, hj, HP, HB⟩ := hrel
      obtain ⟨wo, rfl⟩ : ∃ wo, wo = wr := ⟨_, rfl⟩
      by_cases hlt : n + (j : Int) < 4
      · go_wp2_with fail
        refine (times_ten _ j wo _ (by omega) (unhide HP)).mono ?_
        rintro e w2 ⟨b2, v2, rfl, p2⟩
        have HP2 := hide p2
        have HB2 := hide (below_next (unhide HB) b2)
        clear p2 b2
        go_wp2
        go_roundw
        case rel => exact ⟨j + 1, int_eqv (by omega), by omega, HP2, HB2⟩
        case measure => simp [intOf]; omega
      · have hj4 : (4 - n).toNat = j := by omega
        obtain ⟨ss, p1, p2, p3, p4, p5⟩ := unhide HP
        have hz0 : 0 < 10 ^ j := Nat.pow_pos (by omega)
        have hval : Dc.val ss = ((10 ^ j : Nat) : Int) := by rw [p4]; simp
        have SS := hide (And.intro p1 (And.intro p2 (And.intro p3 (And.intro hval p5))))
        have HZ := hide hz0
        have HJ := hide hj4
        clear p1 p2 p3 p4 p5 hval hz0 hj4
        go_wp2_with fail
        refine (digits_ref a _ (by omega) (by omega)).mono ?_
        rintro e w3 ⟨b3, vd, ds, rfl, x1, x2, x3, x4, x5⟩
        have X := hide (And.intro x1 (And.intro x2 (And.intro x3 (And.intro x4 x5))))
        clear x1 x2 x3 x4 x5
        go_wp2_with fail
        refine (nearest_ref vd _ ds ss _ (by have := (unhide X).2.2.2.2; omega) (by have := (unhide SS).2.2.2.2; omega) (unhide X).1 ((unhide SS).1.below (Nat.le_refl _) b3) (unhide X).2.1 (unhide SS).2.1 (unhide SS).2.2.1 (by rw [(unhide SS).2.2.2.1]; have := unhide HZ; omega)).mono ?_
        rintro e w4 ⟨b4, vn, ns, rfl, n1, n2, n3, n4, n5⟩
        have N : Hid (Arr w4 vn ns ∧ Dc.Dig ns ∧ Dc.Cn ns ∧ Dc.val ns = ((nrV a.natAbs 1 (10 ^ j) : Nat) : Int) ∧ ns.length ≤ 40) := hide ⟨n1, n2, n3, by rw [n4, (unhide X).2.2.2.1, (unhide SS).2.2.2.1, nrI_one _ _ (unhide HZ) (by omega)], by have := (unhide X).2.2.2.2; omega⟩
        have b34 := below_next b3 b4
        clear n1 n2 n3 n4 n5
        go_wp2_with fail
        refine (times_ref vn _ ns ss _ (by have := (unhide N).2.2.2.2; omega) (by have := (unhide SS).2.2.2.2; omega) (unhide N).1 ((unhide SS).1.below (Nat.le_refl _) b34) (unhide N).2.1 (unhide SS).2.1).mono ?_
        rintro e w5 ⟨b5, vm, ms, rfl, m1, m2, m3, m4, m5⟩
        have M : Hid (Arr w5 vm ms ∧ Dc.Dig ms ∧ Dc.Cn ms ∧ Dc.val ms = ((rndS a n : Nat) : Int) ∧ ms.length ≤ 900) := hide ⟨m1, m2, m3, by rw [m4, (unhide N).2.2.2.1, (unhide SS).2.2.2.1, ← Int.natCast_mul]; unfold rndS; rw [unhide HJ], by have := (unhide N).2.2.2.2; have := (unhide SS).2.2.2.2; omega⟩
        have b35 := below_next b34 b5
        clear m1 m2 m3 m4 m5
        go_wp2_with fail
        refine (number_ref vm ms _ _ (unhide M).2.2.2.2 (unhide M).1 (unhide M).2.1 (unhide M).2.2.1).mono ?_
        rintro e w6 ⟨rfl, b6⟩
        rw [(unhide M).2.2.2.1]
        have b36 := below_next (unhide HB) (below_next b35 b6)
        go_wp2
        go_ret2
        exact ⟨rfl, b36⟩

set_option maxHeartbeats 2000000 in
theorem floor_ref (a : Int) (w : World) : Calls Tryz.prog 105 #[.int .i64 a] w fun e w' => e = .returned (.int .i64 (floorV a)) ∧ Below w.heap.size w w' := by
  cases hg : goodB a
  · have hs : floorV a = 0 := by unfold floorV; rw [hg]; rfl
    have HG := hide hg
    rw [hs]
    clear hg hs
    go_enter Tryz.func105, Tryz.ntmps105
    go_wp2_with fail
    refine (good_ref a _).mono ?_
    rintro e w1 ⟨rfl, rfl⟩
    rw [unhide HG]
    go_wp2
    go_ret
    exact ⟨rfl, Below.refl _ _⟩
  · have hs : floorV a = a - modV a 10000 := by unfold floorV; rw [hg]; rfl
    have hm : modR a 10000 = (modV a 10000, 0) := by
      unfold modR
      have : (goodB a && goodB 10000) = true := by rw [hg]; decide
      rw [this]; rfl
    have HM := hide hm
    have HG := hide hg
    rw [goodB_iff] at hg
    obtain ⟨a1, a2⟩ := hg
    obtain ⟨p1, p2, _⟩ := modV_pos a 10000 (by omega)
    rw [hs]
    clear hs hm
    go_enter Tryz.func105, Tryz.ntmps105
    go_wp2_with fail
    refine (good_ref a _).mono ?_
    rintro e w1 ⟨rfl, rfl⟩
    rw [unhide HG]
    go_wp2_with fail
    refine (mod_ref a 10000 _).mono ?_
    rintro e w2 ⟨rfl, hb⟩
    rw [unhide HM]
    go_wp2
    go_ret
    exact ⟨rfl, hb⟩
end Go.Proofs.YtbeijnflfmjgfaaGreatDoor

namespace Go.Proofs.YtbeijnflfmjgfaaGreatDoor
open Go.RowKit

end Go.Proofs.YtbeijnflfmjgfaaGreatDoor

namespace Go.Proofs.YtbeijnflfmjgfaaGreatDoor
open Go.RowKit

set_option maxHeartbeats 1000000 in
theorem all_ref (s : ByteArray) (w : World) (hs : s.size ≤ maxLen) :
    Calls Tryz.prog 128 #[.string s] w fun e w' => e = .returned (.bool (digB s.data.toList)) ∧ w' = w := by
  unfold maxLen at hs
  have hsz : s.data.toList.length = s.size := rfl
  by_cases h1 : s.size < 1
  · have ho : digB s.data.toList = false := by unfold digB; rw [hsz]; simp; omega
    rw [ho]
    have HS := hide hsz
    have HO := hide ho
    clear hsz ho
    have h1' : (s.size : Int) < 1 := by omega
    go_enter Tryz.func128, Tryz.ntmps128
    go_wp2
    go_ret
    exact ⟨rfl, rfl⟩
  by_cases h2 : 18 < s.size
  · have ho : digB s.data.toList = false := by unfold digB; rw [hsz]; simp; omega
    rw [ho]
    have HS := hide hsz
    have HO := hide ho
    clear hsz ho
    have h1' : ¬ (s.size : Int) < 1 := by omega
    have h2' : 18 < (s.size : Int) := by omega
    go_enter Tryz.func128, Tryz.ntmps128
    go_wp2
    go_ret
    exact ⟨rfl, rfl⟩
  have ho : digB s.data.toList = s.data.toList.all isDig := by
    unfold digB; rw [hsz, decide_eq_true (by omega), decide_eq_true (by omega)]; rfl
  have HS := hide hsz
  have HO := hide ho
  clear hsz ho
  go_enter Tryz.func128, Tryz.ntmps128
  go_wp2
  go_loop [3] (fun i => ∃ k : Nat, k ≤ s.size ∧ i = .int .i64 k ∧ Hid ((s.data.toList.take k).all isDig = true)) (fun i => s.size - (intOf i).toNat)
  case atStart => exact ⟨0, Nat.zero_le _, rfl, hide rfl⟩
  case round =>
    obtain ⟨k, hk, rfl, HT⟩ := hrel
    by_cases hlt : k < s.size
    · have hsn := take_snoc s k hlt
      by_cases hg : isDig s[k] = true
      · have hs' : Hid ((s.data.toList.take (k + 1)).all isDig = true) := hide (by rw [hsn, List.all_append, unhide HT, List.all_cons, hg]; rfl)
        clear hsn
        rw [isDig_iff] at hg
        obtain ⟨g1, g2⟩ := hg
        go_wp2
        go_round
        case rel => exact ⟨k + 1, by omega, by go_num, hs'⟩
        case measure => simp [intOf]; omega
      · have hs' : Hid (s.data.toList.all isDig = false) := by
          refine hide (List.all_eq_false.2 ⟨s[k], ?_, hg⟩)
          have : s[k] = s.data.toList[k]'(by simpa using hlt) := rfl
          rw [this]
          exact List.getElem_mem _
        clear hsn
        rw [isDig_iff] at hg
        by_cases g1 : s[k].toNat < 48
        · go_wp2
          go_ret
          exact ⟨by rw [unhide HO, unhide hs']; rfl, rfl⟩
        · have g2 : 57 < s[k].toNat := by omega
          go_wp2
          go_ret
          exact ⟨by rw [unhide HO, unhide hs']; rfl, rfl⟩
    · have hs' : Hid (s.data.toList.all isDig = true) := by
        have e : s.data.toList.take k = s.data.toList := List.take_of_length_le (by rw [unhide HS]; omega)
        rw [e] at HT
        exact HT
      go_wp2
      go_ret
      exact ⟨by rw [unhide HO, unhide hs']; rfl, rfl⟩


end Go.Proofs.YtbeijnflfmjgfaaGreatDoor

namespace Go.Proofs.YtbeijnflfmjgfaaGreatDoor

def dgt (c : UInt8) : Int := (c.toNat : Int) - 48
def revD (x : List UInt8) (k : Nat) : List Int := ((x.drop k).reverse).map dgt

theorem revD_len (x : List UInt8) (k : Nat) : (revD x k).length = x.length - k := by unfold revD; simp
theorem revD_full (x : List UInt8) : revD x x.length = [] := by unfold revD; simp
theorem revD_step (x : List UInt8) (k : Nat) (h0 : 0 < k) (hk : k ≤ x.length) : revD x (k - 1) = revD x k ++ [dgt (x[k - 1]'(by omega))] := by
  unfold revD
  rw [List.drop_eq_getElem_cons (show k - 1 < x.length by omega), show k - 1 + 1 = k by omega]
  simp
theorem isDig_at (x : List UInt8) (h : x.all isDig = true) (k : Nat) (hk : k < x.length) : 48 ≤ x[k].toNat ∧ x[k].toNat ≤ 57 :=
  (isDig_iff _).1 (List.all_eq_true.1 h _ (List.getElem_mem hk))
theorem revD_dig (x : List UInt8) (h : x.all isDig = true) (k : Nat) : Dc.Dig (revD x k) := by
  intro y hy
  unfold revD at hy
  obtain ⟨c, hc, rfl⟩ := List.mem_map.1 hy
  have := (isDig_iff c).1 (List.all_eq_true.1 h c (List.mem_of_mem_drop (List.mem_reverse.1 hc)))
  unfold dgt
  omega
theorem dig_append {a b : List Int} (ha : Dc.Dig a) (hb : Dc.Dig b) : Dc.Dig (a ++ b) := by
  intro x hx
  rcases List.mem_append.1 hx with h | h
  · exact ha x h
  · exact hb x h
theorem rev_val : ∀ (x : List UInt8), x.all isDig = true → Dc.val (x.reverse.map dgt) = (numL x : Int)
  | [], _ => rfl
  | c :: x, h => by
    rw [List.all_cons, Bool.and_eq_true, isDig_iff] at h
    rw [List.reverse_cons, List.map_append, Dc.val_append, rev_val x h.2, numL_cons]
    have e : Dc.val (List.map dgt [c]) = ((c.toNat - 48 : Nat) : Int) := by
      show dgt c + 10 * 0 = _
      unfold dgt
      have := h.1
      omega
    rw [e, List.length_map, List.length_reverse, Int.natCast_add, Int.natCast_mul, Int.natCast_pow, Int.mul_comm]
    have : ((10 : Nat) : Int) = 10 := rfl
    rw [this]
    omega
theorem revD_val (x : List UInt8) (h : x.all isDig = true) : Dc.val (revD x 0) = (numL x : Int) := by
  unfold revD
  rw [List.drop_zero]
  exact rev_val x h
theorem both_val (W P : List UInt8) (hW : W.all isDig = true) (hP : P.all isDig = true) : Dc.val (revD P 0 ++ revD W 0) = ((numL W * 10 ^ P.length + numL P : Nat) : Int) := by
  rw [Dc.val_append, revD_val P hP, revD_val W hW, revD_len, Nat.sub_zero, Int.natCast_add, Int.natCast_mul, Int.natCast_pow, Int.mul_comm]
  have : ((10 : Nat) : Int) = 10 := rfl
  rw [this]
  omega

structure CutAt (t W P : List UInt8) (dot : Bool) : Prop where
  noW : ∀ c, c ∈ W → c ≠ 46
  yes : dot = true → t = W ++ 46 :: P
  no : dot = false → t = W ∧ P = []
theorem t_split (t : List UInt8) : (∃ l r, t = l ++ 46 :: r ∧ ∀ c, c ∈ l → c ≠ 46) ∨ (∀ c, c ∈ t → c ≠ 46) := by
  induction t with
  | nil => exact Or.inr (fun c hc => by simp at hc)
  | cons b t ih =>
    by_cases hb : b = 46
    · exact Or.inl ⟨[], t, by rw [hb]; rfl, fun c hc => by simp at hc⟩
    · rcases ih with ⟨l, r, e, h⟩ | h
      · refine Or.inl ⟨b :: l, r, by rw [e]; rfl, fun c hc => ?_⟩
        rcases List.mem_cons.1 hc with h1 | h1
        · rw [h1]; exact hb
        · exact h c h1
      · refine Or.inr (fun c hc => ?_)
        rcases List.mem_cons.1 hc with h1 | h1
        · rw [h1]; exact hb
        · exact h c h1
theorem cut_facts (l : List UInt8) : CutAt (Lib.trimPrefix l [45]) (wholeOf l) (partOf l) (dotOf l) := by
  unfold wholeOf partOf dotOf
  rcases t_split (Lib.trimPrefix l [45]) with ⟨a, r, e, h⟩ | h
  · rw [e, cut_at a r h]
    exact ⟨h, fun _ => rfl, fun h => (by cases h)⟩
  · rw [cut_none _ h]
    exact ⟨h, fun h => (by cases h), fun _ => ⟨rfl, rfl⟩⟩
theorem neg_cons (c : UInt8) (l : List UInt8) : negOf (c :: l) = (c == 45) := by
  unfold negOf Lib.hasPrefix
  simp [List.isPrefixOf]
  by_cases h : c = 45
  · rw [h]
  · rw [beq_eq_false_iff_ne.2 h, beq_eq_false_iff_ne.2 (fun h2 => h h2.symm)]
theorem neg_yes (l : List UInt8) (h : negOf l = true) : Lib.trimPrefix l [45] = l.drop 1 := by
  unfold negOf at h
  unfold Lib.trimPrefix
  rw [h]; rfl
theorem neg_no (l : List UInt8) (h : negOf l = false) : Lib.trimPrefix l [45] = l := by
  unfold negOf at h
  unfold Lib.trimPrefix
  rw [h]; rfl

theorem parse_eq (l : List UInt8) (hf : formB l = true) (v : Int)
    (hv : v = nrI (((numL (wholeOf l) * 10 ^ (partOf l).length + numL (partOf l) : Nat) : Int) * 10000) ((10 ^ (partOf l).length : Nat) : Int)) : (sgnN (negOf l) v, sgnE v) = parseR l := by
  obtain ⟨p1, p2, p3, p4⟩ := part_facts l hf
  have hlt := numL_lt _ p2
  unfold parseR partsOf
  rw [hf, if_pos rfl]
  obtain ⟨W, hW⟩ : ∃ W, numL (wholeOf l) = W := ⟨_, rfl⟩
  obtain ⟨P, hP⟩ : ∃ P, numL (partOf l) = P := ⟨_, rfl⟩
  obtain ⟨z, hz⟩ : ∃ z, 10 ^ (partOf l).length = z := ⟨_, rfl⟩
  rw [hW, hP, hz] at hv ⊢
  rw [hP, hz] at hlt
  have hz0 : 0 < z := by omega
  have hk : nrOk P 10000 z = true := by
    unfold nrOk
    refine decide_eq_true ?_
    have : P * 10000 / z < 10001 := by
      rw [Nat.div_lt_iff_lt_mul hz0]
      have : P * 10000 ≤ z * 10000 := Nat.mul_le_mul_right _ (by omega)
      omega
    omega
  have e0 : (W * z + P) * 10000 = P * 10000 + z * (W * 10000) := by
    rw [Nat.add_mul, Nat.mul_comm W z, Nat.mul_assoc]; omega
  have e1 : v = ((W * 10000 + nrV P 10000 z : Nat) : Int) := by
    rw [hv]
    unfold nrI nrV
    rw [hk, if_pos rfl]
    have ec : ((W * z + P : Nat) : Int) * 10000 = (((W * z + P) * 10000 : Nat) : Int) := by simp
    rw [ec, ← Int.natCast_ediv, ← Int.natCast_emod, e0, Nat.add_mul_div_left _ _ hz0, Nat.add_mul_mod_self_left]
    by_cases h : z ≤ 2 * (P * 10000 % z)
    · rw [if_pos h, if_pos (by omega)]; omega
    · rw [if_neg h, if_neg (by omega)]; omega
  have hle := frac_le P z hlt
  cases hw : nrOk W 10000 1
  · have : 9000000000000000000 < W * 10000 := by
      unfold nrOk at hw
      rw [Nat.div_one] at hw
      have := of_decide_eq_false hw
      omega
    unfold sgnN sgnE
    rw [if_pos (by omega), if_pos (by omega), if_neg (by simp)]
  · rw [if_pos rfl]
    have : nrV W 10000 1 = W * 10000 := by
      unfold nrV
      rw [hw, if_pos rfl, Nat.div_one, Nat.mod_one, if_neg (by omega), Nat.add_zero]
    rw [this, e1]
end Go.Proofs.YtbeijnflfmjgfaaGreatDoor

namespace Go.Proofs.YtbeijnflfmjgfaaGreatDoor

def chr (d : Int) : UInt8 := UInt8.ofNat (48 + d.toNat)
def revT (zs : List Int) (k : Nat) : List UInt8 := ((zs.drop k).reverse).map chr
def sgnL (a : Int) : List UInt8 := if a < 0 then [45] else []

theorem dec_rev : ∀ (ys : List Int), Dc.Dig ys → ys ≠ [] → (ys.length = 1 ∨ Dc.Cn ys) → ys.reverse.map chr = Lib.decDigits (Dc.val ys).toNat
  | [], _, h, _ => absurd rfl h
  | [d], hd, _, _ => by
    have h9 := hd d (by simp)
    have e : Dc.val [d] = d := by simp [Dc.val]
    rw [e, Lib.decDigits, dif_pos (by omega)]; rfl
  | d :: e :: ys, hd, _, hc => by
    have hc' : Dc.Cn (d :: e :: ys) := by
      rcases hc with h | h
      · simp at h
      · exact h
    have hc2 : Dc.Cn (e :: ys) := fun x l' h => hc' x (d :: l') (by rw [h]; rfl)
    have ih := dec_rev (e :: ys) hd.cons.2 (by simp) (Or.inr hc2)
    have hge := Dc.val_ge (e :: ys) hd.cons.2 hc2 (by simp)
    have hpp := Dc.pow_pos ((e :: ys).length - 1)
    have hv : Dc.val (d :: e :: ys) = d + 10 * Dc.val (e :: ys) := rfl
    have h9 := hd.cons.1
    rw [hv, List.reverse_cons, List.map_append, ih]
    generalize Dc.val (e :: ys) = V at *
    rw [Lib.decDigits.eq_def (d + 10 * V).toNat, dif_neg (by omega), show (d + 10 * V).toNat / 10 = V.toNat by omega, show (d + 10 * V).toNat % 10 = d.toNat by omega]
    rfl

theorem take4 (zs : List Int) : Dc.val (zs.take 4) = zs.getD 0 0 + 10 * zs.getD 1 0 + 100 * zs.getD 2 0 + 1000 * zs.getD 3 0 := by
  rw [Dc.val_take_succ, Dc.val_take_succ, Dc.val_take_succ, Dc.val_take_succ, List.take_zero]
  have e3 : (10 : Int) ^ 3 = 1000 := by decide
  have e2 : (10 : Int) ^ 2 = 100 := by decide
  have e1 : (10 : Int) ^ 1 = 10 := by decide
  have e0 : (10 : Int) ^ 0 = 1 := by decide
  rw [e3, e2, e1, e0]
  show 0 + _ + _ + _ + _ = _
  omega

structure TextIn (zs : List Int) (p : Nat) : Prop where
  dig : Dc.Dig zs
  val : Dc.val zs = (p : Int)
  len : 5 ≤ zs.length
  top : zs.length = 5 ∨ Dc.Cn zs
  hi : zs.length ≤ 19

theorem TextIn.low {zs : List Int} {p : Nat} (h : TextIn zs p) : Dc.val (zs.take 4) = ((p % 10000 : Nat) : Int) ∧ Dc.val (zs.drop 4) = ((p / 10000 : Nat) : Int) := by
  have e := Dc.val_append (zs.take 4) (zs.drop 4)
  have hl := h.len
  rw [List.take_append_drop, List.length_take, Nat.min_eq_left (by omega), h.val] at e
  have b1 := Dc.val_nonneg (zs.take 4) (h.dig.take 4)
  have b2 := Dc.val_lt (zs.take 4) (h.dig.take 4)
  rw [List.length_take, Nat.min_eq_left (by omega)] at b2
  have e4 : (10 : Int) ^ 4 = 10000 := by decide
  rw [e4] at e b2
  omega
theorem TextIn.whole {zs : List Int} {p : Nat} (h : TextIn zs p) : revT zs 4 = Lib.decDigits (p / 10000) := by
  have hl := h.len
  have := dec_rev (zs.drop 4) (fun x hx => h.dig x (List.mem_of_mem_drop hx)) (by intro e; have := congrArg List.length e; simp at this; omega) (by
    rcases h.top with h5 | hc
    · exact Or.inl (by rw [List.length_drop]; omega)
    · refine Or.inr (fun x l' e => hc x (zs.take 4 ++ l') ?_)
      rw [List.append_assoc, ← e, List.take_append_drop])
  rw [h.low.2] at this
  exact this
theorem TextIn.zero {zs : List Int} {p : Nat} (h : TextIn zs p) (hz : ∀ i, i < 4 → zs.getD i 0 = 0) : fracL (p % 10000) = [] := by
  have e := take4 zs
  rw [hz 0 (by omega), hz 1 (by omega), hz 2 (by omega), hz 3 (by omega), h.low.1] at e
  unfold fracL
  rw [if_pos (by omega)]
theorem chr_zero {d : Int} (h : 0 ≤ d ∧ d ≤ 9) : chr d = 48 ↔ d = 0 := by
  unfold chr
  constructor
  · intro e
    have := congrArg UInt8.toNat e
    rw [UInt8.toNat_ofNat'] at this
    have e2 : (48 : UInt8).toNat = 48 := rfl
    rw [e2] at this
    omega
  · rintro rfl; rfl
theorem TextIn.part {zs : List Int} {p : Nat} (h : TextIn zs p) (k : Nat) (hk : k < 4) (hz : ∀ i, i < k → zs.getD i 0 = 0) (hn : zs.getD k 0 ≠ 0) : fracL (p % 10000) = 46 :: revT (zs.take 4) k := by
  have hl := h.len
  have e := take4 zs
  have l1 := h.low.1
  rw [l1] at e
  have d0 := h.dig.getD 0
  have d1 := h.dig.getD 1
  have d2 := h.dig.getD 2
  have d3 := h.dig.getD 3
  have hne : p % 10000 ≠ 0 := by
    have : k = 0 ∨ k = 1 ∨ k = 2 ∨ k = 3 := by omega
    rcases this with rfl | rfl | rfl | rfl <;> omega
  have hlen : (zs.take 4).length = 4 := by rw [List.length_take]; omega
  have hd : Dc.Dig (zs.take 4 ++ [1]) := dig_snoc (h.dig.take 4) (by omega) (by omega)
  have hv := dec_rev (zs.take 4 ++ [1]) hd (by simp) (Or.inr (cn_snoc (by omega)))
  rw [val_snoc, hlen, l1] at hv
  have e4 : (10 : Int) ^ 4 = 10000 := by decide
  rw [e4, show (((p % 10000 : Nat) : Int) + 10000 * 1).toNat = 10000 + p % 10000 by omega] at hv
  unfold fracL
  rw [if_neg hne, ← hv, List.reverse_append]
  show 46 :: Lib.trimRightB ((chr 1 :: (zs.take 4).reverse.map chr).drop 1) 48 = _
  rw [List.drop_one, List.tail_cons]
  unfold Lib.trimRightB
  rw [← List.map_reverse, List.reverse_reverse]
  have hdw := Lib.dropWhile_drop (· == (48 : UInt8)) ((zs.take 4).map chr) k (by
    intro j b hj hb
    rw [List.getElem?_map, List.getElem?_take, if_pos (by omega), List.getElem?_eq_getElem (by omega)] at hb
    injection hb with hb
    have hzj := hz j hj
    rw [List.getD_eq_getElem?_getD, List.getElem?_eq_getElem (by omega)] at hzj
    have hzj : zs[j] = 0 := hzj
    rw [← hb, hzj]; rfl) (by
    intro b hb
    rw [List.getElem?_map, List.getElem?_take, if_pos (by omega), List.getElem?_eq_getElem (by omega)] at hb
    injection hb with hb
    rw [List.getD_eq_getElem?_getD, List.getElem?_eq_getElem (by omega)] at hn
    have hn : zs[k] ≠ 0 := hn
    rw [← hb, beq_eq_false_iff_ne]
    intro h2
    exact hn ((chr_zero (h.dig _ (List.getElem_mem _))).1 h2)) (by simp; omega)
  rw [hdw]
  unfold revT
  rw [← List.map_drop, ← List.map_reverse]

theorem TextIn.text {zs : List Int} {a : Int} (h : TextIn zs a.natAbs) (hg : goodB a = true) (r : List UInt8) (hr : fracL (a.natAbs % 10000) = r) : textL a = sgnL a ++ revT zs 4 ++ r := by
  unfold textL sgnL absL
  rw [if_pos hg, h.whole, hr]
  by_cases ha : a < 0
  · rw [if_pos ha, if_pos ha]; simp
  · rw [if_neg ha, if_neg ha]; simp
end Go.Proofs.YtbeijnflfmjgfaaGreatDoor

namespace Go.Proofs.YtbeijnflfmjgfaaGreatDoor
open Go.RowKit

end Go.Proofs.YtbeijnflfmjgfaaGreatDoor

namespace Go.Proofs.YtbeijnflfmjgfaaGreatDoor
open Go.RowKit

def showV (u : Vl) : ByteArray :=
  if u.kind = 1 then ⟨(textL u.num).toArray⟩ else if u.kind = 2 then u.text else if u.kind = 3 then (if u.tr = true then ⟨#[84, 82, 85, 69]⟩ else ⟨#[70, 65, 76, 83, 69]⟩) else if u.kind = 4 then signV u.fail else noText
theorem sound_size (v : Vl) (h : v.text.size ≤ 1000000) : (vSound v).text.size ≤ 1000000 := by
  unfold vSound
  split
  · exact h
  · show noText.size ≤ 1000000; decide

end Go.Proofs.YtbeijnflfmjgfaaGreatDoor
