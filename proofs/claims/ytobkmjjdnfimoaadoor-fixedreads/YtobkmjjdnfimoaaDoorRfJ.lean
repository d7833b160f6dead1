/- The contracts of the reference's Round, Floor, Whole. -/
import Derived.Test.YtobkmjjdnfimoaaDoorRfI
import Derived.Test.YtobkmjjdnfimoaaDoorFxF
namespace Go.Proofs.YtobkmjjdnfimoaaDoor
open Go.RowKit

theorem two_arr (w : World) (t : TypeId) (k l : Int) : Arr (w.alloc (.cells #[.int .i64 k, .int .i64 l] t)) (.slice (some ⟨w.heap.size, 0, none⟩) 2 2) [k, l] := by
  refine Or.inr ⟨w.heap.size, 0, 2, rfl, by simp, by simp, fun i hi => ?_⟩
  have : i = 0 ∨ i = 1 := by simp at hi; omega
  rcases this with rfl | rfl <;> simp
theorem dig_ten : Dc.Dig [0, 1] := by intro x hx; simp at hx; rcases hx with rfl | rfl <;> omega
theorem val_ten : Dc.val [0, 1] = 10 := by simp [Dc.val]
theorem cn_one : Dc.Cn [1] := by
  intro x l' e
  have h := congrArg List.reverse e
  rw [List.reverse_append] at h
  simp at h
  omega

/-- A power of ten, as digits. -/
def PowAt (w : World) (v : Value) (m : Nat) : Prop := ∃ ss, Arr w v ss ∧ Dc.Dig ss ∧ Dc.Cn ss ∧ Dc.val ss = 10 ^ m ∧ ss.length ≤ 1 + 3 * m
theorem PowAt.below {w w' : World} {v : Value} {m : Nat} (h : PowAt w v m) (hb : Below w.heap.size w w') : PowAt w' v m := by
  obtain ⟨ss, h1, h2⟩ := h
  exact ⟨ss, h1.below (Nat.le_refl _) hb, h2⟩
theorem pow_one (w : World) (t : TypeId) : PowAt (w.alloc (.cells #[.int .i64 1] t)) (.slice (some ⟨w.heap.size, 0, none⟩) 1 1) 0 :=
  ⟨[1], one_arr w t 1, dig_one, cn_one, by simp [Dc.val], by simp⟩
theorem times_ten (v : Value) (m : Nat) (w : World) (t : TypeId) (hm : m ≤ 40) (h : PowAt w v m) :
    Calls Tryd.prog 39 #[v, .slice (some ⟨w.heap.size, 0, none⟩) 2 2] (w.alloc (.cells #[.int .i64 0, .int .i64 1] t)) fun e w' => Below w.heap.size w w' ∧ ∃ v', e = .returned v' ∧ PowAt w' v' (m + 1) := by
  obtain ⟨ss, h1, h2, h3, h4, h5⟩ := h
  have ba : Below w.heap.size w (w.alloc (.cells #[.int .i64 0, .int .i64 1] t)) := (Below.refl _ _).alloc (Nat.le_refl _) _
  refine (times_ref v _ ss [0, 1] _ (by omega) (by simp) (h1.below (Nat.le_refl _) ba) (two_arr w t 0 1) h2 dig_ten).mono ?_
  rintro e w1 ⟨b1, v', zs, rfl, z1, z2, z3, z4, z5, _⟩
  refine ⟨below_next ba b1, v', rfl, zs, z1, z2, z3, by rw [z4, h4, val_ten, Int.pow_succ], ?_⟩
  simp at z5
  omega

theorem nrI_one (x z : Nat) (hz : 0 < z) (hx : x ≤ 9000000000000000000) : nrI (x : Int) (z : Int) = ((nrV x 1 z : Nat) : Int) := by
  have hk := (nr_one x z hz hx).1
  unfold nrI nrV
  rw [if_pos hk, Nat.mul_one, ← Int.natCast_ediv, ← Int.natCast_emod]
  by_cases h : z ≤ 2 * (x % z)
  · rw [if_pos h, if_pos (by omega)]; simp
  · rw [if_neg h, if_neg (by omega)]; simp

set_option maxRecDepth 100000 in
set_option maxHeartbeats 8000000 in
theorem round_ref (a n : Int) (w : World) : Calls Tryd.prog 24 #[.int .i64 a, .int .i64 n] w fun e w' => PairPost (roundR a n) w e w' := by
  cases hg : goodB a
  · have hs : roundR a n = (0, 5) := by unfold roundR; rw [hg]; rfl
    have HG := hide hg
    rw [hs]
    clear hg hs
    go_enter Tryd.func24, Tryd.ntmps24
    go_wp2_with fail
    refine (good_ref a _).mono ?_
    rintro e w1 ⟨rfl, rfl⟩
    rw [unhide HG]
    go_wp2
    go_ret2
    exact ⟨rfl, Below.refl _ _⟩
  · have HG := hide hg
    unfold roundR
    rw [if_pos hg]
    rw [goodB_iff] at hg
    obtain ⟨a1, a2⟩ := hg
    by_cases h1 : n < -15
    · rw [if_pos (Or.inl h1)]
      go_enter Tryd.func24, Tryd.ntmps24
      go_wp2_with fail
      refine (good_ref a _).mono ?_
      rintro e w1 ⟨rfl, rfl⟩
      rw [unhide HG]
      go_wp2
      go_ret2
      exact ⟨rfl, Below.refl _ _⟩
    by_cases h2 : 15 < n
    · rw [if_pos (Or.inr h2)]
      go_enter Tryd.func24, Tryd.ntmps24
      go_wp2_with fail
      refine (good_ref a _).mono ?_
      rintro e w1 ⟨rfl, rfl⟩
      rw [unhide HG]
      go_wp2
      go_ret2
      exact ⟨rfl, Below.refl _ _⟩
    rw [if_neg (by omega)]
    by_cases h3 : 4 ≤ n
    · rw [if_pos h3]
      go_enter Tryd.func24, Tryd.ntmps24
      go_wp2_with fail
      refine (good_ref a _).mono ?_
      rintro e w1 ⟨rfl, rfl⟩
      rw [unhide HG]
      go_wp2
      go_ret2
      exact ⟨rfl, Below.refl _ _⟩
    rw [if_neg h3]
    have hn1 : -15 ≤ n := by omega
    have hn3 : n ≤ 3 := by omega
    clear h1 h2 h3
    go_enter Tryd.func24, Tryd.ntmps24
    go_wp2_with fail
    refine (good_ref a _).mono ?_
    rintro e w1 ⟨rfl, rfl⟩
    rw [unhide HG]
    go_wp2
    go_loopw [7, 8] (fun v t wr => ∃ j : Nat, t = .int .i64 (n + (j : Int)) ∧ n + (j : Int) ≤ 4 ∧ Hid (PowAt wr v j) ∧ Hid (Below w1.heap.size w1 wr)) (fun _ t _ => (4 - intOf t).toNat)
    case atStart => exact ⟨0, by simp, by omega, hide (pow_one _ _), hide ((Below.refl _ _).alloc (Nat.le_refl _) _)⟩
    case round =>
      obtain ⟨j, rfl, hj, HP, HB⟩ := hrel
      obtain ⟨wo, rfl⟩ : ∃ wo, wo = wr := ⟨_, rfl⟩
      by_cases hlt : n + (j : Int) < 4
      · go_wp2_with fail
        refine (times_ten _ j wo _ (by omega) (unhide HP)).mono ?_
        rintro e w2 ⟨b2, v2, rfl, p2⟩
        have HP2 := hide p2
        have HB2 := hide (below_next (unhide HB) b2)
        clear p2 b2
        go_wp2
        go_roundw
        case rel => exact ⟨j + 1, int_eqv (by omega), by omega, HP2, HB2⟩
        case measure => simp [intOf]; omega
      · have hj4 : (4 - n).toNat = j := by omega
        obtain ⟨ss, p1, p2, p3, p4, p5⟩ := unhide HP
        have hz0 : 0 < 10 ^ j := Nat.pow_pos (by omega)
        have hval : Dc.val ss = ((10 ^ j : Nat) : Int) := by rw [p4]; simp
        have SS := hide (And.intro p1 (And.intro p2 (And.intro p3 (And.intro hval p5))))
        have HZ := hide hz0
        have HJ := hide hj4
        clear p1 p2 p3 p4 p5 hval hz0 hj4
        go_wp2_with fail
        refine (digits_ref a _ (by omega) (by omega)).mono ?_
        rintro e w3 ⟨b3, vd, ds, rfl, x1, x2, x3, x4, x5⟩
        have X := hide (And.intro x1 (And.intro x2 (And.intro x3 (And.intro x4 x5))))
        clear x1 x2 x3 x4 x5
        go_wp2_with fail
        refine (nearest_ref vd _ ds ss _ (by have := (unhide X).2.2.2.2; omega) (by have := (unhide SS).2.2.2.2; omega) (unhide X).1 ((unhide SS).1.below (Nat.le_refl _) b3) (unhide X).2.1 (unhide SS).2.1 (unhide SS).2.2.1 (by rw [(unhide SS).2.2.2.1]; have := unhide HZ; omega)).mono ?_
        rintro e w4 ⟨b4, vn, ns, rfl, n1, n2, n3, n4, n5⟩
        have N : Hid (Arr w4 vn ns ∧ Dc.Dig ns ∧ Dc.Cn ns ∧ Dc.val ns = ((nrV a.natAbs 1 (10 ^ j) : Nat) : Int) ∧ ns.length ≤ 40) := hide ⟨n1, n2, n3, by rw [n4, (unhide X).2.2.2.1, (unhide SS).2.2.2.1, nrI_one _ _ (unhide HZ) (by omega)], by have := (unhide X).2.2.2.2; omega⟩
        have b34 := below_next b3 b4
        clear n1 n2 n3 n4 n5
        go_wp2_with fail
        refine (times_ref vn _ ns ss _ (by have := (unhide N).2.2.2.2; omega) (by have := (unhide SS).2.2.2.2; omega) (unhide N).1 ((unhide SS).1.below (Nat.le_refl _) b34) (unhide N).2.1 (unhide SS).2.1).mono ?_
        rintro e w5 ⟨b5, vm, ms, rfl, m1, m2, m3, m4, m5⟩
        have M : Hid (Arr w5 vm ms ∧ Dc.Dig ms ∧ Dc.Cn ms ∧ Dc.val ms = ((rndS a n : Nat) : Int) ∧ ms.length ≤ 900) := hide ⟨m1, m2, m3, by rw [m4, (unhide N).2.2.2.1, (unhide SS).2.2.2.1, ← Int.natCast_mul]; unfold rndS; rw [unhide HJ], by have := (unhide N).2.2.2.2; have := (unhide SS).2.2.2.2; omega⟩
        have b35 := below_next b34 b5
        clear m1 m2 m3 m4 m5
        go_wp2_with fail
        refine (number_ref vm ms _ _ (unhide M).2.2.2.2 (unhide M).1 (unhide M).2.1 (unhide M).2.2.1).mono ?_
        rintro e w6 ⟨rfl, b6⟩
        rw [(unhide M).2.2.2.1]
        have b36 := below_next (unhide HB) (below_next b35 b6)
        go_wp2
        go_ret2
        exact ⟨rfl, b36⟩

set_option maxHeartbeats 2000000 in
theorem floor_ref (a : Int) (w : World) : Calls Tryd.prog 26 #[.int .i64 a] w fun e w' => e = .returned (.int .i64 (floorV a)) ∧ Below w.heap.size w w' := by
  cases hg : goodB a
  · have hs : floorV a = 0 := by unfold floorV; rw [hg]; rfl
    have HG := hide hg
    rw [hs]
    clear hg hs
    go_enter Tryd.func26, Tryd.ntmps26
    go_wp2_with fail
    refine (good_ref a _).mono ?_
    rintro e w1 ⟨rfl, rfl⟩
    rw [unhide HG]
    go_wp2
    go_ret
    exact ⟨rfl, Below.refl _ _⟩
  · have hs : floorV a = a - modV a 10000 := by unfold floorV; rw [hg]; rfl
    have hm : modR a 10000 = (modV a 10000, 0) := by
      unfold modR
      have : (goodB a && goodB 10000) = true := by rw [hg]; decide
      rw [this]; rfl
    have HM := hide hm
    have HG := hide hg
    rw [goodB_iff] at hg
    obtain ⟨a1, a2⟩ := hg
    obtain ⟨p1, p2, _⟩ := modV_pos a 10000 (by omega)
    rw [hs]
    clear hs hm
    go_enter Tryd.func26, Tryd.ntmps26
    go_wp2_with fail
    refine (good_ref a _).mono ?_
    rintro e w1 ⟨rfl, rfl⟩
    rw [unhide HG]
    go_wp2_with fail
    refine (mod_ref a 10000 _).mono ?_
    rintro e w2 ⟨rfl, hb⟩
    rw [unhide HM]
    go_wp2
    go_ret
    exact ⟨rfl, hb⟩
end Go.Proofs.YtobkmjjdnfimoaaDoor
