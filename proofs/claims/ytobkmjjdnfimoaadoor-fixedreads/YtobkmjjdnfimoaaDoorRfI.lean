/- The contracts of the reference's Div, Mod. -/
import Derived.Test.YtobkmjjdnfimoaaDoorRfH
namespace Go.Proofs.YtobkmjjdnfimoaaDoor
open Go.RowKit

set_option maxRecDepth 100000 in
set_option maxHeartbeats 4000000 in
theorem div_ref (a b : Int) (w : World) : Calls Tryd.prog 20 #[.int .i64 a, .int .i64 b] w fun e w' => PairPost (divR a b) w e w' := by
  cases hg : (goodB a && goodB b)
  · have hs : divR a b = (0, 5) := by unfold divR; rw [hg]; rfl
    rw [hs]
    clear hs
    cases ha : goodB a
    · have HA := hide ha
      clear ha hg
      go_enter Tryd.func20, Tryd.ntmps20
      go_wp2_with fail
      refine (good_ref a _).mono ?_
      rintro e w1 ⟨rfl, rfl⟩
      rw [unhide HA]
      go_wp2_with fail
      refine (good_ref b _).mono ?_
      rintro e w2 ⟨rfl, rfl⟩
      go_wp2
      go_ret2
      exact ⟨rfl, Below.refl _ _⟩
    · have hb : goodB b = false := by rw [ha] at hg; exact hg
      have HA := hide ha
      have HB := hide hb
      clear ha hb hg
      go_enter Tryd.func20, Tryd.ntmps20
      go_wp2_with fail
      refine (good_ref a _).mono ?_
      rintro e w1 ⟨rfl, rfl⟩
      rw [unhide HA]
      go_wp2_with fail
      refine (good_ref b _).mono ?_
      rintro e w2 ⟨rfl, rfl⟩
      rw [unhide HB]
      go_wp2
      go_ret2
      exact ⟨rfl, Below.refl _ _⟩
  · have hs : divR a b = (if b = 0 then (0, 6) else scR (decide (a < 0) != decide (b < 0)) a.natAbs 10000 b.natAbs) := by unfold divR; rw [hg]; rfl
    rw [hs]
    have HSC := hide (fun h0 : b ≠ 0 => sc_ref (decide (a < 0) != decide (b < 0)) a.natAbs 10000 b.natAbs (by omega))
    rw [Bool.and_eq_true] at hg
    have HA := hide hg.1
    have HB := hide hg.2
    rw [goodB_iff, goodB_iff] at hg
    obtain ⟨⟨a1, a2⟩, v1, v2⟩ := hg
    clear hs
    by_cases hb0 : b = 0
    · rw [if_pos hb0]
      have hbb : (b == 0) = true := by rw [beq_iff_eq]; exact hb0
      clear HSC hb0
      go_enter Tryd.func20, Tryd.ntmps20
      go_wp2_with fail
      refine (good_ref a _).mono ?_
      rintro e w1 ⟨rfl, rfl⟩
      rw [unhide HA]
      go_wp2_with fail
      refine (good_ref b _).mono ?_
      rintro e w2 ⟨rfl, rfl⟩
      rw [unhide HB]
      go_wp2
      go_ret2
      exact ⟨rfl, Below.refl _ _⟩
    · rw [if_neg hb0]
      have HSC := hide (unhide HSC hb0)
      have hbb : (b == 0) = false := by rw [beq_eq_false_iff_ne]; exact hb0
      have HB0 := hide hb0
      clear hb0
      go_enter Tryd.func20, Tryd.ntmps20
      go_wp2_with fail
      refine (good_ref a _).mono ?_
      rintro e w1 ⟨rfl, rfl⟩
      rw [unhide HA]
      go_wp2_with fail
      refine (good_ref b _).mono ?_
      rintro e w2 ⟨rfl, rfl⟩
      rw [unhide HB]
      go_wp2_with fail
      refine (digits_ref a _ (by omega) (by omega)).mono ?_
      rintro e w3 ⟨b3, va, xs, rfl, x1, x2, x3, x4, x5⟩
      have X := hide (And.intro x1 (And.intro x2 (And.intro x3 (And.intro x4 x5))))
      clear x1 x2 x3 x4 x5
      go_wp2_with fail
      refine (digits_ref b _ (by omega) (by omega)).mono ?_
      rintro e w4 ⟨b4, vb, ys, rfl, y1, y2, y3, y4, y5⟩
      have Y := hide (And.intro y1 (And.intro y2 (And.intro y3 (And.intro y4 y5))))
      have b14 := below_next b3 b4
      clear y1 y2 y3 y4 y5
      go_wp2_with fail
      refine (digits_ref 10000 _ (by omega) (by omega)).mono ?_
      rintro e w5 ⟨b5, vs, ss, rfl, s1, s2, s3, s4, s5⟩
      have S : Hid (Arr w5 vs ss ∧ Dc.Dig ss ∧ Dc.Cn ss ∧ Dc.val ss = 10000 ∧ ss.length ≤ 19) := hide ⟨s1, s2, s3, s4, s5.1⟩
      have b15 := below_next b14 b5
      have b45 := below_next b4 b5
      clear s1 s2 s3 s4 s5
      go_wp2_with fail
      refine (times_ref va vs xs ss _ (by have := (unhide X).2.2.2.2; omega) (by have := (unhide S).2.2.2.2; omega) ((unhide X).1.below (Nat.le_refl _) b45) (unhide S).1 (unhide X).2.1 (unhide S).2.1).mono ?_
      rintro e w6 ⟨b6, vm, ms, rfl, m1, m2, m3, m4, m5⟩
      have M : Hid (Arr w6 vm ms ∧ Dc.Dig ms ∧ Dc.Cn ms ∧ Dc.val ms = (a.natAbs : Int) * ((10000 : Nat) : Int) ∧ ms.length ≤ 50) := hide ⟨m1, m2, m3, by rw [m4, (unhide X).2.2.2.1, (unhide S).2.2.2.1]; rfl, by have := (unhide X).2.2.2.2; have := (unhide S).2.2.2.2; omega⟩
      have b16 := below_next b15 b6
      have b56 := below_next b5 b6
      clear m1 m2 m3 m4 m5
      go_wp2_with fail
      refine (nearest_ref vm vb ms ys _ (by have := (unhide M).2.2.2.2; omega) (by have := (unhide Y).2.2.2.2; omega) (unhide M).1 ((unhide Y).1.below (Nat.le_refl _) b56) (unhide M).2.1 (unhide Y).2.1 (unhide Y).2.2.1 (val_pos (unhide Y).2.2.2.1 (unhide HB0))).mono ?_
      rintro e w7 ⟨b7, vn, ns, rfl, n1, n2, n3, n4, n5⟩
      have N : Hid (Arr w7 vn ns ∧ Dc.Dig ns ∧ Dc.Cn ns ∧ Dc.val ns = nrI ((a.natAbs : Int) * ((10000 : Nat) : Int)) (b.natAbs : Int) ∧ ns.length ≤ 900) := hide ⟨n1, n2, n3, by rw [n4, (unhide M).2.2.2.1, (unhide Y).2.2.2.1], by have := (unhide M).2.2.2.2; omega⟩
      have b17 := below_next b16 b7
      clear n1 n2 n3 n4 n5
      go_wp2_with fail
      refine (number_ref vn ns _ _ (unhide N).2.2.2.2 (unhide N).1 (unhide N).2.1 (unhide N).2.2.1).mono ?_
      rintro e w8 ⟨rfl, b8⟩
      rw [(unhide N).2.2.2.1]
      have hsc := unhide HSC
      have HSC1 : Hid (sgnN (decide (a < 0) != decide (b < 0)) (nrI ((a.natAbs : Int) * ((10000 : Nat) : Int)) (b.natAbs : Int)) = (scR (decide (a < 0) != decide (b < 0)) a.natAbs 10000 b.natAbs).1 ∧ sgnE (nrI ((a.natAbs : Int) * ((10000 : Nat) : Int)) (b.natAbs : Int)) = (scR (decide (a < 0) != decide (b < 0)) a.natAbs 10000 b.natAbs).2) := hide ⟨by rw [← hsc], by rw [← hsc]⟩
      have b18 := below_next b17 b8
      clear hsc HSC
      go_wp2
      go_ret2
      exact ⟨by rw [← (unhide HSC1).1, ← (unhide HSC1).2]; rfl, b18⟩

theorem modV_cases' (a b : Int) (hb : b ≠ 0) :
    (a.tmod b = 0 ∧ modV a b = 0) ∨ (a.tmod b < 0 ∧ b < 0 ∧ b < a.tmod b ∧ modV a b = a.tmod b) ∨ (0 < a.tmod b ∧ 0 < b ∧ a.tmod b < b ∧ modV a b = a.tmod b) ∨
      (a.tmod b < 0 ∧ 0 < b ∧ 0 < a.tmod b + b ∧ a.tmod b + b < b ∧ modV a b = a.tmod b + b) ∨ (0 < a.tmod b ∧ b < 0 ∧ a.tmod b + b < 0 ∧ b < a.tmod b + b ∧ modV a b = a.tmod b + b) := by
  have h1 : (a.tmod b).natAbs = a.natAbs % b.natAbs := Int.natAbs_tmod a b
  have h2 : a.natAbs % b.natAbs < b.natAbs := Nat.mod_lt _ (by omega)
  rw [← h1] at h2
  clear h1
  unfold modV
  generalize a.tmod b = t at *
  rcases Int.lt_trichotomy t 0 with ht | ht | ht
  · by_cases hn : b < 0
    · refine Or.inr (Or.inl ⟨ht, hn, by omega, ?_⟩)
      rw [if_neg]; intro h; have := h.2; simp [ht, hn] at this
    · refine Or.inr (Or.inr (Or.inr (Or.inl ⟨ht, by omega, by omega, by omega, ?_⟩)))
      rw [if_pos]; exact ⟨by omega, by simp [ht]; omega⟩
  · subst ht
    exact Or.inl ⟨rfl, by rw [if_neg]; intro h; exact h.1 rfl⟩
  · by_cases hn : b < 0
    · refine Or.inr (Or.inr (Or.inr (Or.inr ⟨ht, hn, by omega, by omega, ?_⟩)))
      rw [if_pos]; exact ⟨by omega, by simp [hn]; omega⟩
    · refine Or.inr (Or.inr (Or.inl ⟨ht, by omega, by omega, ?_⟩))
      rw [if_neg]; intro h; have h2 := h.2
      rw [decide_eq_false (by omega), decide_eq_false hn] at h2; cases h2

/-- What is left, by sizes. -/
theorem mod_sizes (a b R : Int) (hb : b ≠ 0) (hR : (a.natAbs : Int) % (b.natAbs : Int) = R) :
    (R ≠ 0 → (decide (a < 0) != decide (b < 0)) = true → modV a b = (if b < 0 then -((b.natAbs : Int) - R) else (b.natAbs : Int) - R)) ∧
    ((R = 0 ∨ (decide (a < 0) != decide (b < 0)) = false) → modV a b = (if b < 0 then -R else R)) := by
  have h1 : (a.tmod b).natAbs = a.natAbs % b.natAbs := Int.natAbs_tmod a b
  have h2 : ((a.natAbs % b.natAbs : Nat) : Int) = R := by rw [← hR]; exact Int.natCast_emod _ _
  have h3 : 0 ≤ a → 0 ≤ a.tmod b := fun h => Int.tmod_nonneg b h
  have h4 : a < 0 → a.tmod b ≤ 0 := fun h => by
    have := Int.tmod_nonneg b (show 0 ≤ -a by omega)
    rw [Int.neg_tmod] at this
    omega
  have hm := modV_cases' a b hb
  constructor
  · intro hr hs
    by_cases ha : a < 0
    · have hb2 : ¬ b < 0 := by intro h; rw [decide_eq_true ha, decide_eq_true h] at hs; cases hs
      rw [if_neg hb2]
      have := h4 ha
      rcases hm with h | h | h | h | h <;> omega
    · have hb2 : b < 0 := by
        rcases Int.lt_or_le b 0 with h | h
        · exact h
        · rw [decide_eq_false ha, decide_eq_false (by omega)] at hs; cases hs
      rw [if_pos hb2]
      have := h3 (by omega)
      rcases hm with h | h | h | h | h <;> omega
  · intro hs
    by_cases hr : R = 0
    · have ht : a.tmod b = 0 := by omega
      rcases hm with h | h | h | h | h
      · rw [h.2]; split <;> omega
      · omega
      · omega
      · omega
      · omega
    · have hs : (decide (a < 0) != decide (b < 0)) = false := by
        rcases hs with h | h
        · exact absurd h hr
        · exact h
      by_cases ha : a < 0
      · have hb2 : b < 0 := by
          rcases Int.lt_or_le b 0 with h | h
          · exact h
          · rw [decide_eq_true ha, decide_eq_false (by omega)] at hs; cases hs
        rw [if_pos hb2]
        have := h4 ha
        rcases hm with h | h | h | h | h <;> omega
      · have hb2 : ¬ b < 0 := by intro h; rw [decide_eq_false ha, decide_eq_true h] at hs; cases hs
        rw [if_neg hb2]
        have := h3 (by omega)
        rcases hm with h | h | h | h | h <;> omega

set_option maxRecDepth 100000 in
set_option maxHeartbeats 8000000 in
theorem mod_ref (a b : Int) (w : World) : Calls Tryd.prog 22 #[.int .i64 a, .int .i64 b] w fun e w' => PairPost (modR a b) w e w' := by
  cases hg : (goodB a && goodB b)
  · have hs : modR a b = (0, 5) := by unfold modR; rw [hg]; rfl
    rw [hs]
    clear hs
    cases ha : goodB a
    · have HA := hide ha
      clear ha hg
      go_enter Tryd.func22, Tryd.ntmps22
      go_wp2_with fail
      refine (good_ref a _).mono ?_
      rintro e w1 ⟨rfl, rfl⟩
      rw [unhide HA]
      go_wp2_with fail
      refine (good_ref b _).mono ?_
      rintro e w2 ⟨rfl, rfl⟩
      go_wp2
      go_ret2
      exact ⟨rfl, Below.refl _ _⟩
    · have hb : goodB b = false := by rw [ha] at hg; exact hg
      have HA := hide ha
      have HB := hide hb
      clear ha hb hg
      go_enter Tryd.func22, Tryd.ntmps22
      go_wp2_with fail
      refine (good_ref a _).mono ?_
      rintro e w1 ⟨rfl, rfl⟩
      rw [unhide HA]
      go_wp2_with fail
      refine (good_ref b _).mono ?_
      rintro e w2 ⟨rfl, rfl⟩
      rw [unhide HB]
      go_wp2
      go_ret2
      exact ⟨rfl, Below.refl _ _⟩
  · have hs : modR a b = (if b = 0 then (0, 6) else (modV a b, 0)) := by unfold modR; rw [hg]; rfl
    rw [hs]
    rw [Bool.and_eq_true] at hg
    have HA := hide hg.1
    have HB := hide hg.2
    rw [goodB_iff, goodB_iff] at hg
    obtain ⟨⟨a1, a2⟩, v1, v2⟩ := hg
    clear hs
    by_cases hb0 : b = 0
    · rw [if_pos hb0]
      have hbb : (b == 0) = true := by rw [beq_iff_eq]; exact hb0
      clear hb0
      go_enter Tryd.func22, Tryd.ntmps22
      go_wp2_with fail
      refine (good_ref a _).mono ?_
      rintro e w1 ⟨rfl, rfl⟩
      rw [unhide HA]
      go_wp2_with fail
      refine (good_ref b _).mono ?_
      rintro e w2 ⟨rfl, rfl⟩
      rw [unhide HB]
      go_wp2
      go_ret2
      exact ⟨rfl, Below.refl _ _⟩
    · rw [if_neg hb0]
      have hbb : (b == 0) = false := by rw [beq_eq_false_iff_ne]; exact hb0
      obtain ⟨R, hR⟩ : ∃ R : Int, (a.natAbs : Int) % (b.natAbs : Int) = R := ⟨_, rfl⟩
      obtain ⟨ms1, ms2⟩ := mod_sizes a b R hb0 hR
      have hR0 : 0 ≤ R := by rw [← hR]; exact Int.emod_nonneg _ (by omega)
      have hR1 : R < (b.natAbs : Int) := by rw [← hR]; exact Int.emod_lt_of_pos _ (by omega)
      have HS1 := hide ms1
      have HS2 := hide ms2
      have HR := hide hR
      have HB0 := hide hb0
      clear hb0 ms1 ms2 hR
      go_enter Tryd.func22, Tryd.ntmps22
      go_wp2_with fail
      refine (good_ref a _).mono ?_
      rintro e w1 ⟨rfl, rfl⟩
      rw [unhide HA]
      go_wp2_with fail
      refine (good_ref b _).mono ?_
      rintro e w2 ⟨rfl, rfl⟩
      rw [unhide HB]
      go_wp2_with fail
      refine (digits_ref a _ (by omega) (by omega)).mono ?_
      rintro e w3 ⟨b3, va, xs, rfl, x1, x2, x3, x4, x5⟩
      have X := hide (And.intro x1 (And.intro x2 (And.intro x3 (And.intro x4 x5))))
      clear x1 x2 x3 x4 x5
      go_wp2_with fail
      refine (digits_ref b _ (by omega) (by omega)).mono ?_
      rintro e w4 ⟨b4, vb, ys, rfl, y1, y2, y3, y4, y5⟩
      have Y := hide (And.intro y1 (And.intro y2 (And.intro y3 (And.intro y4 y5))))
      have b14 := below_next b3 b4
      clear y1 y2 y3 y4 y5
      go_wp2_with fail
      refine (over_ref va vb xs ys _ (by have := (unhide X).2.2.2.2; omega) (by have := (unhide Y).2.2.2.2; omega) ((unhide X).1.below (Nat.le_refl _) b4) (unhide Y).1 (unhide X).2.1 (unhide Y).2.1 (unhide Y).2.2.1 (val_pos (unhide Y).2.2.2.1 (unhide HB0))).mono ?_
      rintro e w5 ⟨b5, vq, vr, qs, rs, rfl, q1, r1, q2, q3, r2, r3, es, rl, ql, rlen, fq⟩
      obtain ⟨_, dm⟩ := divmod_of es (Dc.val_nonneg rs r2) rl
      have RR : Hid (Arr w5 vr rs ∧ Dc.Dig rs ∧ Dc.Cn rs ∧ Dc.val rs = R ∧ rs.length ≤ 900) := hide ⟨r1, r2, r3, by rw [← dm, (unhide X).2.2.2.1, (unhide Y).2.2.2.1, unhide HR], by have := (unhide Y).2.2.2.2; omega⟩
      have b15 := below_next b14 b5
      clear q1 r1 q2 q3 r2 r3 es rl ql rlen fq dm
      go_wp2_with fail
      refine (number_ref vr rs _ _ (unhide RR).2.2.2.2 (unhide RR).1 (unhide RR).2.1 (unhide RR).2.2.1).mono ?_
      rintro e w6 ⟨rfl, b6⟩
      rw [(unhide RR).2.2.2.1]
      have e1 : sgnN false R = R ∧ sgnE R = 0 := by
        unfold sgnN sgnE
        have h' : ¬ (9000000000000000000 : Int) < R := by omega
        rw [if_neg h', if_neg h']; exact ⟨rfl, rfl⟩
      rw [e1.1, e1.2]
      have b16 := below_next b15 b6
      clear e1
      by_cases hr0 : R = 0
      · have HM := hide (unhide HS2 (Or.inl hr0))
        have hrb : (R == 0) = true := by rw [beq_iff_eq]; exact hr0
        have HR0 := hide hr0
        clear hr0
        by_cases hbn : b < 0
        · have HM' : Hid (modV a b = 0) := hide (by rw [unhide HM, if_pos hbn, unhide HR0]; rfl)
          go_wp2
          go_ret2
          exact ⟨by rw [unhide HM']; rfl, b16⟩
        · have HM' : Hid (modV a b = 0) := hide (by rw [unhide HM, if_neg hbn, unhide HR0])
          go_wp2
          go_ret2
          exact ⟨by rw [unhide HM']; rfl, b16⟩
      · have hrb : (R == 0) = false := by rw [beq_eq_false_iff_ne]; exact hr0
        have hrn : (R != 0) = true := by rw [bne_iff_ne]; exact hr0
        have HR0 := hide hr0
        clear hr0
        by_cases hbn : b < 0 <;> by_cases han : a < 0
        · have d1 : decide (a < 0) = true := decide_eq_true han
          have d2 : decide (b < 0) = true := decide_eq_true hbn
          have HM' : Hid (modV a b = -R) := hide (by rw [unhide HS2 (Or.inr (by rw [d1, d2]; rfl)), if_pos hbn])
          go_wp2
          go_ret2
          exact ⟨by rw [unhide HM']; rfl, b16⟩
        · have d1 : decide (a < 0) = false := decide_eq_false han
          have d2 : decide (b < 0) = true := decide_eq_true hbn
          have HM' : Hid (modV a b = -((b.natAbs : Int) - R)) := hide (by rw [unhide HS1 (unhide HR0) (by rw [d1, d2]; rfl), if_pos hbn])
          go_wp2_with fail
          refine (number_ref vb ys _ _ (by have := (unhide Y).2.2.2.2; omega) ((unhide Y).1.below (Nat.le_refl _) (below_next b5 b6)) (unhide Y).2.1 (unhide Y).2.2.1).mono ?_
          rintro e w7 ⟨rfl, b7⟩
          rw [(unhide Y).2.2.2.1]
          have e2 : sgnN false (b.natAbs : Int) = (b.natAbs : Int) ∧ sgnE (b.natAbs : Int) = 0 := by
            unfold sgnN sgnE
            have h' : ¬ (9000000000000000000 : Int) < (b.natAbs : Int) := by omega
            rw [if_neg h', if_neg h']; exact ⟨rfl, rfl⟩
          rw [e2.1, e2.2]
          have hB : (b.natAbs : Int) ≤ 9000000000000000000 := by omega
          clear e2
          generalize (b.natAbs : Int) = bb at *
          go_wp2
          go_ret2
          exact ⟨by rw [unhide HM']; rfl, below_next b16 b7⟩
        · have d1 : decide (a < 0) = true := decide_eq_true han
          have d2 : decide (b < 0) = false := decide_eq_false hbn
          have HM' : Hid (modV a b = (b.natAbs : Int) - R) := hide (by rw [unhide HS1 (unhide HR0) (by rw [d1, d2]; rfl), if_neg hbn])
          go_wp2_with fail
          refine (number_ref vb ys _ _ (by have := (unhide Y).2.2.2.2; omega) ((unhide Y).1.below (Nat.le_refl _) (below_next b5 b6)) (unhide Y).2.1 (unhide Y).2.2.1).mono ?_
          rintro e w7 ⟨rfl, b7⟩
          rw [(unhide Y).2.2.2.1]
          have e2 : sgnN false (b.natAbs : Int) = (b.natAbs : Int) ∧ sgnE (b.natAbs : Int) = 0 := by
            unfold sgnN sgnE
            have h' : ¬ (9000000000000000000 : Int) < (b.natAbs : Int) := by omega
            rw [if_neg h', if_neg h']; exact ⟨rfl, rfl⟩
          rw [e2.1, e2.2]
          have hB : (b.natAbs : Int) ≤ 9000000000000000000 := by omega
          clear e2
          generalize (b.natAbs : Int) = bb at *
          go_wp2
          go_ret2
          exact ⟨by rw [unhide HM']; rfl, below_next b16 b7⟩
        · have d1 : decide (a < 0) = false := decide_eq_false han
          have d2 : decide (b < 0) = false := decide_eq_false hbn
          have HM' : Hid (modV a b = R) := hide (by rw [unhide HS2 (Or.inr (by rw [d1, d2]; rfl)), if_neg hbn])
          go_wp2
          go_ret2
          exact ⟨by rw [unhide HM']; rfl, b16⟩
end Go.Proofs.YtobkmjjdnfimoaaDoor
