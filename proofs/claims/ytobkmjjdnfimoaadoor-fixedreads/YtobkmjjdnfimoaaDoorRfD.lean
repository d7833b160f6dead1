/- The contracts of the reference's Number, Add, Sub. -/
import Derived.Test.YtobkmjjdnfimoaaDoorRfC
import Derived.Test.YtobkmjjdnfimoaaDoorFxB
namespace Go.Proofs.YtobkmjjdnfimoaaDoor
open Go.RowKit

theorem below_next {w a b : World} (h : Below w.heap.size w a) (k : Below a.heap.size a b) : Below w.heap.size w b := h.trans (k.mono h.size)

theorem val_drop (zs : List Int) (k : Nat) (h0 : 0 < k) (hk : k ≤ zs.length) : Dc.val (zs.drop (k - 1)) = zs.getD (k - 1) 0 + 10 * Dc.val (zs.drop k) := by
  rw [drop_pred zs k h0 hk]; rfl
theorem val_drop_le (zs : List Int) (k : Nat) (hk : k ≤ zs.length) (hd : Dc.Dig zs) : 0 ≤ Dc.val (zs.drop k) ∧ Dc.val (zs.drop k) ≤ Dc.val zs := by
  have h0 := Dc.val_nonneg (zs.drop k) (fun x hx => hd x (List.mem_of_mem_drop hx))
  have h1 := Dc.val_nonneg (zs.take k) (hd.take k)
  have e := Dc.val_append (zs.take k) (zs.drop k)
  rw [List.take_append_drop, List.length_take, Nat.min_eq_left hk] at e
  have hp := Dc.pow_pos k
  have : (1 : Int) * Dc.val (zs.drop k) ≤ 10 ^ k * Dc.val (zs.drop k) := Int.mul_le_mul_of_nonneg_right (by omega) h0
  omega

/-- A number and an error, in a world that has grown. -/
def PairPost (r : Int × Int) (w : World) (e : Ending) (w' : World) : Prop := e = .returned (.tuple #[.int .i64 r.1, .int .i64 r.2]) ∧ Below w.heap.size w w'

set_option maxRecDepth 100000 in
set_option maxHeartbeats 2000000 in
theorem number_ref (v : Value) (zs : List Int) (neg : Bool) (w : World) (hz : zs.length ≤ 900) (hv : Arr w v zs) (hd : Dc.Dig zs) (hc : Dc.Cn zs) :
    Calls Tryd.prog 36 #[v, .bool neg] w fun e w' => PairPost (sgnN neg (Dc.val zs), sgnE (Dc.val zs)) w e w' := by
  have HD := hide (And.intro hd hc)
  have HV := hide hv
  obtain ⟨ad, cap, rfl, ho⟩ := arr_open hv
  have HO := hide ho
  obtain ⟨n, hn⟩ : ∃ n, zs.length = n := ⟨_, rfl⟩
  rw [hn] at hz ⊢
  rw [hn] at HO
  rw [hn] at HV
  have HN := hide hn
  clear hd hc hv ho hn
  go_enter Tryd.func36, Tryd.ntmps36
  go_wp2_with fail
  refine (digits_ref 9000000000000000000 _ (by omega) (by omega)).mono ?_
  rintro e w1 ⟨b1, vb, bs, rfl, k1, k2, k3, k4, k5⟩
  have K4 : Hid (Dc.val bs = 9000000000000000000) := hide k4
  have K := hide (And.intro k1 (And.intro k2 k3))
  clear k1 k2 k3 k4
  go_wp2_with fail
  refine (below_any _ _ bs zs _ (by omega) (by have := unhide HN; omega) (unhide K).1 ((unhide HV).below (Nat.le_refl _) b1) (unhide K).2.1 (unhide HD).1 (unhide K).2.2 (unhide HD).2).mono ?_
  rintro e w2 ⟨rfl, b2⟩
  have b12 := below_next b1 b2
  rw [unhide K4]
  by_cases hm : 9000000000000000000 < Dc.val zs
  · rw [decide_eq_true hm]
    have HR : Hid (sgnN neg (Dc.val zs) = 0 ∧ sgnE (Dc.val zs) = 5) := hide (by unfold sgnN sgnE; rw [if_pos hm, if_pos hm]; exact ⟨rfl, rfl⟩)
    clear hm
    go_wp2
    go_ret2
    exact ⟨by rw [(unhide HR).1, (unhide HR).2]; rfl, b12⟩
  · rw [decide_eq_false hm]
    have HR : Hid (sgnN neg (Dc.val zs) = (if neg = true then -Dc.val zs else Dc.val zs) ∧ sgnE (Dc.val zs) = 0) := hide (by unfold sgnN sgnE; rw [if_neg hm, if_neg hm]; exact ⟨rfl, rfl⟩)
    have HM := hide hm
    clear hm
    go_wp2
    go_loop [8, 9] (fun t i => ∃ k : Nat, i = .int .i64 ((k : Int) - 1) ∧ k ≤ n ∧ t = .int .i64 (Dc.val (zs.drop k))) (fun _ i => (intOf i + 1).toNat)
    case atStart => exact ⟨n, rfl, Nat.le_refl _, by rw [List.drop_of_length_le (by have := unhide HN; omega)]; rfl⟩
    case round =>
      obtain ⟨k, rfl, hk, rfl⟩ := hrel
      have hvd := val_drop_le zs k (by have := unhide HN; omega) (unhide HD).1
      rcases Nat.eq_zero_or_pos k with hk0 | hk0
      · subst hk0
        rw [List.drop_zero] at hvd ⊢
        obtain ⟨v1, v2⟩ := hvd
        have hm' := unhide HM
        obtain ⟨x, hx⟩ : ∃ x, Dc.val zs = x := ⟨_, rfl⟩
        rw [hx] at v1 hm' HR ⊢
        have HX := hide hx
        clear hx v2
        cases neg
        · go_wp2
          go_ret2
          exact ⟨by rw [unhide HX, (unhide HR).1, (unhide HR).2]; rfl, b12⟩
        · go_wp2
          go_ret2
          exact ⟨by rw [unhide HX, (unhide HR).1, (unhide HR).2]; rfl, b12⟩
      · obtain ⟨b, o, rfl, hb, hcell⟩ := unhide HO (by omega)
        have hc := hcell (k - 1) (by omega)
        rw [← b12.cell (p := ⟨b, o + (k - 1), none⟩) hb] at hc
        have hvs := val_drop zs k hk0 (by have := unhide HN; omega)
        have hv1 := val_drop_le zs (k - 1) (by have := unhide HN; omega) (unhide HD).1
        have hg := (unhide HD).1.getD (k - 1)
        have hm' := unhide HM
        obtain ⟨d, hd⟩ : ∃ d, zs.getD (k - 1) 0 = d := ⟨_, rfl⟩
        obtain ⟨x, hx⟩ : ∃ x, Dc.val (zs.drop k) = x := ⟨_, rfl⟩
        obtain ⟨y, hy⟩ : ∃ y, Dc.val (zs.drop (k - 1)) = y := ⟨_, rfl⟩
        rw [hd] at hc hvs hg
        rw [hx] at hvs hvd ⊢
        rw [hy] at hvs hv1
        have hxb : 0 ≤ x ∧ 10 * x + d ≤ 9000000000000000000 := by omega
        obtain ⟨x1, x2⟩ := hxb
        obtain ⟨d1, d2⟩ := hg
        have HY : Hid (Dc.val (zs.drop (k - 1)) = 10 * x + d) := hide (by rw [hy]; omega)
        have ek : ((k : Int) - 1).toNat = k - 1 := by omega
        clear hcell hv1 hvd hvs hy hx hd hm'
        go_wp2
        go_round
        case rel => exact ⟨k - 1, int_eqv (by omega), by omega, by rw [unhide HY]⟩
        case measure => simp [intOf]; omega

theorem add_ref_eq (a b : Int) (hg : (goodB a && goodB b) = true) :
    (decide (a < 0) = decide (b < 0) → (sgnN (decide (a < 0)) ((a.natAbs : Int) + (b.natAbs : Int)), sgnE ((a.natAbs : Int) + (b.natAbs : Int))) = (addN a b, addE a b)) ∧
    (decide (a < 0) ≠ decide (b < 0) → addN a b = a + b ∧ addE a b = 0) := by
  rw [Bool.and_eq_true, goodB_iff, goodB_iff] at hg
  constructor
  · intro hs
    unfold sgnN sgnE addN addE
    by_cases ha : a < 0
    · have hb : b < 0 := by rw [decide_eq_true ha] at hs; exact of_decide_eq_true hs.symm
      rw [decide_eq_true ha]
      by_cases ho : okAdd a b = true
      · have h := (okAdd_iff a b).1 ho
        have hle : ¬ (9000000000000000000 : Int) < (a.natAbs : Int) + (b.natAbs : Int) := by omega
        rw [if_pos ho, if_pos ho, if_neg hle, if_neg hle, if_pos rfl]
        exact Prod.ext (by show -((a.natAbs : Int) + (b.natAbs : Int)) = a + b; omega) rfl
      · have h : ¬ _ := fun h => ho ((okAdd_iff a b).2 h)
        have hgt : (9000000000000000000 : Int) < (a.natAbs : Int) + (b.natAbs : Int) := by omega
        rw [if_neg ho, if_neg ho, if_pos hgt, if_pos hgt]
    · have hb : ¬ b < 0 := by rw [decide_eq_false ha] at hs; exact of_decide_eq_false hs.symm
      rw [decide_eq_false ha]
      by_cases ho : okAdd a b = true
      · have h := (okAdd_iff a b).1 ho
        have hle : ¬ (9000000000000000000 : Int) < (a.natAbs : Int) + (b.natAbs : Int) := by omega
        rw [if_pos ho, if_pos ho, if_neg hle, if_neg hle]
        exact Prod.ext (by show (a.natAbs : Int) + (b.natAbs : Int) = a + b; omega) rfl
      · have h : ¬ _ := fun h => ho ((okAdd_iff a b).2 h)
        have hgt : (9000000000000000000 : Int) < (a.natAbs : Int) + (b.natAbs : Int) := by omega
        rw [if_neg ho, if_neg ho, if_pos hgt, if_pos hgt]
  · intro hs
    have ho : okAdd a b = true := by
      rw [okAdd_iff]
      by_cases ha : a < 0 <;> by_cases hb : b < 0
      · exact absurd (by rw [decide_eq_true ha, decide_eq_true hb]) hs
      · omega
      · omega
      · exact absurd (by rw [decide_eq_false ha, decide_eq_false hb]) hs
    unfold addN addE
    rw [ho]; exact ⟨rfl, rfl⟩

set_option maxRecDepth 100000 in
set_option maxHeartbeats 2000000 in
theorem add_ref (a b : Int) (w : World) (ha1 : -9223372036854775808 ≤ a) (ha2 : a ≤ 9223372036854775807) (hb1 : -9223372036854775808 ≤ b) (hb2 : b ≤ 9223372036854775807) :
    Calls Tryd.prog 10 #[.int .i64 a, .int .i64 b] w fun e w' => PairPost (addN a b, addE a b) w e w' := by
  cases hg : (goodB a && goodB b)
  · have ho : okAdd a b = false := by unfold okAdd; rw [hg]; rfl
    have e : addN a b = 0 ∧ addE a b = 5 := by unfold addN addE; rw [ho]; exact ⟨rfl, rfl⟩
    rw [e.1, e.2]
    clear e ho
    cases ha : goodB a
    · have HA := hide ha
      clear ha hg
      go_enter Tryd.func10, Tryd.ntmps10
      go_wp2_with fail
      refine (good_ref a _).mono ?_
      rintro e w1 ⟨rfl, rfl⟩
      rw [unhide HA]
      go_wp2_with fail
      refine (good_ref b _).mono ?_
      rintro e w2 ⟨rfl, rfl⟩
      go_wp2
      go_ret2
      exact ⟨rfl, Below.refl _ _⟩
    · have hb : goodB b = false := by rw [ha] at hg; exact hg
      have HA := hide ha
      have HB := hide hb
      clear ha hb hg
      go_enter Tryd.func10, Tryd.ntmps10
      go_wp2_with fail
      refine (good_ref a _).mono ?_
      rintro e w1 ⟨rfl, rfl⟩
      rw [unhide HA]
      go_wp2_with fail
      refine (good_ref b _).mono ?_
      rintro e w2 ⟨rfl, rfl⟩
      rw [unhide HB]
      go_wp2
      go_ret2
      exact ⟨rfl, Below.refl _ _⟩
  · obtain ⟨r1, r2⟩ := add_ref_eq a b hg
    have hg' := hg
    rw [Bool.and_eq_true] at hg
    have HA := hide hg.1
    have HB := hide hg.2
    rw [goodB_iff, goodB_iff] at hg
    obtain ⟨⟨a1, a2⟩, b1, b2⟩ := hg
    clear hg'
    by_cases hs : decide (a < 0) = decide (b < 0)
    · have HR := hide (r1 hs)
      have hsb : (decide (a < 0) == decide (b < 0)) = true := by rw [beq_iff_eq]; exact hs
      have HS := hide hs
      clear r1 r2 hs
      go_enter Tryd.func10, Tryd.ntmps10
      go_wp2_with fail
      refine (good_ref a _).mono ?_
      rintro e w1 ⟨rfl, rfl⟩
      rw [unhide HA]
      go_wp2_with fail
      refine (good_ref b _).mono ?_
      rintro e w2 ⟨rfl, rfl⟩
      rw [unhide HB]
      go_wp2_with fail
      refine (digits_ref a _ (by omega) (by omega)).mono ?_
      rintro e w3 ⟨b3, va, xs, rfl, x1, x2, x3, x4, x5⟩
      have X := hide (And.intro x1 (And.intro x2 (And.intro x3 (And.intro x4 x5))))
      clear x1 x2 x3 x4 x5
      go_wp2_with fail
      refine (digits_ref b _ (by omega) (by omega)).mono ?_
      rintro e w4 ⟨b4, vb, ys, rfl, y1, y2, y3, y4, y5⟩
      have Y := hide (And.intro y1 (And.intro y2 (And.intro y3 (And.intro y4 y5))))
      clear y1 y2 y3 y4 y5
      go_wp2_with fail
      refine (plus_ref _ _ xs ys _ (by have := (unhide X).2.2.2.2; omega) (by have := (unhide Y).2.2.2.2; omega) ((unhide X).1.below (Nat.le_refl _) b4) (unhide Y).1 (unhide X).2.1 (unhide Y).2.1).mono ?_
      rintro e w5 ⟨b5, vs, zs, rfl, z1, z2, z3, z4, z5⟩
      have Z : Hid (Arr w5 vs zs ∧ Dc.Dig zs ∧ Dc.Cn zs ∧ Dc.val zs = (a.natAbs : Int) + (b.natAbs : Int) ∧ zs.length ≤ 900) := hide ⟨z1, z2, z3, by rw [z4, (unhide X).2.2.2.1, (unhide Y).2.2.2.1], by have := (unhide X).2.2.2.2; have := (unhide Y).2.2.2.2; omega⟩
      clear z1 z2 z3 z4 z5
      go_wp2_with fail
      refine (number_ref _ zs _ _ (unhide Z).2.2.2.2 (unhide Z).1 (unhide Z).2.1 (unhide Z).2.2.1).mono ?_
      rintro e w6 ⟨rfl, b6⟩
      rw [(unhide Z).2.2.2.1, unhide HR]
      go_wp2
      go_ret2
      exact ⟨rfl, below_next (below_next (below_next b3 b4) b5) b6⟩
    · have HR := hide (r2 hs)
      have hsb : (decide (a < 0) == decide (b < 0)) = false := by rw [beq_eq_false_iff_ne]; exact hs
      have hsum : -9000000000000000000 ≤ a + b ∧ a + b ≤ 9000000000000000000 := by
        by_cases ha : a < 0 <;> by_cases hb : b < 0
        · exact absurd (by rw [decide_eq_true ha, decide_eq_true hb]) hs
        · omega
        · omega
        · exact absurd (by rw [decide_eq_false ha, decide_eq_false hb]) hs
      obtain ⟨s1, s2⟩ := hsum
      have HS := hide hs
      clear r1 r2 hs
      rw [(unhide HR).1, (unhide HR).2]
      go_enter Tryd.func10, Tryd.ntmps10
      go_wp2_with fail
      refine (good_ref a _).mono ?_
      rintro e w1 ⟨rfl, rfl⟩
      rw [unhide HA]
      go_wp2_with fail
      refine (good_ref b _).mono ?_
      rintro e w2 ⟨rfl, rfl⟩
      rw [unhide HB]
      go_wp2
      go_ret2
      exact ⟨rfl, Below.refl _ _⟩

/-- What the reference's Sub tells. -/
def subR (a b : Int) : Int × Int := if goodB b = true then (addN a (-b), addE a (-b)) else (0, 5)
set_option maxHeartbeats 2000000 in
theorem sub_ref (a b : Int) (w : World) (ha1 : -9223372036854775808 ≤ a) (ha2 : a ≤ 9223372036854775807) :
    Calls Tryd.prog 12 #[.int .i64 a, .int .i64 b] w fun e w' => PairPost (subR a b) w e w' := by
  cases hg : goodB b
  · have e : subR a b = (0, 5) := by unfold subR; rw [hg]; rfl
    rw [e]
    have HG := hide hg
    clear hg e
    go_enter Tryd.func12, Tryd.ntmps12
    go_wp2_with fail
    refine (good_ref b _).mono ?_
    rintro e w1 ⟨rfl, rfl⟩
    rw [unhide HG]
    go_wp2
    go_ret2
    exact ⟨rfl, Below.refl _ _⟩
  · have e : subR a b = (addN a (-b), addE a (-b)) := by unfold subR; rw [hg]; rfl
    rw [e]
    have HG := hide hg
    rw [goodB_iff] at hg
    obtain ⟨g1, g2⟩ := hg
    clear e
    go_enter Tryd.func12, Tryd.ntmps12
    go_wp2_with fail
    refine (good_ref b _).mono ?_
    rintro e w1 ⟨rfl, rfl⟩
    rw [unhide HG]
    go_wp2_with fail
    refine (add_ref a (-b) _ ha1 ha2 (by omega) (by omega)).mono ?_
    rintro e w2 ⟨rfl, b2⟩
    go_wp2
    go_ret2
    exact ⟨rfl, b2⟩
end Go.Proofs.YtobkmjjdnfimoaaDoor
