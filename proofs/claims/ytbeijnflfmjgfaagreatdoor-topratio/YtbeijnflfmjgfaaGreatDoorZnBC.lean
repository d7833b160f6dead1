/- The quotient by way of float64 is near that of the numbers. -/
import Derived.BigQuiet
import Derived.BigRegion
import Derived.Deep.CutBlock
import Derived.Deep.CutRange
import Derived.Deep.DeepFit
import Derived.Deep.QuietTactic
import Derived.Deep.RegionHeld3
import Derived.Deep.RegionWith
import Derived.Deep.WholeRow
import Derived.Laws.Bits64b
import Derived.Laws.BitsAllLaws
import Derived.Laws.CopyOwn
import Derived.Laws.FloatArith
import Derived.Laws.IdiomStrings
import Derived.Laws.Rows
import Derived.Laws.StructEq
import Derived.Laws.Tables
import Derived.Lib.BitFns
import Derived.Lib.IndexBytes
import Derived.Lib.ItoaMem
import Derived.Lib.ItoaNum
import Derived.Lib.TrimByte
import Derived.Lib.Walk
import Derived.OwnWalk
import Derived.Shelf.Bits.Mul64
import Derived.Shelf.LaysM
import Derived.Shelf.Small.Bits
import Derived.Shelf.Small.Strs
import Derived.Shelf.Small.Wraps
import Derived.Shelf.Strconv.Itoa0
import Derived.Shelf.Strconv.Itoa1
import Derived.Shelf.Strconv.Itoa2
import Derived.Shelf.Strings.AsciiSet
import Derived.Shelf.Strings.Cut
import Derived.Shelf.Strings.Prefix
import Derived.Shelf.Strings.Search1
import Derived.Shelf.Strings.Search2
import Derived.Shelf.Strings.Shaped
import Derived.Shelf.Strings.Trim
import Derived.Test.YtbeijnflfmjgfaaGreatDoorProg
import Derived.Test.YtbeijnflfmjgfaaGreatDoorRows
import Derived.WalkKit
import Derived.WalkLawsBesides
import Derived.WalkSmall
import Derived.WalkSpells
import Ieee.Arith
import Derived.Test.YtbeijnflfmjgfaaGreatDoorZnAA
import Derived.Test.YtbeijnflfmjgfaaGreatDoorZnAB
import Derived.Test.YtbeijnflfmjgfaaGreatDoorZnAC
import Derived.Test.YtbeijnflfmjgfaaGreatDoorZnAD
import Derived.Test.YtbeijnflfmjgfaaGreatDoorZnAE
import Derived.Test.YtbeijnflfmjgfaaGreatDoorZnAF
import Derived.Test.YtbeijnflfmjgfaaGreatDoorZnAG
import Derived.Test.YtbeijnflfmjgfaaGreatDoorZnAH
import Derived.Test.YtbeijnflfmjgfaaGreatDoorZnAI
import Derived.Test.YtbeijnflfmjgfaaGreatDoorZnAJ
import Derived.Test.YtbeijnflfmjgfaaGreatDoorZnAK
import Derived.Test.YtbeijnflfmjgfaaGreatDoorZnAL
import Derived.Test.YtbeijnflfmjgfaaGreatDoorZnAM
import Derived.Test.YtbeijnflfmjgfaaGreatDoorZnAV
import Derived.Test.YtbeijnflfmjgfaaGreatDoorZnAN
namespace Go.Proofs.YtbeijnflfmjgfaaGreatDoor
open Go.RowKit

theorem div_mg (x y : Nat) (hx1 : 4503599627370496 ≤ Fl.rng x) (hx2 : Fl.rng x < 9218868437227405312) (hy1 : 4503599627370496 ≤ Fl.rng y) (hy2 : Fl.rng y < 9218868437227405312)
    (hlo : Fl.mk (Fl.rng y) ≤ Fl.mk (Fl.rng x) + 1000) (hhi : Fl.mk (Fl.rng x) ≤ Fl.mk (Fl.rng y) + 1000) :
    ∃ q : Nat, Ieee.double.div x y = some (Fl.wordOf (Fl.sgn x ^^ Fl.sgn y) q) ∧ q < 9218868437227405312 ∧
      2251799813685248 * (Fl.mg q * Fl.mg (Fl.rng y)) ≤ 2251799813685248 * (Fl.mg (Fl.rng x) * 2 ^ Fl.kU) + Fl.mg (Fl.rng x) * 2 ^ Fl.kU ∧
      2251799813685248 * (Fl.mg (Fl.rng x) * 2 ^ Fl.kU) ≤ 2251799813685248 * (Fl.mg q * Fl.mg (Fl.rng y)) + Fl.mg (Fl.rng x) * 2 ^ Fl.kU := by
  obtain ⟨d, k, c, f1, f2, f3, f4, f5, f6, f7, f8⟩ := Fl.div_norm x y hx1 hx2 hy1 hy2 hlo hhi
  refine ⟨_, f1, by omega, ?_⟩
  have m1 := Fl.mm_ge _ hx1
  have n1 := Fl.mm_lt (Fl.rng y)
  rw [Fl.mg_kept d k f2 f3, Fl.mg_eq (Fl.rng x), Fl.mg_eq (Fl.rng y)]
  generalize Fl.mm (Fl.rng x) = m at *
  generalize Fl.mm (Fl.rng y) = n at *
  generalize Fl.mk (Fl.rng x) = i at *
  generalize Fl.mk (Fl.rng y) = j at *
  obtain ⟨u, hu⟩ : ∃ u, 2 ^ (i + 1019) = u := ⟨_, rfl⟩
  have e1 : k * 2 ^ d * (n * 2 ^ j) = k * 2 ^ c * n * u := by
    rw [← hu, Nat.mul_mul_mul_comm, ← Nat.pow_add, show d + j = c + (i + 1019) by omega, Nat.pow_add, Nat.mul_mul_mul_comm, Nat.mul_assoc]
    rw [Nat.mul_assoc, Nat.mul_assoc]
  have e2 : m * 2 ^ i * 2 ^ Fl.kU = m * 2 ^ 55 * u := by
    rw [← hu, Nat.mul_assoc, ← Nat.pow_add, show i + Fl.kU = 55 + (i + 1019) by unfold Fl.kU; omega, Nat.pow_add, Nat.mul_assoc]
  rw [e1, e2]
  clear e1 e2 hu f1 hx1 hx2 hy1 hy2
  have e3 : m * 2 ^ 55 = 36028797018963968 * m := by rw [Nat.mul_comm, show (2 : Nat) ^ 55 = 36028797018963968 from by decide]
  rw [e3] at f7 f8 ⊢
  have g0 : 2251799813685248 * (5 * n) ≤ 36028797018963968 * m := by omega
  obtain ⟨K, hK⟩ : ∃ K, k * 2 ^ c * n = K := ⟨_, rfl⟩
  obtain ⟨M, hM⟩ : ∃ M, 36028797018963968 * m = M := ⟨_, rfl⟩
  rw [hK] at f7 f8 ⊢
  rw [hM] at f7 f8 g0 ⊢
  clear hK hM e3
  have g1 : 2251799813685248 * K ≤ 2251799813685248 * M + M := by omega
  have g2 : 2251799813685248 * M ≤ 2251799813685248 * K + M := by omega
  have h1 := Nat.mul_le_mul_right u g1
  have h2 := Nat.mul_le_mul_right u g2
  rw [Nat.add_mul, Nat.mul_assoc, Nat.mul_assoc] at h1 h2
  exact ⟨h1, h2⟩

theorem toI_mg (a : Int) (h0 : a ≠ 0) (h1 : -9000000000000000000 ≤ a) (h2 : a ≤ 9000000000000000000) :
    4503599627370496 ≤ Fl.rng (toI a) ∧ Fl.rng (toI a) < 9218868437227405312 ∧ Fl.sgn (toI a) = decide (a < 0) ∧ 1022 ≤ Fl.mk (Fl.rng (toI a)) ∧ Fl.mk (Fl.rng (toI a)) ≤ 1090 ∧
      2251799813685248 * Fl.mg (Fl.rng (toI a)) ≤ 2251799813685248 * (a.natAbs * 2 ^ Fl.kU) + a.natAbs * 2 ^ Fl.kU ∧
      2251799813685248 * (a.natAbs * 2 ^ Fl.kU) ≤ 2251799813685248 * Fl.mg (Fl.rng (toI a)) + a.natAbs * 2 ^ Fl.kU := by
  obtain ⟨k, e0, K, hl⟩ := toI_norm a h0 h1 h2
  have hp := Nat.log2_self_le (show a.natAbs ≠ 0 by omega)
  obtain ⟨l, hll⟩ : ∃ l, a.natAbs.log2 = l := ⟨_, rfl⟩
  obtain ⟨n, hn⟩ : ∃ n, a.natAbs = n := ⟨_, rfl⟩
  rw [hll] at e0 hl hp
  rw [hn] at K hll hp
  have kl := K.low
  have kh := K.high
  have hs : Fl.sgn (toI a) = decide (a < 0) := by rw [e0]; exact Fl.sgn_word _ _ (by omega)
  have hr : Fl.rng (toI a) = (l + 1022) * 4503599627370496 + k := by rw [e0]; exact Fl.rng_word _ _ (by omega)
  rw [hs, hr, hn]
  refine ⟨by omega, by omega, rfl, by unfold Fl.mk; omega, by unfold Fl.mk; omega, ?_⟩
  rw [Fl.mg_kept _ k kl kh]
  rcases Nat.lt_or_ge 52 l with h | h
  · have ka := K.above (by omega)
    have kb := K.below (by omega)
    rw [hll] at ka kb
    obtain ⟨s, rfl⟩ : ∃ s, l = s + 52 := ⟨l - 52, by omega⟩
    rw [Nat.add_sub_cancel] at ka kb
    have e : k * 2 ^ (s + 52 + 1022) = k * 2 ^ s * 2 ^ Fl.kU := by rw [show s + 52 + 1022 = s + Fl.kU by unfold Fl.kU; omega, Nat.pow_add 2 s Fl.kU, ← Nat.mul_assoc]
    rw [e]
    clear e
    rw [Nat.pow_add, Nat.mul_comm, show (2 : Nat) ^ 52 = 4503599627370496 from by decide] at hp
    clear hr hs e0 K kl kh hll hn h0 h1 h2
    obtain ⟨X, hX⟩ : ∃ X, k * 2 ^ s = X := ⟨_, rfl⟩
    obtain ⟨t, ht⟩ : ∃ t, 2 ^ s = t := ⟨_, rfl⟩
    obtain ⟨u, hu⟩ : ∃ u, 2 ^ Fl.kU = u := ⟨_, rfl⟩
    rw [hX] at ka kb ⊢
    rw [ht] at ka kb hp
    rw [hu]
    clear hX ht hu
    have g1 : 2251799813685248 * X ≤ 2251799813685248 * n + n := by omega
    have g2 : 2251799813685248 * n ≤ 2251799813685248 * X + n := by omega
    have h1 := Nat.mul_le_mul_right u g1
    have h2 := Nat.mul_le_mul_right u g2
    rw [Nat.add_mul, Nat.mul_assoc, Nat.mul_assoc] at h1 h2
    exact ⟨h1, h2⟩
  · have ke := K.exact (by omega)
    rw [hll] at ke
    have e : k * 2 ^ (l + 1022) = n * 2 ^ Fl.kU := by
      rw [ke, Nat.mul_assoc, ← Nat.pow_add, show 52 - l + (l + 1022) = Fl.kU by unfold Fl.kU; omega]
    rw [e]
    clear hr hs e0 K kl kh hll hn h0 h1 h2 e ke hp
    generalize n * 2 ^ Fl.kU = z
    exact ⟨by omega, by omega⟩

theorem mg_10000 : Fl.mg (Fl.rng 4666723172467343360) = 10000 * 2 ^ Fl.kU := by
  have h0 : Fl.rng 4666723172467343360 = 4666723172467343360 := by decide
  have h1 : Fl.mm 4666723172467343360 = 10000 * 2 ^ 39 := by decide
  have h2 : Fl.mk 4666723172467343360 = 1035 := by decide
  have h3 : Fl.kU - Fl.mk 4666723172467343360 = 39 := by rw [h2]; rfl
  have u := Fl.un_split (Fl.mk 4666723172467343360) (by rw [h2]; decide)
  have e := Fl.mg_eq 4666723172467343360
  rw [h3] at u
  obtain ⟨z, hz⟩ : ∃ z, 2 ^ Fl.mk 4666723172467343360 = z := ⟨_, rfl⟩
  rw [hz] at u e
  rw [h1, Nat.mul_assoc, ← u] at e
  rw [h0]
  exact e

theorem toF_mg (a : Int) (h0 : a ≠ 0) (h1 : -9000000000000000000 ≤ a) (h2 : a ≤ 9000000000000000000) :
    562949953421312 * (10000 * Fl.mg (Fl.rng (toF a))) ≤ 562949953421312 * (a.natAbs * 2 ^ Fl.kU) + a.natAbs * 2 ^ Fl.kU ∧
      562949953421312 * (a.natAbs * 2 ^ Fl.kU) ≤ 562949953421312 * (10000 * Fl.mg (Fl.rng (toF a))) + a.natAbs * 2 ^ Fl.kU := by
  obtain ⟨r1, r2, rs, r3, r4, n1, n2⟩ := toI_mg a h0 h1 h2
  have y1 : Fl.rng 4666723172467343360 = 4666723172467343360 := by decide
  have y2 : Fl.mk 4666723172467343360 = 1035 := by decide
  obtain ⟨q, e, hq, d1, d2⟩ := div_mg (toI a) 4666723172467343360 r1 r2 (by rw [y1]; decide) (by rw [y1]; decide) (by rw [y1, y2]; omega) (by rw [y1, y2]; omega)
  have hw : Fl.rng (toF a) = q := by
    unfold toF
    rw [e]
    exact Fl.rng_word _ _ (by omega)
  rw [hw]
  rw [mg_10000] at d1 d2
  clear hw e y1 y2 r1 r2 r3 r4 rs hq
  have hu := Fl.un_pos
  obtain ⟨T, hT⟩ : ∃ T, Fl.mg (Fl.rng (toI a)) = T := ⟨_, rfl⟩
  obtain ⟨Q, hQ⟩ : ∃ Q, Fl.mg q = Q := ⟨_, rfl⟩
  obtain ⟨u, hU⟩ : ∃ u, 2 ^ Fl.kU = u := ⟨_, rfl⟩
  obtain ⟨m, hm⟩ : ∃ m, a.natAbs = m := ⟨_, rfl⟩
  rw [hT] at n1 n2 d1 d2
  rw [hQ] at d1 d2 ⊢
  rw [hU] at n1 n2 d1 d2 hu ⊢
  rw [hm] at n1 n2 ⊢
  clear hT hQ hU hm
  have e : Q * (10000 * u) = 10000 * Q * u := by rw [← Nat.mul_assoc, Nat.mul_comm Q]
  rw [e] at d1 d2
  have c1 : 2251799813685248 * (10000 * Q) ≤ 2251799813685248 * T + T := by
    refine Nat.le_of_mul_le_mul_right (c := u) ?_ hu
    rw [Nat.add_mul, Nat.mul_assoc _ _ u, Nat.mul_assoc _ T u]
    exact d1
  have c2 : 2251799813685248 * T ≤ 2251799813685248 * (10000 * Q) + T := by
    refine Nat.le_of_mul_le_mul_right (c := u) ?_ hu
    rw [Nat.add_mul, Nat.mul_assoc _ T u, Nat.mul_assoc _ _ u]
    exact d2
  clear e d1 d2
  generalize 10000 * Q = Y at *
  generalize m * u = z at *
  exact ⟨by omega, by omega⟩

theorem lift_up (C k X Y r : Nat) (h : C * (k * X) ≤ C * Y + Y) : C * (k * (r * X)) ≤ C * (r * Y) + r * Y := by
  have := Nat.mul_le_mul_left r h
  rw [Nat.mul_add, Nat.mul_left_comm r C, Nat.mul_left_comm r k, Nat.mul_left_comm r C] at this
  exact this
theorem lift_down (C k X Y r : Nat) (h : C * Y ≤ C * (k * X) + Y) : C * (r * Y) ≤ C * (k * (r * X)) + r * Y := by
  have := Nat.mul_le_mul_left r h
  rw [Nat.mul_add, Nat.mul_left_comm r C Y, Nat.mul_left_comm r C, Nat.mul_left_comm r k] at this
  exact this
theorem quo_mg (a b : Int) (a0 : a ≠ 0) (b0 : b ≠ 0) (a1 : -9000000000000000000 ≤ a) (a2 : a ≤ 9000000000000000000) (b1 : -9000000000000000000 ≤ b) (b2 : b ≤ 9000000000000000000) :
    ∃ q : Nat, ratW a b = Fl.wordOf (decide (a < 0) ^^ decide (b < 0)) q ∧ q < 9218868437227405312 ∧
      140737488355328 * (Fl.mg q * b.natAbs) ≤ 140737488355328 * (a.natAbs * 2 ^ Fl.kU) + a.natAbs * 2 ^ Fl.kU ∧
      140737488355328 * (a.natAbs * 2 ^ Fl.kU) ≤ 140737488355328 * (Fl.mg q * b.natAbs) + a.natAbs * 2 ^ Fl.kU := by
  obtain ⟨d, k, _, e, k1, k2, d1, d2⟩ := toF_norm a a0 a1 a2
  obtain ⟨d', k', _, e', k1', k2', d1', d2'⟩ := toF_norm b b0 b1 b2
  have r1 : Fl.rng (toF a) = d * 4503599627370496 + k := by rw [e]; exact Fl.rng_word _ _ (by omega)
  have r2 : Fl.rng (toF b) = d' * 4503599627370496 + k' := by rw [e']; exact Fl.rng_word _ _ (by omega)
  have s1 : Fl.sgn (toF a) = decide (a < 0) := by rw [e]; exact Fl.sgn_word _ _ (by omega)
  have s2 : Fl.sgn (toF b) = decide (b < 0) := by rw [e']; exact Fl.sgn_word _ _ (by omega)
  have m1 : d ≤ Fl.mk (Fl.rng (toF a)) ∧ Fl.mk (Fl.rng (toF a)) ≤ d + 1 := by rw [r1]; unfold Fl.mk; omega
  have m2 : d' ≤ Fl.mk (Fl.rng (toF b)) ∧ Fl.mk (Fl.rng (toF b)) ≤ d' + 1 := by rw [r2]; unfold Fl.mk; omega
  obtain ⟨na1, na2⟩ := toF_mg a a0 a1 a2
  obtain ⟨nb1, nb2⟩ := toF_mg b b0 b1 b2
  obtain ⟨q, eq, hq, g1, g2⟩ := div_mg (toF a) (toF b) (by rw [r1]; omega) (by rw [r1]; omega) (by rw [r2]; omega) (by rw [r2]; omega) (by omega) (by omega)
  rw [s1, s2] at eq
  refine ⟨q, by unfold ratW; rw [eq]; rfl, hq, ?_⟩
  clear eq e e' r1 r2 s1 s2 m1 m2 d1 d2 d1' d2' k1 k2 k1' k2' hq a0 a1 a2 b0 b1 b2
  have hu := Fl.un_pos
  obtain ⟨A, hA⟩ : ∃ A, Fl.mg (Fl.rng (toF a)) = A := ⟨_, rfl⟩
  obtain ⟨B, hB⟩ : ∃ B, Fl.mg (Fl.rng (toF b)) = B := ⟨_, rfl⟩
  obtain ⟨R, hR⟩ : ∃ R, Fl.mg q = R := ⟨_, rfl⟩
  obtain ⟨u, hU⟩ : ∃ u, 2 ^ Fl.kU = u := ⟨_, rfl⟩
  obtain ⟨m, hm⟩ : ∃ m, a.natAbs = m := ⟨_, rfl⟩
  obtain ⟨n, hn⟩ : ∃ n, b.natAbs = n := ⟨_, rfl⟩
  rw [hA] at na1 na2 g1 g2
  rw [hB] at nb1 nb2 g1 g2
  rw [hR] at g1 g2 ⊢
  rw [hU] at na1 na2 nb1 nb2 g1 g2 hu ⊢
  rw [hm] at na1 na2 ⊢
  rw [hn] at nb1 nb2 ⊢
  clear hA hB hR hU hm hn
  have x1 := lift_up _ _ _ _ R nb1
  have x2 := lift_down _ _ _ _ R nb2
  have y1 := lift_up _ _ _ _ u na1
  have y2 := lift_down _ _ _ _ u na2
  rw [← Nat.mul_assoc R n u] at x1 x2
  rw [Nat.mul_comm u A, Nat.mul_comm u (m * u)] at y1 y2
  obtain ⟨α, hα⟩ : ∃ α, R * B = α := ⟨_, rfl⟩
  obtain ⟨β, hβ⟩ : ∃ β, R * n * u = β := ⟨_, rfl⟩
  obtain ⟨γ, hγ⟩ : ∃ γ, A * u = γ := ⟨_, rfl⟩
  obtain ⟨δ, hδ⟩ : ∃ δ, m * u * u = δ := ⟨_, rfl⟩
  rw [hα] at x1 x2 g1 g2
  rw [hβ] at x1 x2
  rw [hγ] at y1 y2 g1 g2
  rw [hδ] at y1 y2
  have z1 : 140737488355328 * β ≤ 140737488355328 * δ + δ := by omega
  have z2 : 140737488355328 * δ ≤ 140737488355328 * β + δ := by omega
  constructor
  · refine Nat.le_of_mul_le_mul_right (c := u) ?_ hu
    rw [Nat.add_mul, Nat.mul_assoc _ _ u, Nat.mul_assoc _ (m * u) u, hβ, hδ]
    exact z1
  · refine Nat.le_of_mul_le_mul_right (c := u) ?_ hu
    rw [Nat.add_mul, Nat.mul_assoc 140737488355328 (m * u) u, Nat.mul_assoc 140737488355328 (R * n) u, hβ, hδ]
    exact z2

theorem near_parts (R m n u : Nat) (hn : 0 < n) (hu : 0 < u) (hm : m < 1073741824) (h1 : 140737488355328 * (R * n) ≤ 140737488355328 * (m * u) + m * u) (h2 : 140737488355328 * (m * u) ≤ 140737488355328 * (R * n) + m * u)
    (P N : Nat) (p1 : P * (2 * u) ≤ 20000 * R + u) (p2 : 20000 * R + u < (P + 1) * (2 * u)) (q1 : N * (2 * n) ≤ 20000 * m + n) (q2 : 20000 * m + n < (N + 1) * (2 * n)) : P ≤ N + 1 ∧ N ≤ P + 1 := by
  have a1 := Nat.mul_le_mul_right n p1
  have a2 := Nat.mul_lt_mul_of_pos_right p2 hn
  have b1 := Nat.mul_le_mul_right u q1
  have b2 := Nat.mul_lt_mul_of_pos_right q2 hu
  obtain ⟨ω, hω⟩ : ∃ ω, n * u = ω := ⟨_, rfl⟩
  obtain ⟨ρ, hρ⟩ : ∃ ρ, R * n = ρ := ⟨_, rfl⟩
  obtain ⟨σ, hσ⟩ : ∃ σ, m * u = σ := ⟨_, rfl⟩
  have hs : σ ≤ 1073741823 * ω := by
    rw [← hσ, ← hω, ← Nat.mul_assoc]
    exact Nat.mul_le_mul_right u (by omega)
  have hw : 0 < ω := by rw [← hω]; exact Nat.mul_pos hn hu
  have t1 : ∀ x, x * (2 * u) * n = 2 * (x * ω) := fun x => by rw [← hω, Nat.mul_left_comm, Nat.mul_assoc 2, Nat.mul_assoc x, Nat.mul_comm u]
  have t2 : (20000 * R + u) * n = 20000 * ρ + ω := by rw [← hρ, ← hω, Nat.add_mul, Nat.mul_assoc, Nat.mul_comm u]
  have t3 : ∀ x, x * (2 * n) * u = 2 * (x * ω) := fun x => by rw [← hω, Nat.mul_left_comm, Nat.mul_assoc 2, Nat.mul_assoc x]
  have t4 : (20000 * m + n) * u = 20000 * σ + ω := by rw [← hσ, ← hω, Nat.add_mul, Nat.mul_assoc]
  rw [t1, t2] at a1
  rw [t1, t2] at a2
  rw [t3, t4] at b1
  rw [t3, t4] at b2
  rw [hρ, hσ] at h1 h2
  clear t1 t2 t3 t4 p1 p2 q1 q2
  constructor
  · rcases Nat.lt_or_ge (N + 1) P with h | h
    · exfalso
      have h3 := Nat.mul_le_mul_right ω (show N + 2 ≤ P by omega)
      rw [Nat.add_mul] at h3 b2
      clear hω hρ hσ a2 b1 h hm
      generalize N * ω = ν at *
      generalize P * ω = π at *
      omega
    · exact h
  · rcases Nat.lt_or_ge (P + 1) N with h | h
    · exfalso
      have h3 := Nat.mul_le_mul_right ω (show P + 2 ≤ N by omega)
      rw [Nat.add_mul] at h3 a2
      clear hω hρ hσ a1 b2 h hm
      generalize N * ω = ν at *
      generalize P * ω = π at *
      omega
    · exact h
theorem nr_bound (x z : Nat) (hz : 0 < z) : (x / z + (if z ≤ 2 * (x % z) then 1 else 0)) * (2 * z) ≤ 2 * x + z ∧ 2 * x + z < (x / z + (if z ≤ 2 * (x % z) then 1 else 0) + 1) * (2 * z) := by
  have hd := Nat.div_add_mod x z
  have hm := Nat.mod_lt x hz
  generalize x / z = q at hd ⊢
  generalize x % z = r at hd hm ⊢
  have e : ∀ y, y * (2 * z) = 2 * (y * z) := fun y => Nat.mul_left_comm y 2 z
  rw [e, e]
  rw [Nat.mul_comm] at hd
  by_cases h : z ≤ 2 * r
  · rw [if_pos h, Nat.add_mul (q + 1), Nat.add_mul q 1 z, Nat.one_mul]
    generalize q * z = y at *
    exact ⟨by omega, by omega⟩
  · rw [if_neg h, Nat.add_zero, Nat.add_mul q 1 z, Nat.one_mul]
    generalize q * z = y at *
    exact ⟨by omega, by omega⟩
theorem div_bound (Z d : Nat) (hd : 0 < d) : Z / d * d ≤ Z ∧ Z < (Z / d + 1) * d := ⟨Nat.div_mul_le_self _ _, by rw [Nat.mul_comm]; exact Nat.lt_mul_div_succ _ hd⟩
theorem frq_bound (q : Nat) : frq q * (2 * 2 ^ Fl.kU) ≤ 20000 * Fl.mg q + 2 ^ Fl.kU ∧ 20000 * Fl.mg q + 2 ^ Fl.kU < (frq q + 1) * (2 * 2 ^ Fl.kU) := by
  unfold frq
  rw [Nat.pow_succ, Nat.mul_comm (Fl.mg q), Nat.mul_comm (2 ^ Fl.kU) 2]
  have hu : 0 < 2 * 2 ^ Fl.kU := by have := Fl.un_pos; omega
  exact div_bound _ _ hu
theorem sgn_if (s : Bool) (N : Nat) (h : N ≤ 9000000000000000000) : (sgnN s (N : Nat), sgnE (N : Nat)) = ((if s = true then -(N : Int) else (N : Int)), (0 : Int)) := by
  have hs : ¬ (9000000000000000000 : Int) < (N : Nat) := by omega
  simp only [sgnN, sgnE, if_neg hs]
theorem top_quo (a b : Int) (b0 : b ≠ 0) (a1 : -1073741824 < a) (a2 : a < 1073741824) (b1 : -1152921504606846976 < b) (b2 : b < 1152921504606846976) :
    ∃ P N : Nat, P ≤ 9000000000000000000 ∧ N ≤ 9000000000000000000 ∧ P ≤ N + 1 ∧ N ≤ P + 1 ∧
      frN (ratW a b) = (if (decide (a < 0) != decide (b < 0)) = true then -(P : Int) else (P : Int)) ∧ frE (ratW a b) = 0 ∧
      divR a b = ((if (decide (a < 0) != decide (b < 0)) = true then -(N : Int) else (N : Int)), 0) := by
  obtain ⟨N, hN⟩ : ∃ N, a.natAbs * 10000 / b.natAbs + (if b.natAbs ≤ 2 * (a.natAbs * 10000 % b.natAbs) then 1 else 0) = N := ⟨_, rfl⟩
  have hle := Nat.div_le_self (a.natAbs * 10000) b.natAbs
  have hN2 : N ≤ 10737418240001 := by rw [← hN]; split <;> omega
  have hd : divR a b = ((if (decide (a < 0) != decide (b < 0)) = true then -(N : Int) else (N : Int)), 0) := by
    unfold divR
    rw [(goodB_iff a).2 (by omega), (goodB_iff b).2 (by omega), Bool.and_self, if_pos rfl, if_neg b0]
    unfold scR nrV
    have ho : nrOk a.natAbs 10000 b.natAbs = true := by unfold nrOk; exact decide_eq_true (by omega)
    rw [ho, if_pos rfl, if_pos rfl, hN]
    exact sgn_if _ N (by omega)
  have hb := nr_bound (a.natAbs * 10000) b.natAbs (by omega)
  rw [hN, show 2 * (a.natAbs * 10000) = 20000 * a.natAbs by omega] at hb
  by_cases a0 : a = 0
  · subst a0
    obtain ⟨r, e, _, hc⟩ := quo_low b b0 (by omega) (by omega)
    have hw : ratW 0 b = r := by unfold ratW; rw [e]; rfl
    have hr : Fl.rng r = 0 := by
      unfold clsV ratC at hc
      rw [if_neg b0, if_pos rfl] at hc
      by_cases h1 : 9218868437227405312 < Fl.rng r
      · rw [if_pos h1] at hc; split at hc <;> omega
      · rw [if_neg h1] at hc
        by_cases h2 : Fl.rng r = 9218868437227405312
        · rw [if_pos h2] at hc; split at hc <;> split at hc <;> omega
        · rw [if_neg h2] at hc
          by_cases h3 : Fl.rng r = 0
          · exact h3
          · rw [if_neg h3] at hc; split at hc <;> split at hc <;> omega
    have hf : frq 0 = 0 := by
      unfold frq
      rw [Fl.mg_zero, Nat.pow_succ]
      have := Fl.un_pos
      rw [Nat.zero_mul, Nat.zero_add, Nat.mul_comm]
      exact Nat.div_eq_of_lt (by omega)
    have hN0 : N = 0 := by
      rw [← hN]
      simp
      omega
    subst hN0
    refine ⟨0, 0, by omega, by omega, by omega, by omega, ?_, ?_, hd⟩
    · rw [hw]; unfold frN; rw [hr, if_neg (by omega), hf, if_neg (by omega)]; split <;> split <;> rfl
    · rw [hw]; unfold frE; rw [hr, if_neg (by omega), if_neg (by omega), hf, if_neg (by omega)]
  · obtain ⟨q, hq, hq2, g1, g2⟩ := quo_mg a b a0 b0 (by omega) (by omega) (by omega) (by omega)
    have hp := frq_bound q
    obtain ⟨c1, c2⟩ := near_parts (Fl.mg q) a.natAbs b.natAbs (2 ^ Fl.kU) (by omega) Fl.un_pos (by omega) g1 g2 (frq q) N hp.1 hp.2 hb.1 hb.2
    have hrw : Fl.rng (ratW a b) = q := by rw [hq]; exact Fl.rng_word _ _ (by omega)
    have hsw : Fl.sgn (ratW a b) = (decide (a < 0) != decide (b < 0)) := by rw [hq]; exact Fl.sgn_word _ _ (by omega)
    refine ⟨frq q, N, by omega, by omega, c1, c2, ?_, ?_, hd⟩
    · unfold frN; rw [hrw, hsw, if_neg (by omega), if_neg (by omega)]
    · unfold frE; rw [hrw, if_neg (by omega), if_neg (by omega), if_neg (by omega)]
theorem top_calls (a b : Int) (a1 : -1073741824 < a) (a2 : a < 1073741824) (b1 : -1152921504606846976 < b) (b2 : b < 1152921504606846976) :
    (callV [82, 65, 84, 73, 79] [⟨1, a, noText, false, 0⟩, ⟨1, b, noText, false, 0⟩] = vE 1 ∧ binS [47] (vSound ⟨1, a, noText, false, 0⟩) (vSound ⟨1, b, noText, false, 0⟩) = vE 1) ∨
    ∃ P N : Int, callV [82, 65, 84, 73, 79] [⟨1, a, noText, false, 0⟩, ⟨1, b, noText, false, 0⟩] = ⟨1, P, noText, false, 0⟩ ∧
      binS [47] (vSound ⟨1, a, noText, false, 0⟩) (vSound ⟨1, b, noText, false, 0⟩) = ⟨1, N, noText, false, 0⟩ ∧ -1 ≤ P - N ∧ P - N ≤ 1 ∧ -9000000000000000000 ≤ P ∧ P ≤ 9000000000000000000 ∧ -9000000000000000000 ≤ N ∧ N ≤ 9000000000000000000 := by
  have ga : goodB a = true := by rw [goodB_iff]; omega
  have gb : goodB b = true := by rw [goodB_iff]; omega
  have ea : asNumV (vSound ⟨1, a, noText, false, 0⟩) = (a, 0) := by rw [← good_n ga]; exact vN_num ga
  have eb : asNumV (vSound ⟨1, b, noText, false, 0⟩) = (b, 0) := by rw [← good_n gb]; exact vN_num gb
  have hc : callV [82, 65, 84, 73, 79] [⟨1, a, noText, false, 0⟩, ⟨1, b, noText, false, 0⟩] = ratV a b := by
    unfold callV
    rw [show takesL [82, 65, 84, 73, 79] = 2 from by decide, if_neg (by omega), if_neg (by simp)]
    simp only [numsV, ea, eb]
    rfl
  have hq : binS [47] (vSound ⟨1, a, noText, false, 0⟩) (vSound ⟨1, b, noText, false, 0⟩) = toldV (divR a b) := by
    unfold binS
    rw [show lineL [47] = 4 from by decide, if_neg (by omega), if_neg (by omega), if_neg (by omega), ea, eb]
    unfold bothV
    rw [if_neg (by simp), if_neg (by simp)]
    rfl
  rw [hc, hq]
  by_cases b0 : b = 0
  · left
    subst b0
    refine ⟨by unfold ratV; rw [if_pos rfl], ?_⟩
    unfold divR
    rw [ga, gb, Bool.and_self, if_pos rfl, if_pos rfl]
    rfl
  · right
    obtain ⟨P, N, p1, n1, c1, c2, f1, f2, hd⟩ := top_quo a b b0 a1 a2 b1 b2
    have hs : ∀ Z : Int, goodB Z = true → toldV (Z, 0) = ⟨1, Z, noText, false, 0⟩ := fun Z hZ => good_n hZ
    unfold ratV
    rw [if_neg b0, f1, f2, hd]
    cases (decide (a < 0) != decide (b < 0))
    · rw [if_neg (by decide), if_neg (by decide)]
      exact ⟨P, N, hs _ (by rw [goodB_iff]; omega), hs _ (by rw [goodB_iff]; omega), by omega, by omega, by omega, by omega, by omega, by omega⟩
    · rw [if_pos rfl, if_pos rfl]
      exact ⟨-P, -N, hs _ (by rw [goodB_iff]; omega), hs _ (by rw [goodB_iff]; omega), by omega, by omega, by omega, by omega, by omega, by omega⟩
end Go.Proofs.YtbeijnflfmjgfaaGreatDoor

namespace Go.Proofs.YtbeijnflfmjgfaaGreatDoor
open Go.RowKit

theorem wk_rat : callV [82, 65, 84, 73, 79] [⟨1, 10000, noText, false, 0⟩, ⟨1, 40000, noText, false, 0⟩] = ⟨1, 2500, noText, false, 0⟩ := by kernel_rfl

set_option maxRecDepth 100000 in
set_option maxHeartbeats 8000000 in
theorem wakes_top (hp : PNums) (w : World) (he : Env3 w) : Calls Tryz.prog 28 #[] w fun e w' => e = .returned (.bool true) ∧ Below w.heap.size w w' := by
  have HE := hide he
  clear he
  have HP := hide hp
  clear hp
  have HB := hide (Below.refl w.heap.size w)
  have HN10000 := hide (fun w => n_val 10000 w)
  rw [show vN 10000 = ⟨1, 10000, noText, false, 0⟩ from by kernel_rfl] at HN10000
  have HN40000 := hide (fun w => n_val 40000 w)
  rw [show vN 40000 = ⟨1, 40000, noText, false, 0⟩ from by kernel_rfl] at HN40000
  have HN2500 := hide (fun w => n_val 2500 w)
  rw [show vN 2500 = ⟨1, 2500, noText, false, 0⟩ from by kernel_rfl] at HN2500
  have HC := hide (fun va w (h : ValsAt w va [⟨1, 10000, noText, false, 0⟩, ⟨1, 40000, noText, false, 0⟩]) (he : Env3 w) => (unhide HP).call ⟨#[82, 65, 84, 73, 79]⟩ va [⟨1, 10000, noText, false, 0⟩, ⟨1, 40000, noText, false, 0⟩] w (by decide) (by decide) (by decide) h he)
  rw [ByteArray.toList_eq, wk_rat, show callB [82, 65, 84, 73, 79] = true from by decide] at HC
  unfold Vl.cells noText at HN10000 HN40000 HN2500 HC
  simp only [] at HN10000 HN40000 HN2500 HC
  go_enter Tryz.func28, Tryz.ntmps28
  go_wp2_with fail
  refine (unhide HN10000 _).mono ?_
  rintro e w1 ⟨rfl, b1⟩
  replace HB := hide (below_nx (unhide HB) b1)
  clear b1
  go_wp2_with fail
  refine (unhide HN40000 _).mono ?_
  rintro e w2 ⟨rfl, b2⟩
  replace HB := hide (below_nx (unhide HB) b2)
  clear b2
  go_wp2_with fail
  refine (unhide HC _ _ (vals_two w2 _ ⟨1, 10000, noText, false, 0⟩ ⟨1, 40000, noText, false, 0⟩) ((unhide HE).below (below_nx (unhide HB) (below_al w2 _)))).mono ?_
  rintro e w3 ⟨rfl, b3⟩
  replace b3 := below_nx (below_al w2 _) b3
  replace HB := hide (below_nx (unhide HB) b3)
  clear b3
  have X1 := hide (five_new w3 28 (.int .i64 1) (.int .i64 2500) (.string ⟨#[]⟩) (.bool false) (.int .i64 0))
  have bb := below_al w3 (.cells #[.int .i64 1, .int .i64 2500, .string ⟨#[]⟩, .bool false, .int .i64 0] 28)
  replace HB := hide (below_nx (unhide HB) bb)
  clear bb
  go_upto_region 2 with fail
  generalize hW : w3.alloc (.cells #[.int .i64 1, .int .i64 2500, .string ⟨#[]⟩, .bool false, .int .i64 0] 28) = W4 at X1 HB  ⊢
  clear hW
  have hq0 := fun w => vl_eq 1 2500 ⟨#[]⟩ false 0 1 2500 ⟨#[]⟩ false 0 w
  simp only [show vEq ⟨1, 2500, ⟨#[]⟩, false, 0⟩ ⟨1, 2500, ⟨#[]⟩, false, 0⟩ = true from by kernel_rfl] at hq0
  replace X1 := hide (five_drew (unhide X1))
  replace HB := hide (unhide HB).drew
  obtain ⟨x1_0, x1_1, x1_2, x1_3, x1_4⟩ := five_cells (unhide X1)
  go_region_held3 (fun w' => w'.cell? ⟨w3.heap.size, 0, none⟩ = some (.int .i64 1) ∧ w'.cell? ⟨w3.heap.size, 1, none⟩ = some (.int .i64 2500) ∧ w'.cell? ⟨w3.heap.size, 2, none⟩ = some (.string ⟨#[]⟩) ∧ w'.cell? ⟨w3.heap.size, 3, none⟩ = some (.bool false) ∧ w'.cell? ⟨w3.heap.size, 4, none⟩ = some (.int .i64 0)) (first | exact ⟨x1_0, x1_1, x1_2, x1_3, x1_4⟩ | go_keep)
    ((go_at_call 25; refine (unhide HN2500 _).mono ?_; rintro e yy ⟨rfl, zz⟩; replace X1 := hide (five_below (unhide X1) zz (five_lt (unhide X1))); replace HB := hide (below_nx (unhide HB) zz); clear zz x1_0 x1_1 x1_2 x1_3 x1_4; obtain ⟨x1_0, x1_1, x1_2, x1_3, x1_4⟩ := five_cells (unhide X1)))
  all_goals (try go_wp2_with fail)
  all_goals go_ret
  all_goals exact ⟨rfl, unhide HB⟩

set_option maxRecDepth 100000 in
set_option maxHeartbeats 8000000 in
theorem top_law (hp : PNums) (a b : Int) (w : World) (he : Env3 w) :
    Calls Tryz.prog 9 #[.int .i64 a, .int .i64 b] w fun e w' => e = .returned (.bool true) ∧ Below w.heap.size w w' := by
  have HE := hide he
  clear he
  have HP := hide hp
  clear hp
  have HWK := hide (fun w he => wakes_top (unhide HP) w he)
  have hA : -1073741824 < a.tmod 1073741824 ∧ a.tmod 1073741824 < 1073741824 := by
    have h : (a.tmod 1073741824).natAbs = a.natAbs % 1073741824 := Int.natAbs_tmod a _
    omega
  have hD : -1152921504606846976 < b.tmod 1152921504606846976 ∧ b.tmod 1152921504606846976 < 1152921504606846976 := by
    have h : (b.tmod 1152921504606846976).natAbs = b.natAbs % 1152921504606846976 := Int.natAbs_tmod b _
    omega
  obtain ⟨A, eA⟩ : ∃ A, a.tmod 1073741824 = A := ⟨_, rfl⟩
  obtain ⟨D, eD⟩ : ∃ D, b.tmod 1152921504606846976 = D := ⟨_, rfl⟩
  rw [eA] at hA
  rw [eD] at hD
  obtain ⟨A1, A2⟩ := hA
  obtain ⟨D1, D2⟩ := hD
  have gA : goodB A = true := by rw [goodB_iff]; omega
  have gD : goodB D = true := by rw [goodB_iff]; omega
  have HN1 := hide (fun w => n_val A w)
  have HN2 := hide (fun w => n_val D w)
  rw [good_n gA] at HN1
  rw [good_n gD] at HN2
  have ht : noText.size ≤ 1000 := by decide
  have hc := top_calls A D A1 A2 D1 D2
  have HC1 := hide (fun va w (h : ValsAt w va [⟨1, A, noText, false, 0⟩, ⟨1, D, noText, false, 0⟩]) (he : Env3 w) => (unhide HP).call ⟨#[82, 65, 84, 73, 79]⟩ va [⟨1, A, noText, false, 0⟩, ⟨1, D, noText, false, 0⟩] w (by decide) (by simp) (by intro x hx; simp at hx; rcases hx with rfl | rfl <;> exact ht) h he)
  have HC2 := hide (fun w (he : Env3 w) => (unhide HP).bin ⟨#[47]⟩ ⟨1, A, noText, false, 0⟩ ⟨1, D, noText, false, 0⟩ w (by decide) ht ht he)
  rw [ByteArray.toList_eq, show callB [82, 65, 84, 73, 79] = true from by decide] at HC1
  rw [ByteArray.toList_eq, show binB [47] = true from by decide] at HC2
  obtain ⟨U, eU⟩ : ∃ U, callV [82, 65, 84, 73, 79] [⟨1, A, noText, false, 0⟩, ⟨1, D, noText, false, 0⟩] = U := ⟨_, rfl⟩
  obtain ⟨V, eV⟩ : ∃ V, binS [47] (vSound ⟨1, A, noText, false, 0⟩) (vSound ⟨1, D, noText, false, 0⟩) = V := ⟨_, rfl⟩
  rw [eU] at HC1
  rw [eV] at HC2
  rw [eU, eV] at hc
  have HR : Hid ((U = V ∧ V.kind = 4) ∨ (U.kind = 1 ∧ V.kind = 1 ∧ -1 ≤ U.num - V.num ∧ U.num - V.num ≤ 1)) := hide (by
    rcases hc with ⟨h1, h2⟩ | ⟨P, N, h1, h2, h3, h4, _⟩
    · exact Or.inl ⟨by rw [h1, h2], by rw [h2]; rfl⟩
    · exact Or.inr ⟨by rw [h1], by rw [h2], by rw [h1, h2]; exact h3, by rw [h1, h2]; exact h4⟩)
  have HT := hide (And.intro eA eD)
  have hs := vl_same V
  clear hc eU eV eA eD ht gA gD A1 A2 D1 D2
  unfold Vl.cells noText at HN1 HN2 HC1 HC2
  simp only [] at HN1 HN2 HC1 HC2
  have HB := hide (Below.refl w.heap.size w)
  go_enter Tryz.func9, Tryz.ntmps9
  go_wp2_with fail
  simp only [(unhide HT).1]
  refine (unhide HN1 _).mono ?_
  rintro e w1 ⟨rfl, b1⟩
  replace HB := hide (below_nx (unhide HB) b1)
  clear b1
  go_wp2_with fail
  simp only [(unhide HT).2]
  refine (unhide HN2 _).mono ?_
  rintro e w2 ⟨rfl, b2⟩
  replace HB := hide (below_nx (unhide HB) b2)
  clear b2
  have HX := hide (five_old w2 28 (.int .i64 1) (.int .i64 A) (.string ⟨#[]⟩) (.bool false) (.int .i64 0) (.cells #[.int .i64 1, .int .i64 D, .string ⟨#[]⟩, .bool false, .int .i64 0] 28))
  have HY := hide (five_new2 w2 (.cells #[.int .i64 1, .int .i64 A, .string ⟨#[]⟩, .bool false, .int .i64 0] 28) 28 (.int .i64 1) (.int .i64 D) (.string ⟨#[]⟩) (.bool false) (.int .i64 0))
  have bb := below_al2 w2 (.cells #[.int .i64 1, .int .i64 A, .string ⟨#[]⟩, .bool false, .int .i64 0] 28) (.cells #[.int .i64 1, .int .i64 D, .string ⟨#[]⟩, .bool false, .int .i64 0] 28)
  replace HB := hide (below_nx (unhide HB) bb)
  clear bb
  go_upto_region 2 with fail
  generalize hW : (w2.alloc (.cells #[.int .i64 1, .int .i64 A, .string ⟨#[]⟩, .bool false, .int .i64 0] 28)).alloc (.cells #[.int .i64 1, .int .i64 D, .string ⟨#[]⟩, .bool false, .int .i64 0] 28) = W0 at HX HY HB ⊢
  clear hW
  obtain ⟨hx_0, hx_1, hx_2, hx_3, hx_4⟩ := five_cells (unhide HX)
  obtain ⟨hy_0, hy_1, hy_2, hy_3, hy_4⟩ := five_cells (unhide HY)
  go_wp2_with fail
  refine (unhide HC1 _ _ (vals_two W0 _ ⟨1, A, noText, false, 0⟩ ⟨1, D, noText, false, 0⟩) ((unhide HE).below (below_nx (unhide HB) (below_al W0 _)))).mono ?_
  rintro e w3 ⟨rfl, b3⟩
  replace b3 := below_nx (below_al W0 _) b3
  replace HX := hide (five_below (unhide HX) b3 (five_lt (unhide HX)))
  replace HY := hide (five_below (unhide HY) b3 (five_lt (unhide HY)))
  replace HB := hide (below_nx (unhide HB) b3)
  clear b3
  have HU := hide (five_new w3 28 (.int .i64 U.kind) (.int .i64 U.num) (.string U.text) (.bool U.tr) (.int .i64 U.fail))
  have bb := below_al w3 (.cells #[.int .i64 U.kind, .int .i64 U.num, .string U.text, .bool U.tr, .int .i64 U.fail] 28)
  replace HX := hide (five_below (unhide HX) bb (five_lt (unhide HX)))
  replace HY := hide (five_below (unhide HY) bb (five_lt (unhide HY)))
  replace HB := hide (below_nx (unhide HB) bb)
  clear bb
  go_upto_region 3 with fail
  generalize hW : w3.alloc (.cells #[.int .i64 U.kind, .int .i64 U.num, .string U.text, .bool U.tr, .int .i64 U.fail] 28) = W4 at HU HB HX HY ⊢
  clear hW
  clear hx_0 hx_1 hx_2 hx_3 hx_4 hy_0 hy_1 hy_2 hy_3 hy_4
  obtain ⟨hx_0, hx_1, hx_2, hx_3, hx_4⟩ := five_cells (unhide HX)
  obtain ⟨hy_0, hy_1, hy_2, hy_3, hy_4⟩ := five_cells (unhide HY)
  go_wp2_with fail
  refine (unhide HC2 _ ((unhide HE).below (unhide HB))).mono ?_
  rintro e w5 ⟨rfl, b5⟩
  replace HX := hide (five_below (unhide HX) b5 (five_lt (unhide HX)))
  replace HY := hide (five_below (unhide HY) b5 (five_lt (unhide HY)))
  replace HU := hide (five_below (unhide HU) b5 (five_lt (unhide HU)))
  replace HB := hide (below_nx (unhide HB) b5)
  clear b5 hx_0 hx_1 hx_2 hx_3 hx_4 hy_0 hy_1 hy_2 hy_3 hy_4
  have HV := hide (five_new w5 28 (.int .i64 V.kind) (.int .i64 V.num) (.string V.text) (.bool V.tr) (.int .i64 V.fail))
  have bb := below_al w5 (.cells #[.int .i64 V.kind, .int .i64 V.num, .string V.text, .bool V.tr, .int .i64 V.fail] 28)
  replace HX := hide (five_below (unhide HX) bb (five_lt (unhide HX)))
  replace HY := hide (five_below (unhide HY) bb (five_lt (unhide HY)))
  replace HU := hide (five_below (unhide HU) bb (five_lt (unhide HU)))
  replace HB := hide (below_nx (unhide HB) bb)
  clear bb
  go_upto_region 4 with fail
  generalize hW : w5.alloc (.cells #[.int .i64 V.kind, .int .i64 V.num, .string V.text, .bool V.tr, .int .i64 V.fail] 28) = W6 at HV HB HX HY HU ⊢
  clear hW
  clear HX HY
  go_wp2_with fail
  refine (unhide HWK _ ((unhide HE).below (unhide HB))).mono ?_
  rintro e w7 ⟨rfl, b7⟩
  replace HU := hide (five_below (unhide HU) b7 (five_lt (unhide HU)))
  replace HV := hide (five_below (unhide HV) b7 (five_lt (unhide HV)))
  replace HB := hide (below_nx (unhide HB) b7)
  clear b7
  obtain ⟨u_0, u_1, u_2, u_3, u_4⟩ := five_cells (unhide HU)
  obtain ⟨v_0, v_1, v_2, v_3, v_4⟩ := five_cells (unhide HV)
  rcases unhide HR with ⟨rfl, k1⟩ | ⟨k1, k2, d1, d2⟩
  · rw [k1] at u_0 v_0
    go_wp2
    all_goals go_ret
    all_goals exact ⟨rfl, unhide HB⟩
  · rw [k1] at u_0
    rw [k2] at v_0
    go_wp2
    all_goals go_ret
    all_goals exact ⟨rfl, unhide HB⟩
theorem top_walk (hp : PNums) (a b : Int) (w : World) (_ha : (Lit.int .i64 a).wf = true) (_hb : (Lit.int .i64 b).wf = true) (he : Env3 w) :
    Calls Tryz.prog 9 #[.int .i64 a, .int .i64 b] w fun e w' => e = .returned (.bool true) ∧ Below w.heap.size w w' :=
  top_law hp a b w he
end Go.Proofs.YtbeijnflfmjgfaaGreatDoor
