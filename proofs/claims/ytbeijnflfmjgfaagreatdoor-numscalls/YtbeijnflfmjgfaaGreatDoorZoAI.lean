/- The reference's one. -/
import Derived.BigQuiet
import Derived.BigRegion
import Derived.Deep.CutBlock
import Derived.Deep.CutRange
import Derived.Deep.DeepFit
import Derived.Deep.QuietTactic
import Derived.Laws.Bits64b
import Derived.Laws.IdiomStrings
import Derived.Laws.Rows
import Derived.Lib.BitFns
import Derived.Lib.IndexBytes
import Derived.Lib.ItoaMem
import Derived.Lib.ItoaNum
import Derived.Lib.Walk
import Derived.Shelf.Bits.Mul64
import Derived.Shelf.LaysM
import Derived.Shelf.Small.Bits
import Derived.Shelf.Small.Strs
import Derived.Shelf.Small.Wraps
import Derived.Shelf.Strconv.Itoa0
import Derived.Shelf.Strconv.Itoa1
import Derived.Shelf.Strconv.Itoa2
import Derived.Shelf.Strings.AsciiSet
import Derived.Shelf.Strings.Cut
import Derived.Shelf.Strings.Prefix
import Derived.Shelf.Strings.Search1
import Derived.Shelf.Strings.Search2
import Derived.Shelf.Strings.Shaped
import Derived.Shelf.Strings.Trim
import Derived.Test.YtbeijnflfmjgfaaGreatDoorProg
import Derived.Test.YtbeijnflfmjgfaaGreatDoorRows
import Derived.WalkKit
import Derived.WalkLawsBesides
import Derived.WalkSmall
import Derived.WalkSpells
import Derived.Test.YtbeijnflfmjgfaaGreatDoorZoAA
import Derived.Test.YtbeijnflfmjgfaaGreatDoorZoAB
import Derived.Test.YtbeijnflfmjgfaaGreatDoorZoAC
import Derived.Test.YtbeijnflfmjgfaaGreatDoorZoAD
import Derived.Test.YtbeijnflfmjgfaaGreatDoorZoAE
import Derived.Test.YtbeijnflfmjgfaaGreatDoorZoAF
import Derived.Test.YtbeijnflfmjgfaaGreatDoorZoAG
import Derived.Test.YtbeijnflfmjgfaaGreatDoorZoAH
namespace Go.Proofs.YtbeijnflfmjgfaaGreatDoor
open Go.RowKit

def oneV (s : List UInt8) (a : Int) : Vl :=
  if s = [65, 66, 83] then vN (a.natAbs : Int)
  else if s = [83, 73, 71, 78] then (if a < 0 then vN (-10000) else if 0 < a then vN 10000 else vN 0)
  else if s = [73, 78, 84] then vN (floorV a)
  else if s = [84, 82, 85, 78, 67] then vN (a - a.tmod 10000)
  else if s = [83, 81, 82, 84] then (if a < 0 then vE 2 else vN (rootV a))
  else if s = [70, 65, 67, 84] then factV a
  else if a.tmod 10000 ≠ 0 then vE 2 else vB (decide (a.tmod 20000 = 0))

set_option maxRecDepth 100000 in
set_option maxHeartbeats 8000000 in
theorem one9_ref (s : ByteArray) (a : Int) (w : World) (ha1 : -9000000000000000000 ≤ a) (ha2 : a ≤ 9000000000000000000) :
    Calls Tryz.prog 54 #[.string s, .int .i64 a] w fun e w' => e = .returned (.agg (oneV s.toList a).cells) ∧ Below w.heap.size w w' := by
  unfold oneV
  by_cases h_ABS : s.toList = [65, 66, 83]
  · rw [if_pos h_ABS]
    obtain rfl := toList_lit h_ABS
    clear h_ABS
    by_cases h0 : a < 0
    · rw [show (a.natAbs : Int) = -a by omega]
      have HC := hide (fun w => n_ref (-a) w)
      generalize vN (-a) = V at HC ⊢
      go_enter Tryz.func54, Tryz.ntmps54
      go_wp2_with fail
      refine (unhide HC _).mono ?_
      rintro e wz ⟨rfl, bz⟩
      have hf := five_below (five_new w 29 _ _ _ _ _) bz (five_lt (five_new w 29 _ _ _ _ _))
      obtain ⟨⟨⟨x0, c0⟩, ⟨x1, c1⟩, ⟨x2, c2⟩, ⟨x3, c3⟩, x4, c4⟩, f0, f1, f2, f3, f4⟩ := five_all hf
      have HF := hide hf
      have HB := hide (below_nx (below_al w _) bz)
      clear hf bz
      unfold Vl.cells
      go_wp2
      refine bodyPost_ret (results_cell_row rfl _ _ _ _ _ _ _ rfl (five_set (unhide HF) _ _ _ _ _).1 Tryz.underlying29 rfl infoRef) rfl ?_
      exact ⟨rfl, below_five (unhide HB) (Nat.le_refl _) _ _ _ _ _⟩
    · rw [show (a.natAbs : Int) = a by omega]
      have HC := hide (fun w => n_ref a w)
      generalize vN a = V at HC ⊢
      go_enter Tryz.func54, Tryz.ntmps54
      go_wp2_with fail
      refine (unhide HC _).mono ?_
      rintro e wz ⟨rfl, bz⟩
      have hf := five_below (five_new w 29 _ _ _ _ _) bz (five_lt (five_new w 29 _ _ _ _ _))
      obtain ⟨⟨⟨x0, c0⟩, ⟨x1, c1⟩, ⟨x2, c2⟩, ⟨x3, c3⟩, x4, c4⟩, f0, f1, f2, f3, f4⟩ := five_all hf
      have HF := hide hf
      have HB := hide (below_nx (below_al w _) bz)
      clear hf bz
      unfold Vl.cells
      go_wp2
      refine bodyPost_ret (results_cell_row rfl _ _ _ _ _ _ _ rfl (five_set (unhide HF) _ _ _ _ _).1 Tryz.underlying29 rfl infoRef) rfl ?_
      exact ⟨rfl, below_five (unhide HB) (Nat.le_refl _) _ _ _ _ _⟩
  rw [if_neg h_ABS]
  by_cases h_SIGN : s.toList = [83, 73, 71, 78]
  · rw [if_pos h_SIGN]
    obtain rfl := toList_lit h_SIGN
    clear h_SIGN
    by_cases h0 : a < 0
    · rw [if_pos h0]
      have HC := hide (fun w => n_ref (-10000) w)
      generalize vN (-10000) = V at HC ⊢
      go_enter Tryz.func54, Tryz.ntmps54
      go_wp2_with fail
      refine (unhide HC _).mono ?_
      rintro e wz ⟨rfl, bz⟩
      have hf := five_below (five_new w 29 _ _ _ _ _) bz (five_lt (five_new w 29 _ _ _ _ _))
      obtain ⟨⟨⟨x0, c0⟩, ⟨x1, c1⟩, ⟨x2, c2⟩, ⟨x3, c3⟩, x4, c4⟩, f0, f1, f2, f3, f4⟩ := five_all hf
      have HF := hide hf
      have HB := hide (below_nx (below_al w _) bz)
      clear hf bz
      unfold Vl.cells
      go_wp2
      refine bodyPost_ret (results_cell_row rfl _ _ _ _ _ _ _ rfl (five_set (unhide HF) _ _ _ _ _).1 Tryz.underlying29 rfl infoRef) rfl ?_
      exact ⟨rfl, below_five (unhide HB) (Nat.le_refl _) _ _ _ _ _⟩
    rw [if_neg h0]
    by_cases h1 : 0 < a
    · rw [if_pos h1]
      have HC := hide (fun w => n_ref 10000 w)
      generalize vN 10000 = V at HC ⊢
      go_enter Tryz.func54, Tryz.ntmps54
      go_wp2_with fail
      refine (unhide HC _).mono ?_
      rintro e wz ⟨rfl, bz⟩
      have hf := five_below (five_new w 29 _ _ _ _ _) bz (five_lt (five_new w 29 _ _ _ _ _))
      obtain ⟨⟨⟨x0, c0⟩, ⟨x1, c1⟩, ⟨x2, c2⟩, ⟨x3, c3⟩, x4, c4⟩, f0, f1, f2, f3, f4⟩ := five_all hf
      have HF := hide hf
      have HB := hide (below_nx (below_al w _) bz)
      clear hf bz
      unfold Vl.cells
      go_wp2
      refine bodyPost_ret (results_cell_row rfl _ _ _ _ _ _ _ rfl (five_set (unhide HF) _ _ _ _ _).1 Tryz.underlying29 rfl infoRef) rfl ?_
      exact ⟨rfl, below_five (unhide HB) (Nat.le_refl _) _ _ _ _ _⟩
    rw [if_neg h1]
    have HC := hide (fun w => n_ref 0 w)
    generalize vN 0 = V at HC ⊢
    go_enter Tryz.func54, Tryz.ntmps54
    go_wp2_with fail
    refine (unhide HC _).mono ?_
    rintro e wz ⟨rfl, bz⟩
    have hf := five_below (five_new w 29 _ _ _ _ _) bz (five_lt (five_new w 29 _ _ _ _ _))
    obtain ⟨⟨⟨x0, c0⟩, ⟨x1, c1⟩, ⟨x2, c2⟩, ⟨x3, c3⟩, x4, c4⟩, f0, f1, f2, f3, f4⟩ := five_all hf
    have HF := hide hf
    have HB := hide (below_nx (below_al w _) bz)
    clear hf bz
    unfold Vl.cells
    go_wp2
    refine bodyPost_ret (results_cell_row rfl _ _ _ _ _ _ _ rfl (five_set (unhide HF) _ _ _ _ _).1 Tryz.underlying29 rfl infoRef) rfl ?_
    exact ⟨rfl, below_five (unhide HB) (Nat.le_refl _) _ _ _ _ _⟩
  rw [if_neg h_SIGN]
  by_cases h_INT : s.toList = [73, 78, 84]
  · rw [if_pos h_INT]
    obtain rfl := toList_lit h_INT
    clear h_INT
    have HF := hide (fun w => floor_ref a w)
    have HC := hide (fun w => n_ref (floorV a) w)
    generalize vN (floorV a) = V at HC ⊢
    generalize floorV a = g at HF HC
    go_enter Tryz.func54, Tryz.ntmps54
    go_wp2_with fail
    refine (unhide HF _).mono ?_
    rintro e w2 ⟨rfl, b2⟩
    have HX2 := hide (five_below (five_new w 29 _ _ _ _ _) b2 (five_lt (five_new w 29 _ _ _ _ _)))
    have HB2 := hide (below_nx (below_al w _) b2)
    clear b2
    go_wp2_with fail
    refine (unhide HC _).mono ?_
    rintro e wz ⟨rfl, bz⟩
    have hf := five_below (unhide HX2) bz (five_lt (unhide HX2))
    obtain ⟨⟨⟨x0, c0⟩, ⟨x1, c1⟩, ⟨x2, c2⟩, ⟨x3, c3⟩, x4, c4⟩, f0, f1, f2, f3, f4⟩ := five_all hf
    have HF := hide hf
    have HB := hide (below_nx (unhide HB2) bz)
    clear hf bz
    unfold Vl.cells
    go_wp2
    refine bodyPost_ret (results_cell_row rfl _ _ _ _ _ _ _ rfl (five_set (unhide HF) _ _ _ _ _).1 Tryz.underlying29 rfl infoRef) rfl ?_
    exact ⟨rfl, below_five (unhide HB) (Nat.le_refl _) _ _ _ _ _⟩
  rw [if_neg h_INT]
  by_cases h_TRUNC : s.toList = [84, 82, 85, 78, 67]
  · rw [if_pos h_TRUNC]
    obtain rfl := toList_lit h_TRUNC
    clear h_TRUNC
    have ht : -10000 < a.tmod 10000 ∧ a.tmod 10000 < 10000 := by
      have h : (a.tmod 10000).natAbs = a.natAbs % 10000 := Int.natAbs_tmod a 10000
      omega
    obtain ⟨t1, t2⟩ := ht
    have HC := hide (fun w => n_ref (a - a.tmod 10000) w)
    generalize vN (a - a.tmod 10000) = V at HC ⊢
    go_enter Tryz.func54, Tryz.ntmps54
    go_wp2_with fail
    refine (unhide HC _).mono ?_
    rintro e wz ⟨rfl, bz⟩
    have hf := five_below (five_new w 29 _ _ _ _ _) bz (five_lt (five_new w 29 _ _ _ _ _))
    obtain ⟨⟨⟨x0, c0⟩, ⟨x1, c1⟩, ⟨x2, c2⟩, ⟨x3, c3⟩, x4, c4⟩, f0, f1, f2, f3, f4⟩ := five_all hf
    have HF := hide hf
    have HB := hide (below_nx (below_al w _) bz)
    clear hf bz
    unfold Vl.cells
    go_wp2
    refine bodyPost_ret (results_cell_row rfl _ _ _ _ _ _ _ rfl (five_set (unhide HF) _ _ _ _ _).1 Tryz.underlying29 rfl infoRef) rfl ?_
    exact ⟨rfl, below_five (unhide HB) (Nat.le_refl _) _ _ _ _ _⟩
  rw [if_neg h_TRUNC]
  by_cases h_SQRT : s.toList = [83, 81, 82, 84]
  · rw [if_pos h_SQRT]
    obtain rfl := toList_lit h_SQRT
    clear h_SQRT
    by_cases h0 : a < 0
    · rw [if_pos h0]
      have HC := hide (fun w => e9_ref 2 w (by omega) (by omega))
      generalize vE 2 = V at HC ⊢
      go_enter Tryz.func54, Tryz.ntmps54
      go_wp2_with fail
      refine (unhide HC _).mono ?_
      rintro e wz ⟨rfl, bz⟩
      have hf := five_below (five_new w 29 _ _ _ _ _) bz (five_lt (five_new w 29 _ _ _ _ _))
      obtain ⟨⟨⟨x0, c0⟩, ⟨x1, c1⟩, ⟨x2, c2⟩, ⟨x3, c3⟩, x4, c4⟩, f0, f1, f2, f3, f4⟩ := five_all hf
      have HF := hide hf
      have HB := hide (below_nx (below_al w _) bz)
      clear hf bz
      unfold Vl.cells
      go_wp2
      refine bodyPost_ret (results_cell_row rfl _ _ _ _ _ _ _ rfl (five_set (unhide HF) _ _ _ _ _).1 Tryz.underlying29 rfl infoRef) rfl ?_
      exact ⟨rfl, below_five (unhide HB) (Nat.le_refl _) _ _ _ _ _⟩
    · rw [if_neg h0]
      obtain ⟨n, rfl⟩ := Int.eq_ofNat_of_zero_le (show 0 ≤ a by omega)
      have HF := hide (fun w => root_ref n w (by omega))
      have HC := hide (fun w => n_ref (rootV (n : Int)) w)
      generalize vN (rootV (n : Int)) = V at HC ⊢
      generalize rootV (n : Int) = g at HF HC
      go_enter Tryz.func54, Tryz.ntmps54
      go_wp2_with fail
      refine (unhide HF _).mono ?_
      rintro e w2 ⟨rfl, b2⟩
      have HX2 := hide (five_below (five_new w 29 _ _ _ _ _) b2 (five_lt (five_new w 29 _ _ _ _ _)))
      have HB2 := hide (below_nx (below_al w _) b2)
      clear b2
      go_wp2_with fail
      refine (unhide HC _).mono ?_
      rintro e wz ⟨rfl, bz⟩
      have hf := five_below (unhide HX2) bz (five_lt (unhide HX2))
      obtain ⟨⟨⟨x0, c0⟩, ⟨x1, c1⟩, ⟨x2, c2⟩, ⟨x3, c3⟩, x4, c4⟩, f0, f1, f2, f3, f4⟩ := five_all hf
      have HF := hide hf
      have HB := hide (below_nx (unhide HB2) bz)
      clear hf bz
      unfold Vl.cells
      go_wp2
      refine bodyPost_ret (results_cell_row rfl _ _ _ _ _ _ _ rfl (five_set (unhide HF) _ _ _ _ _).1 Tryz.underlying29 rfl infoRef) rfl ?_
      exact ⟨rfl, below_five (unhide HB) (Nat.le_refl _) _ _ _ _ _⟩
  rw [if_neg h_SQRT]
  by_cases h_FACT : s.toList = [70, 65, 67, 84]
  · rw [if_pos h_FACT]
    obtain rfl := toList_lit h_FACT
    clear h_FACT
    unfold factV
    by_cases h1 : a.tmod 10000 = 0
    rotate_left
    · rw [if_pos (Or.inl h1)]
      have HC := hide (fun w => e9_ref 2 w (by omega) (by omega))
      generalize vE 2 = V at HC ⊢
      go_enter Tryz.func54, Tryz.ntmps54
      go_wp2_with fail
      refine (unhide HC _).mono ?_
      rintro e wz ⟨rfl, bz⟩
      have hf := five_below (five_new w 29 _ _ _ _ _) bz (five_lt (five_new w 29 _ _ _ _ _))
      obtain ⟨⟨⟨x0, c0⟩, ⟨x1, c1⟩, ⟨x2, c2⟩, ⟨x3, c3⟩, x4, c4⟩, f0, f1, f2, f3, f4⟩ := five_all hf
      have HF := hide hf
      have HB := hide (below_nx (below_al w _) bz)
      clear hf bz
      unfold Vl.cells
      go_wp2
      refine bodyPost_ret (results_cell_row rfl _ _ _ _ _ _ _ rfl (five_set (unhide HF) _ _ _ _ _).1 Tryz.underlying29 rfl infoRef) rfl ?_
      exact ⟨rfl, below_five (unhide HB) (Nat.le_refl _) _ _ _ _ _⟩
    by_cases h2 : a < 0
    · rw [if_pos (Or.inr h2)]
      have HC := hide (fun w => e9_ref 2 w (by omega) (by omega))
      generalize vE 2 = V at HC ⊢
      go_enter Tryz.func54, Tryz.ntmps54
      go_wp2_with fail
      refine (unhide HC _).mono ?_
      rintro e wz ⟨rfl, bz⟩
      have hf := five_below (five_new w 29 _ _ _ _ _) bz (five_lt (five_new w 29 _ _ _ _ _))
      obtain ⟨⟨⟨x0, c0⟩, ⟨x1, c1⟩, ⟨x2, c2⟩, ⟨x3, c3⟩, x4, c4⟩, f0, f1, f2, f3, f4⟩ := five_all hf
      have HF := hide hf
      have HB := hide (below_nx (below_al w _) bz)
      clear hf bz
      unfold Vl.cells
      go_wp2
      refine bodyPost_ret (results_cell_row rfl _ _ _ _ _ _ _ rfl (five_set (unhide HF) _ _ _ _ _).1 Tryz.underlying29 rfl infoRef) rfl ?_
      exact ⟨rfl, below_five (unhide HB) (Nat.le_refl _) _ _ _ _ _⟩
    rw [if_neg (by omega)]
    obtain ⟨q, hq⟩ : ∃ q : Nat, a = 10000 * (q : Int) := ⟨(a / 10000).toNat, by rw [Int.tmod_eq_emod_of_nonneg (by omega)] at h1; omega⟩
    obtain ⟨N, hN⟩ : ∃ N : Nat, (a / 10000 - 1).toNat = N := ⟨_, rfl⟩
    rw [hN]
    have HQ := hide (show N = q - 1 by omega)
    obtain ⟨R, hR⟩ : ∃ R, factL N 20000 10000 = R := ⟨_, rfl⟩
    rw [hR]
    obtain ⟨V, hV⟩ : ∃ V, toldV R = V := ⟨_, rfl⟩
    rw [hV]
    have HV := hide hV
    have HR := hide hR
    clear hR hV hN
    have HA := hide hq
    clear hq
    go_enter Tryz.func54, Tryz.ntmps54
    go_wp2
    go_loopw [7, 8, 9, 10] (fun t u _ _ wr => ∃ (j : Nat) (P : Int), t = .int .i64 P ∧ u = .int .i64 (20000 + 10000 * (j : Int)) ∧ 10000 * (j : Int) ≤ a ∧ Hid (FiveAt wr w.heap.size 29 #[.int .i64 0, .int .i64 0, .string ⟨#[]⟩, .bool false, .int .i64 0]) ∧ Hid (Below w.heap.size w wr) ∧ Hid (factL (N - j) (20000 + 10000 * (j : Int)) P = R)) (fun _ u _ _ _ => (a + 20000 - intOf u).toNat)
    case atStart => exact ⟨0, 10000, rfl, by simp, by omega, hide (five_new w 29 _ _ _ _ _), hide (below_al w _), hide (by simpa using unhide HR)⟩
    case round =>
      obtain ⟨j, P, rfl, rfl, hj, HX, HB, HP⟩ := hrel
      by_cases hlt : 20000 + 10000 * (j : Int) ≤ a
      · go_wp2_with fail
        refine (mul_ref P (20000 + 10000 * (j : Int)) _).mono ?_
        rintro e w1 ⟨rfl, b1⟩
        have HX1 := hide (five_below (unhide HX) b1 (five_lt (unhide HX)))
        have HB1 := hide (below_nx (unhide HB) b1)
        clear b1
        obtain ⟨m, hm⟩ : ∃ m, N - j = m + 1 := ⟨N - j - 1, by have := unhide HQ; have := unhide HA; omega⟩
        have HM : Hid (N - (j + 1) = m) := hide (by omega)
        have hp := unhide HP
        rw [hm, factL] at hp
        obtain ⟨r, hr⟩ : ∃ r, mulR P (20000 + 10000 * (j : Int)) = r := ⟨_, rfl⟩
        rw [hr] at hp ⊢
        clear hm hr HP
        by_cases h0 : r.2 = 0
        · rw [if_pos h0] at hp
          have HP := hide hp
          clear hp
          go_wp2
          go_roundw
          case rel => exact ⟨j + 1, r.1, rfl, int_eqv (by omega), by omega, HX1, HB1, hide (by rw [unhide HM, ← unhide HP]; congr 1)⟩
          case measure => simp only [intOf]; omega
        · rw [if_neg h0] at hp
          have hb0 : (r.2 == 0) = false := by rw [beq_eq_false_iff_ne]; exact h0
          have HC := hide (fun w => told_ref 0 r.2 w)
          rw [hp, unhide HV] at HC
          clear hp
          go_wp2_with fail
          refine (unhide HC _).mono ?_
          rintro e wz ⟨rfl, bz⟩
          have hf := five_below (unhide HX1) bz (five_lt (unhide HX1))
          obtain ⟨⟨⟨x0, c0⟩, ⟨x1, c1⟩, ⟨x2, c2⟩, ⟨x3, c3⟩, x4, c4⟩, f0, f1, f2, f3, f4⟩ := five_all hf
          have HF := hide hf
          have HB := hide (below_nx (unhide HB1) bz)
          clear hf bz
          unfold Vl.cells
          go_wp2
          try simp only [Exit.inBlock, Exit.then]
          refine bodyPost_ret (results_cell_row rfl _ _ _ _ _ _ _ rfl (five_set (unhide HF) _ _ _ _ _).1 Tryz.underlying29 rfl infoRef) rfl ?_
          exact ⟨rfl, below_five (unhide HB) (Nat.le_refl _) _ _ _ _ _⟩
      · have hn : N - j = 0 := by have := unhide HQ; have := unhide HA; omega
        have hp := unhide HP
        rw [hn, factL] at hp
        have HE1 : vN P = V := by
          rw [← unhide HV, ← hp]
          rfl
        have HC := hide (fun w => n_ref P w)
        rw [HE1] at HC
        clear hp hn HE1
        go_wp2_with fail
        refine (unhide HC _).mono ?_
        rintro e wz ⟨rfl, bz⟩
        have hf := five_below (unhide HX) bz (five_lt (unhide HX))
        obtain ⟨⟨⟨x0, c0⟩, ⟨x1, c1⟩, ⟨x2, c2⟩, ⟨x3, c3⟩, x4, c4⟩, f0, f1, f2, f3, f4⟩ := five_all hf
        have HF := hide hf
        have HB := hide (below_nx (unhide HB) bz)
        clear hf bz
        unfold Vl.cells
        go_wp2
        try simp only [Exit.inBlock, Exit.then]
        refine bodyPost_ret (results_cell_row rfl _ _ _ _ _ _ _ rfl (five_set (unhide HF) _ _ _ _ _).1 Tryz.underlying29 rfl infoRef) rfl ?_
        exact ⟨rfl, below_five (unhide HB) (Nat.le_refl _) _ _ _ _ _⟩
  rw [if_neg h_FACT]

  replace h_ABS := ne_lit h_ABS
  replace h_SIGN := ne_lit h_SIGN
  replace h_INT := ne_lit h_INT
  replace h_TRUNC := ne_lit h_TRUNC
  replace h_SQRT := ne_lit h_SQRT
  replace h_FACT := ne_lit h_FACT
  by_cases h1 : a.tmod 10000 = 0
  · rw [if_neg (by omega)]
    have HC := hide (fun w => b_ref (decide (a.tmod 20000 = 0)) w)
    generalize vB (decide (a.tmod 20000 = 0)) = V at HC ⊢
    go_enter Tryz.func54, Tryz.ntmps54
    go_wp2_with fail
    refine (unhide HC _).mono ?_
    rintro e wz ⟨rfl, bz⟩
    have hf := five_below (five_new w 29 _ _ _ _ _) bz (five_lt (five_new w 29 _ _ _ _ _))
    obtain ⟨⟨⟨x0, c0⟩, ⟨x1, c1⟩, ⟨x2, c2⟩, ⟨x3, c3⟩, x4, c4⟩, f0, f1, f2, f3, f4⟩ := five_all hf
    have HF := hide hf
    have HB := hide (below_nx (below_al w _) bz)
    clear hf bz
    unfold Vl.cells
    go_wp2
    refine bodyPost_ret (results_cell_row rfl _ _ _ _ _ _ _ rfl (five_set (unhide HF) _ _ _ _ _).1 Tryz.underlying29 rfl infoRef) rfl ?_
    exact ⟨rfl, below_five (unhide HB) (Nat.le_refl _) _ _ _ _ _⟩
  · rw [if_pos h1]
    have HC := hide (fun w => e9_ref 2 w (by omega) (by omega))
    generalize vE 2 = V at HC ⊢
    go_enter Tryz.func54, Tryz.ntmps54
    go_wp2_with fail
    refine (unhide HC _).mono ?_
    rintro e wz ⟨rfl, bz⟩
    have hf := five_below (five_new w 29 _ _ _ _ _) bz (five_lt (five_new w 29 _ _ _ _ _))
    obtain ⟨⟨⟨x0, c0⟩, ⟨x1, c1⟩, ⟨x2, c2⟩, ⟨x3, c3⟩, x4, c4⟩, f0, f1, f2, f3, f4⟩ := five_all hf
    have HF := hide hf
    have HB := hide (below_nx (below_al w _) bz)
    clear hf bz
    unfold Vl.cells
    go_wp2
    refine bodyPost_ret (results_cell_row rfl _ _ _ _ _ _ _ rfl (five_set (unhide HF) _ _ _ _ _).1 Tryz.underlying29 rfl infoRef) rfl ?_
    exact ⟨rfl, below_five (unhide HB) (Nat.le_refl _) _ _ _ _ _⟩
end Go.Proofs.YtbeijnflfmjgfaaGreatDoor

namespace Go.Proofs.YtbeijnflfmjgfaaGreatDoor
open Go.RowKit

set_option maxHeartbeats 2000000 in
theorem gcd9_ref (b : Nat) : ∀ (a : Nat) (w : World), a ≤ 9223372036854775807 → b ≤ 9223372036854775807 →
    Calls Tryz.prog 110 #[.int .i64 (a : Int), .int .i64 (b : Int)] w fun e w' => e = .returned (.int .i64 (Nat.gcd a b : Nat)) ∧ Below w.heap.size w w' := by
  induction b using Nat.strongRecOn with
  | _ b ih =>
    intro a w ha hb
    by_cases h0 : b = 0
    · subst h0
      rw [Nat.gcd_zero_right]
      go_enter Tryz.func110, Tryz.ntmps110
      go_wp2
      go_ret
      exact ⟨rfl, Below.refl _ _⟩
    · have hlt : a % b < b := Nat.mod_lt _ (by omega)
      have HI := hide (fun w => ih (a % b) hlt b w hb (by omega))
      have hi : ¬ (b : Int) = 0 := by omega
      have em : (a : Int) % (b : Int) = ((a % b : Nat) : Int) := (Int.natCast_emod a b).symm
      have eg : Nat.gcd a b = Nat.gcd b (a % b) := by rw [Nat.gcd_comm a b, Nat.gcd_rec b a, Nat.gcd_comm]
      rw [eg]
      have HM := hide em
      clear ih h0 hlt eg em
      go_enter Tryz.func110, Tryz.ntmps110
      go_wp2_with fail
      rw [unhide HM]
      refine (unhide HI _).mono ?_
      rintro e w1 ⟨rfl, b1⟩
      go_wp2
      go_ret
      exact ⟨rfl, b1⟩

structure IncIn (zs os : List Int) (k : Nat) : Prop where
  len : os.length = zs.length
  dig : Dc.Dig os
  val : Dc.val os + 10 ^ k = Dc.val zs + 1
  rest : ∀ j, k ≤ j → os.getD j 0 = zs.getD j 0
theorem dig_set {os : List Int} (h : Dc.Dig os) (k : Nat) (x : Int) (h0 : 0 ≤ x) (h9 : x ≤ 9) : Dc.Dig (os.set k x) := by
  intro y hy
  rcases List.mem_or_eq_of_mem_set hy with h1 | rfl
  · exact h y h1
  · exact ⟨h0, h9⟩
theorem inc_zero {zs os : List Int} {k : Nat} (h : IncIn zs os k) (hk : k < zs.length) (h9 : os.getD k 0 = 9) : IncIn zs (os.set k 0) (k + 1) := by
  refine ⟨by rw [List.length_set]; exact h.len, dig_set h.dig k 0 (by omega) (by omega), ?_, fun j hj => ?_⟩
  · have hv := h.val
    rw [Dc.val_set _ _ _ (by rw [h.len]; exact hk), h9, Int.pow_succ]
    omega
  · rw [Dc.getD_set _ _ _ _ (by rw [h.len]; exact hk), if_neg (by omega)]
    exact h.rest j (by omega)
theorem cn_last {zs : List Int} (h : zs.getD (zs.length - 1) 0 ≠ 0) : Dc.Cn zs := by
  intro x l' e
  subst e
  rw [List.length_append, List.length_singleton, Nat.add_sub_cancel, List.getD_eq_getElem?_getD, List.getElem?_append_right (Nat.le_refl _), Nat.sub_self] at h
  simpa using h
theorem last_cn {zs : List Int} (h : Dc.Cn zs) (hl : 0 < zs.length) : zs.getD (zs.length - 1) 0 ≠ 0 := by
  have hne : zs ≠ [] := by intro h0; rw [h0] at hl; simp at hl
  have e := (List.dropLast_concat_getLast hne).symm
  have h1 := h (zs.getLast hne) zs.dropLast e
  rwa [List.getD_eq_getElem?_getD, ← List.getLast?_eq_getElem?, List.getLast?_eq_some_getLast hne]
theorem inc_up {zs os : List Int} {k : Nat} (h : IncIn zs os k) (hk : k < zs.length) (hc : Dc.Cn zs) (h9 : os.getD k 0 < 9) :
    Dc.Dig (os.set k (os.getD k 0 + 1)) ∧ Dc.Cn (os.set k (os.getD k 0 + 1)) ∧ Dc.val (os.set k (os.getD k 0 + 1)) = Dc.val zs + 1 ∧ (os.set k (os.getD k 0 + 1)).length ≤ zs.length + 1 := by
  have hd := h.dig.getD k
  have hl := h.len
  refine ⟨dig_set h.dig k _ (by omega) (by omega), cn_last ?_, ?_, by rw [List.length_set]; omega⟩
  · rw [List.length_set, Dc.getD_set _ _ _ _ (by omega)]
    by_cases e : k = os.length - 1
    · rw [if_pos e]; omega
    · rw [if_neg e, h.rest _ (by omega), hl]
      exact last_cn hc (by omega)
  · have hv := h.val
    rw [Dc.val_set _ _ _ (by omega), show os.getD k 0 + 1 - os.getD k 0 = 1 from by omega]
    omega
theorem inc_more {zs os : List Int} (h : IncIn zs os zs.length) : Dc.Dig (os ++ [1]) ∧ Dc.Cn (os ++ [1]) ∧ Dc.val (os ++ [1]) = Dc.val zs + 1 ∧ (os ++ [1]).length ≤ zs.length + 1 := by
  have hl := h.len
  refine ⟨dig_snoc h.dig (by omega) (by omega), cn_snoc (by omega), ?_, by simp; omega⟩
  have hv := h.val
  rw [val_snoc, hl]
  omega
theorem same_getD {zs os : List Int} (hl : os.length = zs.length) (h : ∀ j, j < zs.length → os.getD j 0 = zs.getD j 0) : os = zs := by
  apply List.ext_getElem hl
  intro i h1 h2
  have := h i h2
  rwa [List.getD_eq_getElem?_getD, List.getD_eq_getElem?_getD, List.getElem?_eq_getElem h1, List.getElem?_eq_getElem h2] at this

set_option maxRecDepth 100000 in
set_option maxHeartbeats 4000000 in
theorem plus1_ref (va : Value) (zs : List Int) (w : World) (hz : zs.length ≤ 200) (hva : Arr w va zs) (dz : Dc.Dig zs) (cz : Dc.Cn zs) :
    Calls Tryz.prog 146 #[va] w fun e w' => NumPost (Dc.val zs + 1) (zs.length + 1) w e w' := by
  obtain ⟨i0, hi, hz0, hz1, hz2⟩ := info_parts info3
  obtain ⟨za, cap, rfl, hoa⟩ := arr_open hva
  obtain ⟨L, hL⟩ : ∃ L, zs.length = L := ⟨_, rfl⟩
  rw [hL] at hz hoa ⊢
  have HL := hide hL
  have HOA := hide hoa
  have HD := hide (And.intro dz cz)
  clear hva hL hoa dz cz
  go_enter Tryz.func146, Tryz.ntmps146
  go_wp2_with (first
    | (at_make; refine wpList_make_full _ rfl _ _ 49 rfl w.heap.size 3 i0 (.int .i64 0) 1 Tryz.underlying49 hi hz0 hz1 _ _ _ _ L rfl rfl (by omega) (by omega) (by rw [hz2]; omega) (by unfold maxLen; omega) (Nat.le_refl _) ?_)
    | go_in)
  intro w1 hown hgrow
  have HB : Hid (Below w.heap.size w w1) := hide ((Below.refl _ _).grown hgrow (Nat.le_refl _) (fun k hk => by cases hk))
  have HO : Hid (w1.ownsRow w.heap.size 3 1 (.slice (some ⟨w.heap.size, 0, none⟩) L L) L ((List.replicate L (0 : Int)).map (Value.int .i64))) := hide (by
    have := made_map L
    rw [Nat.mul_one] at this
    rw [← this]; exact hown)
  clear hown hgrow
  go_wp2
  go_loopw [4] (fun t wr => ∃ (k : Nat) (os : List Int), t = .int .i64 (k : Int) ∧ k ≤ L ∧ Hid (wr.ownsRow w.heap.size 3 1 (.slice (some ⟨w.heap.size, 0, none⟩) L L) L (os.map (Value.int .i64))) ∧ Hid (Below w.heap.size w wr) ∧ Hid (os.length = L ∧ ∀ j, j < k → os.getD j 0 = zs.getD j 0)) (fun t _ => L - (intOf t).toNat)
  case atStart => exact ⟨0, _, rfl, Nat.zero_le _, HO, HB, hide ⟨by simp, fun j hj => by omega⟩⟩
  case round =>
    clear HO HB
    obtain ⟨k, os, rfl, hk, HO, HB, HI⟩ := hrel
    by_cases hkn : k < L
    · obtain ⟨b0, o0, rfl, ba1, ca⟩ := unhide HOA (by omega)
      have ca := ca k hkn
      rw [← (unhide HB).cell (p := ⟨b0, o0 + k, none⟩) ba1] at ca
      have c0 := owns_cell (unhide HO) k hkn
      have f0 := (unhide HO).frozenAt k
      have z1 := (unhide HB).size
      obtain ⟨x, hx⟩ : ∃ x, zs.getD k 0 = x := ⟨_, rfl⟩
      rw [hx] at ca
      have HX := hide hx
      clear hx
      have HO2 := hide (owns_set (unhide HO) k x)
      have HB2 := hide ((unhide HB).setCell (p := ⟨w.heap.size, k, none⟩) (Nat.le_refl _) (.int .i64 x))
      go_wp2
      go_roundw
      case rel => exact ⟨k + 1, os.set k x, by go_num, by omega, HO2, HB2, hide ⟨by simpa using (unhide HI).1, fun j hj => by
        rw [Dc.getD_set _ _ _ _ (by rw [(unhide HI).1]; omega)]
        by_cases e : k = j
        · rw [if_pos e, ← e, unhide HX]
        · rw [if_neg e]; exact (unhide HI).2 j (by omega)⟩⟩
      case measure => simp [intOf]; omega
    · have hk2 : k = L := by omega
      subst hk2
      have hsame : os = zs := same_getD (by rw [(unhide HI).1, unhide HL]) (fun j hj => (unhide HI).2 j (by rw [unhide HL] at hj; exact hj))
      subst hsame
      go_wp2
      go_loopw [5] (fun t wr => ∃ (i : Nat) (os' : List Int), t = .int .i64 (i : Int) ∧ i ≤ k ∧ Hid (wr.ownsRow w.heap.size 3 1 (.slice (some ⟨w.heap.size, 0, none⟩) k k) k (os'.map (Value.int .i64))) ∧ Hid (Below w.heap.size w wr) ∧ Hid (IncIn os os' i)) (fun t _ => k - (intOf t).toNat)
      case atStart => exact ⟨0, os, rfl, Nat.zero_le _, HO, HB, hide ⟨rfl, (unhide HD).1, by simp, fun j _ => rfl⟩⟩
      case round =>
        clear HO HB HI
        obtain ⟨i, os', rfl, hi2, HO, HB, HI⟩ := hrel
        have hz1' := (unhide HB).size
        by_cases hin : i < k
        · have c0 := owns_cell (unhide HO) i hin
          have f0 := (unhide HO).frozenAt i
          have dg := (unhide HI).dig.getD i
          have IU := hide (inc_up (unhide HI) (by rw [unhide HL]; exact hin) (unhide HD).2)
          have IZ := hide (inc_zero (unhide HI) (by rw [unhide HL]; exact hin))
          obtain ⟨d, hd⟩ : ∃ d, os'.getD i 0 = d := ⟨_, rfl⟩
          rw [hd] at c0 dg IU IZ
          clear hd
          obtain ⟨d1, d2⟩ := dg
          by_cases h9 : d < 9
          · have HR := hide (unhide IU h9)
            have HO2 := hide (owns_set (unhide HO) i (d + 1))
            have HB2 := hide ((unhide HB).setCell (p := ⟨w.heap.size, i, none⟩) (Nat.le_refl _) (.int .i64 (d + 1)))
            clear IU IZ
            go_wp2
            go_ret
            exact ⟨unhide HB2, _, _, rfl, arr_of_owns (by have := (unhide HO2).1; simpa using this.symm) (unhide HO2), (unhide HR).1, (unhide HR).2.1, (unhide HR).2.2.1, by have := (unhide HR).2.2.2; rw [unhide HL] at this; exact this, fr_of_owns (unhide HO2)⟩
          · have HR := hide (unhide IZ (by omega))
            have HO2 := hide (owns_set (unhide HO) i 0)
            have HB2 := hide ((unhide HB).setCell (p := ⟨w.heap.size, i, none⟩) (Nat.le_refl _) (.int .i64 0))
            clear IU IZ
            go_wp2
            go_roundw
            case rel => exact ⟨i + 1, _, by go_num, by omega, HO2, HB2, HR⟩
            case measure => simp [intOf]; omega
        · have hik : i = k := by omega
          subst hik
          have HR := hide (inc_more (by rw [unhide HL]; exact unhide HI))
          have hl : os'.length = i := by rw [(unhide HI).len, unhide HL]
          have HLL := hide hl
          go_wp2_with (first
            | (at_builtin; refine wpList_append_own _ rfl _ _ 49 rfl w.heap.size 3 i0 (.int .i64 0) 1 8 Tryz.underlying49 hi hz0 hz1 hz2 rfl (by decide) _ _ _ rfl ((unhide HO).alloc _) ⟨wr.heap.size, 0, none⟩ 1 1 [.int .i64 1] rfl rfl (one_cell _ _ _) (one_one _) (by unfold maxLen; omega) (by omega) (by have := (unhide HB).size; simp; omega) ?_)
            | go_in)
          intro v' w3 hown' hgrow _
          have HOS := unhide HO
          rw [← hl] at HOS hown'
          have RS := hide (own_step (unhide HB) (unhide HB).size HOS hown' hgrow)
          clear hown' hgrow HOS
          go_wp2
          go_ret
          exact ⟨(unhide RS).2, _, _, rfl, arr_of_owns rfl (unhide RS).1, (unhide HR).1, (unhide HR).2.1, (unhide HR).2.2.1, by have := (unhide HR).2.2.2; rw [unhide HL] at this; exact this, fr_of_owns (unhide RS).1⟩
end Go.Proofs.YtbeijnflfmjgfaaGreatDoor

namespace Go.Proofs.YtbeijnflfmjgfaaGreatDoor
open Go.RowKit

theorem up_none (n q s : Nat) (hs : 0 < s) (h : n = q * s) : (n + (s - 1)) / s * s = q * s := by
  subst h
  rw [Nat.add_comm, Nat.add_mul_div_right _ _ hs, Nat.div_eq_of_lt (by omega), Nat.zero_add]
theorem up_some (n q r s : Nat) (h : n = q * s + r) (h1 : 0 < r) (h2 : r < s) : (n + (s - 1)) / s * s = (q + 1) * s := by
  have e : n + (s - 1) = (r - 1) + (q + 1) * s := by rw [Nat.add_mul]; omega
  rw [e, Nat.add_mul_div_right _ _ (by omega), Nat.div_eq_of_lt (by omega), Nat.zero_add]
theorem cn_app {zs qs : List Int} (h : Dc.Cn qs) (hl : 0 < qs.length) : Dc.Cn (zs ++ qs) := by
  refine cn_last ?_
  rw [List.length_append, List.getD_eq_getElem?_getD, List.getElem?_append_right (by omega), ← List.getD_eq_getElem?_getD, show zs.length + qs.length - 1 - zs.length = qs.length - 1 from by omega]
  exact last_cn h hl
theorem dig_app {zs qs : List Int} (h : Dc.Dig zs) (k : Dc.Dig qs) : Dc.Dig (zs ++ qs) := by
  intro x hx
  rcases List.mem_append.1 hx with h1 | h1
  · exact h x h1
  · exact k x h1
theorem pos_cn {zs : List Int} (h : Dc.Dig zs) (c : Dc.Cn zs) (hl : 0 < zs.length) : 0 < Dc.val zs := by
  have h1 := Dc.val_ge zs h c (by intro e; rw [e] at hl; simp at hl)
  have h2 := Dc.pow_pos (zs.length - 1)
  omega
theorem take_more {Z qs : List Int} {k : Nat} (hk : k < qs.length) : (Z ++ qs.take k) ++ [qs.getD k 0] = Z ++ qs.take (k + 1) := by
  rw [List.append_assoc, List.take_add_one, List.getD_eq_getElem?_getD, List.getElem?_eq_getElem hk]
  rfl
theorem up_fact (a : Int) (k : Nat) (ds ss qs rs : List Int) (h1 : Dc.val ds = (a.natAbs : Int)) (h2 : Dc.val ss = 10 ^ k) (dq : Dc.Dig qs) (dr : Dc.Dig rs) (cr : Dc.Cn rs)
    (h3 : Dc.val ds = Dc.val qs * Dc.val ss + Dc.val rs) (h4 : Dc.val rs < Dc.val ss) :
    (rs.length = 0 → Dc.val qs * 10 ^ k = (upP a.natAbs k : Nat)) ∧ (0 < rs.length → (Dc.val qs + 1) * 10 ^ k = (upP a.natAbs k : Nat)) := by
  have hq := Dc.val_nonneg qs dq
  have hr := Dc.val_nonneg rs dr
  obtain ⟨q, eq⟩ := Int.eq_ofNat_of_zero_le hq
  obtain ⟨r, er⟩ := Int.eq_ofNat_of_zero_le hr
  have hp : 0 < 10 ^ k := Nat.pow_pos (by omega)
  have hpc : ((10 : Int) ^ k) = ((10 ^ k : Nat) : Int) := by simp
  rw [h1, h2, eq, er, hpc] at h3
  rw [h2, er, hpc] at h4
  have e3 : a.natAbs = q * 10 ^ k + r := by exact_mod_cast h3
  have e4 : r < 10 ^ k := by exact_mod_cast h4
  refine ⟨fun hl => ?_, fun hl => ?_⟩
  · have e : rs = [] := List.eq_nil_of_length_eq_zero hl
    rw [e] at er
    have r0 : r = 0 := by simp [Dc.val] at er; omega
    unfold upP
    rw [up_none _ q _ hp (by omega), eq, hpc]
    simp
  · have hpos := pos_cn dr cr hl
    unfold upP
    rw [up_some _ q r _ e3 (by omega) e4, eq, hpc]
    push_cast
    rfl

set_option maxRecDepth 100000 in
set_option maxHeartbeats 8000000 in
theorem up9_ref (a p : Int) (w : World) (ha1 : -9223372036854775808 ≤ a) (ha2 : a ≤ 9223372036854775807) (hp1 : -15 ≤ p) :
    Calls Tryz.prog 107 #[.int .i64 a, .int .i64 p] w fun e w' => e = .returned (.agg (upV a p).cells) ∧ Below w.heap.size w w' := by
  unfold upV
  by_cases hp3 : 3 < p
  · rw [if_pos hp3]
    have HC := hide (fun w => n_ref a w)
    generalize vN a = V at HC ⊢
    go_enter Tryz.func107, Tryz.ntmps107
    go_wp2_with fail
    refine (unhide HC _).mono ?_
    rintro e wz ⟨rfl, bz⟩
    have hf := five_below (five_new w 29 _ _ _ _ _) bz (five_lt (five_new w 29 _ _ _ _ _))
    obtain ⟨⟨⟨x0, c0⟩, ⟨x1, c1⟩, ⟨x2, c2⟩, ⟨x3, c3⟩, x4, c4⟩, f0, f1, f2, f3, f4⟩ := five_all hf
    have HF := hide hf
    have HB := hide (below_nx (below_al w _) bz)
    clear hf bz
    unfold Vl.cells
    go_wp2
    refine bodyPost_ret (results_cell_row rfl _ _ _ _ _ _ _ rfl (five_set (unhide HF) _ _ _ _ _).1 Tryz.underlying29 rfl infoRef) rfl ?_
    exact ⟨rfl, below_five (unhide HB) (Nat.le_refl _) _ _ _ _ _⟩
  rw [if_neg hp3]
  obtain ⟨i0, hi, hz0, hz1, hz2⟩ := info_parts info3
  obtain ⟨n, hn⟩ : ∃ n : Nat, (4 - p).toNat = n := ⟨_, rfl⟩
  rw [hn]
  have hpn : p + (n : Int) = 4 := by omega
  have hn19 : n ≤ 19 := by omega
  clear hn
  obtain ⟨V, hV⟩ : ∃ V, toldV (sgnN (decide (a < 0)) (upP a.natAbs n : Nat), sgnE (upP a.natAbs n : Nat)) = V := ⟨_, rfl⟩
  rw [hV]
  have HV := hide hV
  clear hV
  go_enter Tryz.func107, Tryz.ntmps107
  go_upto_region 1 with fail
  have HX := hide (five_new w 29 (.int .i64 0) (.int .i64 0) (.string ⟨#[]⟩) (.bool false) (.int .i64 0))
  have HB0 := hide (below_al w (.cells #[.int .i64 0, .int .i64 0, .string ⟨#[]⟩, .bool false, .int .i64 0] 29))
  generalize hW : w.alloc (.cells #[.int .i64 0, .int .i64 0, .string ⟨#[]⟩, .bool false, .int .i64 0] 29) = w1 at HX HB0 ⊢
  clear hW
  go_wp2
  go_loopw [5, 6] (fun v u wr => ∃ zs : List Int, u = .int .i64 (p + (zs.length : Int)) ∧ zs.length ≤ n ∧ Hid (wr.ownsRow w1.heap.size 3 1 v zs.length (zs.map (Value.int .i64))) ∧ Hid (Below w1.heap.size w1 wr) ∧ Hid (Dc.Dig zs ∧ Dc.val zs = 0)) (fun _ u _ => (4 - intOf u).toNat)
  case atStart => exact ⟨[], by simp, Nat.zero_le _, hide (World.ownsRow_made w1 #[] 0 (Nat.le_refl _) (by unfold maxLen; omega) rfl), hide (below_al w1 _), hide ⟨fun x hx => by simp at hx, by simp [Dc.val]⟩⟩
  case round =>
    obtain ⟨zs, rfl, hl, HO, HB, HZ⟩ := hrel
    by_cases hlt : zs.length < n
    · have hlt' : p + (zs.length : Int) < 4 := by omega
      go_wp2_with (first
        | (at_builtin; refine wpList_append_own _ rfl _ _ 49 rfl w1.heap.size 3 i0 (.int .i64 0) 1 8 Tryz.underlying49 hi hz0 hz1 hz2 rfl (by decide) _ _ _ rfl ((unhide HO).alloc _) ⟨wr.heap.size, 0, none⟩ 1 1 [.int .i64 0] rfl rfl (one_cell _ _ _) (one_one _) (by unfold maxLen; omega) (by omega) (by have := (unhide HB).size; simp; omega) ?_)
        | go_in)
      intro v' wn hown' hgrow _
      have RS := hide (own_step (unhide HB) (unhide HB).size (unhide HO) hown' hgrow)
      clear hown' hgrow
      go_wp2
      go_roundw
      case rel => exact ⟨zs ++ [0], int_eqv (by simp; omega), by simp; omega, hide (unhide RS).1, hide (unhide RS).2, hide ⟨dig_snoc (unhide HZ).1 (by omega) (by omega), by rw [val_snoc, (unhide HZ).2]; omega⟩⟩
      case measure => simp [intOf]; omega
    · have hln : zs.length = n := by omega
      have HZ1 : Hid (Dc.Dig (zs ++ [1]) ∧ Dc.Cn (zs ++ [1]) ∧ Dc.val (zs ++ [1]) = 10 ^ n ∧ (zs ++ [1]).length ≤ 20) := hide ⟨dig_snoc (unhide HZ).1 (by omega) (by omega), cn_snoc (by omega), by rw [val_snoc, (unhide HZ).2, hln]; omega, by simp; omega⟩
      have hge : 4 ≤ p + (zs.length : Int) := by omega
      clear hln
      go_wp2_with (first
        | (at_builtin; refine wpList_append_own _ rfl _ _ 49 rfl w1.heap.size 3 i0 (.int .i64 0) 1 8 Tryz.underlying49 hi hz0 hz1 hz2 rfl (by decide) _ _ _ rfl ((unhide HO).alloc _) ⟨wr.heap.size, 0, none⟩ 1 1 [.int .i64 1] rfl rfl (one_cell _ _ _) (one_one _) (by unfold maxLen; omega) (by omega) (by have := (unhide HB).size; simp; omega) ?_)
        | go_in)
      intro v' wn hown' hgrow _
      have RS := hide (own_step (unhide HB) (unhide HB).size (unhide HO) hown' hgrow)
      clear hown' hgrow
      have HA := hide (arr_of_owns rfl (unhide RS).1)
      have HB2 := hide (unhide RS).2
      generalize zs ++ [1] = ss at HZ1 HA
      clear RS HO HB HZ hge hl hlt
      go_wp2_with fail
      refine (digits_ref a _ ha1 ha2).mono ?_
      rintro e w2 ⟨b2, vd, ds, rfl, d1, d2, d3, d4, d5, _⟩
      have HB3 := hide (below_next (unhide HB2) b2)
      have HA2 := hide ((unhide HA).below (Nat.le_refl _) b2)
      have HD := hide (And.intro d1 (And.intro d2 (And.intro d3 (And.intro d4 d5))))
      clear d1 d2 d3 d4 d5 b2 HA HB2
      go_wp2_with fail
      refine (over_ref vd _ ds ss _ (by have := (unhide HD).2.2.2.2; omega) (by have := (unhide HZ1).2.2.2; omega) (unhide HD).1 (unhide HA2) (unhide HD).2.1 (unhide HZ1).1 (unhide HZ1).2.1 (by rw [(unhide HZ1).2.2.1]; exact Dc.pow_pos n)).mono ?_
      rintro e w3 ⟨b3, vq, vr, qs, rs, rfl, aq, ar, dq, cq, dr, cr, o1, o2, o3, o4, o5⟩
      have HUF := hide (up_fact a n ds ss qs rs (unhide HD).2.2.2.1 (unhide HZ1).2.2.1 dq dr cr o1 o2)
      have HB4 := hide (below_next (unhide HB3) b3)
      have HQ := hide (And.intro aq (And.intro dq (And.intro cq (show qs.length ≤ 19 by have := (unhide HD).2.2.2.2; omega))))
      obtain ⟨ra, rcap, rfl, _⟩ := arr_open ar
      obtain ⟨lr, hlr⟩ : ∃ lr, rs.length = lr := ⟨_, rfl⟩
      rw [hlr] at HUF ⊢
      have hlr9 : lr ≤ 20 := by have := (unhide HZ1).2.2.2; omega
      clear hlr aq ar dq cq dr cr o1 o2 o3 o4 o5 b3 HB3 HA2 HD HZ1
      go_upto_if 41 with fail
      go_cut [8, 41] from 44 (fun q _ wx => ∃ qs : List Int, Hid (Arr wx q qs ∧ Dc.Dig qs ∧ Dc.Cn qs ∧ Dc.val qs * 10 ^ n = (upP a.natAbs n : Nat) ∧ qs.length ≤ 20) ∧ Hid (Below w1.heap.size w1 wx))
      case first =>
        by_cases hr0 : lr = 0
        · subst hr0
          have HP := hide ((unhide HUF).1 rfl)
          go_wp2
          go_meet
          case rel => exact ⟨qs, hide ⟨(unhide HQ).1, (unhide HQ).2.1, (unhide HQ).2.2.1, unhide HP, by have := (unhide HQ).2.2.2; omega⟩, HB4⟩
        · have hrp : 0 < (lr : Int) := by omega
          have HP := hide ((unhide HUF).2 (by omega))
          go_wp2_with fail
          refine (plus1_ref vq qs _ (by have := (unhide HQ).2.2.2; omega) (unhide HQ).1 (unhide HQ).2.1 (unhide HQ).2.2.1).mono ?_
          rintro e w4 ⟨b4, v4, us, rfl, u1, u2, u3, u4, u5, _⟩
          have HU := hide (And.intro u1 (And.intro u2 (And.intro u3 (And.intro u4 u5))))
          have HB5 := hide (below_next (unhide HB4) b4)
          clear u1 u2 u3 u4 u5 b4
          go_wp2
          go_meet
          case rel => exact ⟨us, hide ⟨(unhide HU).1, (unhide HU).2.1, (unhide HU).2.2.1, by rw [(unhide HU).2.2.2.1]; exact unhide HP, by have := (unhide HU).2.2.2.2; have := (unhide HQ).2.2.2; omega⟩, HB5⟩
      case rest =>
        obtain ⟨us, HU, HB5⟩ := hcut
        clear HUF HQ HB4
        obtain ⟨qa, qcap, rfl, hqo⟩ := arr_open (unhide HU).1
        have HQO := hide hqo
        have HUL := hide (show us.length ≤ 20 from (unhide HU).2.2.2.2)
        have HUF := hide (And.intro (unhide HU).2.1 (And.intro (unhide HU).2.2.1 (unhide HU).2.2.2.1))
        have HX5 := hide (five_below (unhide HX) (unhide HB5) (five_lt (unhide HX)))
        have HB6 := hide (below_nx (unhide HB0) (unhide HB5))
        obtain ⟨lq, hlq⟩ : ∃ lq, us.length = lq := ⟨_, rfl⟩
        rw [hlq] at HQO HUL ⊢
        have HLQ := hide hlq
        have hlq9 : lq ≤ 20 := unhide HUL
        clear hqo hlq HU HUL HX HB0 HB5
        go_wp2_with (first
          | (at_make; refine wpList_make_own _ rfl _ _ 49 rfl wc.heap.size 3 i0 (.int .i64 0) 1 Tryz.underlying49 hi hz0 hz1 _ _ _ 40 rfl rfl rfl (by rw [hz2]; omega) (by unfold maxLen; omega) (Nat.le_refl _) ?_)
          | go_in)
        intro w5 hown hgrow
        have HB7 : Hid (Below wc.heap.size wc w5) := hide ((Below.refl _ _).grown hgrow (Nat.le_refl _) (fun k hk => by cases hk))
        have HO := hide hown
        clear hown hgrow
        go_wp2
        go_loopw [10, 11] (fun v u wr => ∃ zs : List Int, u = .int .i64 (p + (zs.length : Int)) ∧ zs.length ≤ n ∧ Hid (wr.ownsRow wc.heap.size 3 1 v zs.length (zs.map (Value.int .i64))) ∧ Hid (Below wc.heap.size wc wr) ∧ Hid (Dc.Dig zs ∧ Dc.val zs = 0)) (fun _ u _ => (4 - intOf u).toNat)
        case atStart => exact ⟨[], by simp, Nat.zero_le _, HO, HB7, hide ⟨fun x hx => by simp at hx, by simp [Dc.val]⟩⟩
        case round =>
          clear HO HB7
          obtain ⟨zs, rfl, hl, HO, HB, HZ⟩ := hrel
          by_cases hlt : zs.length < n
          · have hlt' : p + (zs.length : Int) < 4 := by omega
            go_wp2_with (first
              | (at_builtin; refine wpList_append_own _ rfl _ _ 49 rfl wc.heap.size 3 i0 (.int .i64 0) 1 8 Tryz.underlying49 hi hz0 hz1 hz2 rfl (by decide) _ _ _ rfl ((unhide HO).alloc _) ⟨wr.heap.size, 0, none⟩ 1 1 [.int .i64 0] rfl rfl (one_cell _ _ _) (one_one _) (by unfold maxLen; omega) (by omega) (by have := (unhide HB).size; simp; omega) ?_)
              | go_in)
            intro v' wn hown' hgrow _
            have RS := hide (own_step (unhide HB) (unhide HB).size (unhide HO) hown' hgrow)
            clear hown' hgrow
            go_wp2
            go_roundw
            case rel => exact ⟨zs ++ [0], int_eqv (by simp; omega), by simp; omega, hide (unhide RS).1, hide (unhide RS).2, hide ⟨dig_snoc (unhide HZ).1 (by omega) (by omega), by rw [val_snoc, (unhide HZ).2]; omega⟩⟩
            case measure => simp [intOf]; omega
          · have hge : 4 ≤ p + (zs.length : Int) := by omega
            have HZL : Hid (zs.length = n) := hide (by omega)
            clear hl hlt
            go_wp2
            go_loopw [10, 12] (fun v u wr => ∃ (k : Nat) (os : List Int), u = .int .i64 (k : Int) ∧ k ≤ lq ∧ os.length ≤ 39 ∧ Hid (wr.ownsRow wc.heap.size 3 1 v os.length (os.map (Value.int .i64))) ∧ Hid (Below wc.heap.size wc wr) ∧ Hid (os = zs ++ us.take k ∧ os.length = n + k)) (fun _ u _ => (lq - intOf u).toNat)
            case atStart => exact ⟨0, zs, rfl, Nat.zero_le _, by rw [unhide HZL]; omega, HO, HB, hide ⟨by simp, by rw [unhide HZL]; simp⟩⟩
            case round =>
              clear HO HB
              obtain ⟨k, os, rfl, hk, hos, HO, HB, HK⟩ := hrel
              by_cases hkq : k < lq
              · obtain ⟨bq, oq, rfl, bq1, cq⟩ := unhide HQO (by omega)
                have cq := cq k hkq
                rw [← (unhide HB).cell (p := ⟨bq, oq + k, none⟩) bq1] at cq
                have HT := hide (take_more (Z := zs) (qs := us) (k := k) (by rw [unhide HLQ]; exact hkq))
                obtain ⟨y, hy⟩ : ∃ y, us.getD k 0 = y := ⟨_, rfl⟩
                rw [hy] at cq HT
                clear hy
                go_wp2_with (first
                  | (at_builtin; refine wpList_append_own _ rfl _ _ 49 rfl wc.heap.size 3 i0 (.int .i64 0) 1 8 Tryz.underlying49 hi hz0 hz1 hz2 rfl (by decide) _ _ _ rfl ((unhide HO).alloc _) ⟨wr.heap.size, 0, none⟩ 1 1 [.int .i64 y] rfl rfl (one_cell _ _ _) (one_one _) (by unfold maxLen; omega) (by omega) (by have := (unhide HB).size; simp; omega) ?_)
                  | go_in)
                intro v' wn hown' hgrow _
                have RS := hide (own_step (unhide HB) (unhide HB).size (unhide HO) hown' hgrow)
                clear hown' hgrow
                go_wp2
                go_roundw
                case rel => exact ⟨k + 1, os ++ [y], by go_num, by omega, by have := (unhide HK).2; simp; omega, hide (unhide RS).1, hide (unhide RS).2, hide ⟨by rw [(unhide HK).1, unhide HT], by have := (unhide HK).2; simp; omega⟩⟩
                case measure => simp [intOf]; omega
              · have hk2 : k = lq := by omega
                subst hk2
                have hEO : os = zs ++ us := by rw [(unhide HK).1, List.take_of_length_le (by rw [unhide HLQ]; exact Nat.le_refl _)]
                have HBX := hide (five_below (unhide HX5) (unhide HB) (five_lt (unhide HX5)))
                have HBZ := hide (below_nx (unhide HB6) (unhide HB))
                have HAO := hide (arr_of_owns rfl (unhide HO))
                have HV2 : Hid (∀ z : Int, z = (upP a.natAbs n : Nat) → toldV (sgnN (decide (a < 0)) z, sgnE z) = V) := hide (fun z hz => by rw [hz]; exact unhide HV)
                have HVO : Hid (0 < k → Dc.Dig os ∧ Dc.Cn os ∧ Dc.val os = (upP a.natAbs n : Nat)) := hide (fun h => by
                  rw [hEO]
                  refine ⟨dig_app (unhide HZ).1 (unhide HUF).1, cn_app (unhide HUF).2.1 (by rw [unhide HLQ]; exact h), ?_⟩
                  rw [Dc.val_append, (unhide HZ).2, unhide HZL, ← (unhide HUF).2.2, Int.mul_comm]
                  omega)
                have HV0 : Hid (k = 0 → (upP a.natAbs n : Nat) = (0 : Int)) := hide (fun h => by
                  have e : us = [] := List.eq_nil_of_length_eq_zero (by rw [unhide HLQ]; exact h)
                  rw [← (unhide HUF).2.2, e]
                  simp [Dc.val])
                clear HO HB HK HX5 HB6 hEO HUF HV
                by_cases hk0 : k = 0
                · subst hk0
                  have HZ0 := hide (unhide HV0 rfl)
                  clear HVO HV0
                  go_wp2_with fail
                  refine (number_ref (.slice none 0 0) [] _ _ (by simp) (Or.inl ⟨rfl, none, 0, rfl⟩) (by intro x hx; simp at hx) (by intro x l' e; simp at e)).mono ?_
                  rintro e w6 ⟨rfl, b6⟩
                  have HX7 := hide (five_below (unhide HBX) b6 (five_lt (unhide HBX)))
                  have HB7 := hide (below_nx (unhide HBZ) b6)
                  have HC := hide (fun w => told_ref (sgnN (decide (a < 0)) (Dc.val [])) (sgnE (Dc.val [])) w)
                  rw [unhide HV2 _ (by rw [unhide HZ0]; simp [Dc.val])] at HC
                  generalize sgnN (decide (a < 0)) (Dc.val []) = g1 at HC ⊢
                  generalize sgnE (Dc.val []) = g2 at HC ⊢
                  clear b6
                  go_wp2_with fail
                  refine (unhide HC _).mono ?_
                  rintro e wz ⟨rfl, bz⟩
                  have hf := five_below (unhide HX7) bz (five_lt (unhide HX7))
                  obtain ⟨⟨⟨x0, c0⟩, ⟨x1, c1⟩, ⟨x2, c2⟩, ⟨x3, c3⟩, x4, c4⟩, f0, f1, f2, f3, f4⟩ := five_all hf
                  have HF := hide hf
                  have HB := hide (below_nx (unhide HB7) bz)
                  clear hf bz
                  unfold Vl.cells
                  go_wp2
                  try simp only [Exit.inBlock, Exit.then]
                  refine bodyPost_ret (results_cell_row rfl _ _ _ _ _ _ _ rfl (five_set (unhide HF) _ _ _ _ _).1 Tryz.underlying29 rfl infoRef) rfl ?_
                  exact ⟨rfl, below_five (unhide HB) (Nat.le_refl _) _ _ _ _ _⟩
                · have HZ0 := hide (unhide HVO (by omega))
                  clear HVO HV0
                  have hk0i : ¬ (k : Int) = 0 := by omega
                  go_wp2_with fail
                  refine (number_ref _ os _ _ (by omega) (unhide HAO) (unhide HZ0).1 (unhide HZ0).2.1).mono ?_
                  rintro e w6 ⟨rfl, b6⟩
                  have HX7 := hide (five_below (unhide HBX) b6 (five_lt (unhide HBX)))
                  have HB7 := hide (below_nx (unhide HBZ) b6)
                  have HC := hide (fun w => told_ref (sgnN (decide (a < 0)) (Dc.val os)) (sgnE (Dc.val os)) w)
                  rw [unhide HV2 _ (unhide HZ0).2.2] at HC
                  generalize sgnN (decide (a < 0)) (Dc.val os) = g1 at HC ⊢
                  generalize sgnE (Dc.val os) = g2 at HC ⊢
                  clear b6
                  go_wp2_with fail
                  refine (unhide HC _).mono ?_
                  rintro e wz ⟨rfl, bz⟩
                  have hf := five_below (unhide HX7) bz (five_lt (unhide HX7))
                  obtain ⟨⟨⟨x0, c0⟩, ⟨x1, c1⟩, ⟨x2, c2⟩, ⟨x3, c3⟩, x4, c4⟩, f0, f1, f2, f3, f4⟩ := five_all hf
                  have HF := hide hf
                  have HB := hide (below_nx (unhide HB7) bz)
                  clear hf bz
                  unfold Vl.cells
                  go_wp2
                  try simp only [Exit.inBlock, Exit.then]
                  refine bodyPost_ret (results_cell_row rfl _ _ _ _ _ _ _ rfl (five_set (unhide HF) _ _ _ _ _).1 Tryz.underlying29 rfl infoRef) rfl ?_
                  exact ⟨rfl, below_five (unhide HB) (Nat.le_refl _) _ _ _ _ _⟩
end Go.Proofs.YtbeijnflfmjgfaaGreatDoor

namespace Go.Proofs.YtbeijnflfmjgfaaGreatDoor
open Go.RowKit

theorem digits2_step (a x : Nat) (zs : List Int) (hd : Dc.Dig zs) (hv : Dc.val zs + 10 ^ zs.length * (x : Int) = (a : Int)) (hx : x ≠ 0) (ha : a < 18446744073709551616) :
    zs.length ≤ 19 ∧ Dc.Dig (zs ++ [((x % 10 : Nat) : Int)]) ∧ Dc.val (zs ++ [((x % 10 : Nat) : Int)]) + 10 ^ (zs ++ [((x % 10 : Nat) : Int)]).length * ((x / 10 : Nat) : Int) = (a : Int) ∧
      (x / 10 = 0 → Dc.Cn (zs ++ [((x % 10 : Nat) : Int)])) := by
  have hn := Dc.val_nonneg zs hd
  have hp := Dc.pow_pos zs.length
  refine ⟨?_, dig_snoc hd (by omega) (by omega), ?_, fun h => cn_snoc (by omega)⟩
  · rcases Nat.lt_or_ge 19 zs.length with h | h
    · have h3 : (10 : Int) ^ 20 ≤ 10 ^ zs.length := Dc.pow_le (by omega)
      have h4 : (10 : Int) ^ zs.length * 1 ≤ 10 ^ zs.length * (x : Int) := Int.mul_le_mul_of_nonneg_left (by omega) (by omega)
      have e : (10 : Int) ^ 20 = 100000000000000000000 := by decide
      omega
    · exact h
  · rw [val_snoc, List.length_append, List.length_singleton, Int.pow_succ, Int.mul_assoc, Int.add_assoc, ← Int.mul_add, ← hv]
    congr 2
    omega

set_option maxRecDepth 100000 in
set_option maxHeartbeats 2000000 in
theorem digits2_ref (a : Nat) (w : World) (h : a < 18446744073709551616) :
    Calls Tryz.prog 149 #[.int .u64 (a : Int)] w fun e w' => NumPost (a : Int) 20 w e w' := by
  obtain ⟨i0, hi, hz0, hz1, hz2⟩ := info_parts info3
  go_enter Tryz.func149, Tryz.ntmps149
  go_wp2
  go_loopw [0, 3] (fun t v wr => ∃ (x : Nat) (zs : List Int), t = .int .u64 (x : Int) ∧ x < 18446744073709551616 ∧ wr.ownsRow w.heap.size 3 1 v zs.length (zs.map (Value.int .i64)) ∧ Below w.heap.size w wr ∧
      Hid (Dc.Dig zs ∧ Dc.val zs + 10 ^ zs.length * (x : Int) = (a : Int) ∧ (x = 0 → Dc.Cn zs) ∧ zs.length ≤ 20)) (fun t _ _ => (intOf t).toNat)
  case atStart => exact ⟨a, [], rfl, h, World.ownsRow_nil _ _ _ _, Below.refl _ _, hide ⟨fun x hx => by simp at hx, by simp [Dc.val], fun _ x l' e => by simp at e, by simp⟩⟩
  case round =>
    obtain ⟨x, zs, rfl, hx1, hown, hb, HZ⟩ := hrel
    by_cases hx0 : x = 0
    · obtain ⟨z1, z2, z3, z4⟩ := unhide HZ
      have HC := hide (z3 hx0)
      subst hx0
      have HV : Hid (Dc.val zs = (a : Int)) := hide (by simpa using z2)
      clear HZ z2 z3
      go_wp2
      go_ret
      exact ⟨hb, _, zs, rfl, arr_of_owns rfl hown, z1, unhide HC, unhide HV, z4, fr_of_owns hown⟩
    · obtain ⟨z1, z2, z3, z4⟩ := unhide HZ
      obtain ⟨s1, s2, s3, s4⟩ := digits2_step a x zs z1 z2 hx0 h
      have hxb : ((x : Int) == 0) = false := by rw [beq_eq_false_iff_ne]; omega
      obtain ⟨k, hk⟩ : ∃ k : Int, ((x % 10 : Nat) : Int) = k := ⟨_, rfl⟩
      obtain ⟨q, hq⟩ : ∃ q : Nat, x / 10 = q := ⟨_, rfl⟩
      have e1 : (x : Int) % 10 = k := by omega
      have e2 : (x : Int) / 10 = (q : Int) := by omega
      have kb : 0 ≤ k ∧ k ≤ 9 := by omega
      rw [hk, hq] at s3
      rw [hk] at s2
      rw [hk, hq] at s4
      have S := hide (And.intro s2 (And.intro s3 s4))
      have HM : Hid (q < x ∧ q < 18446744073709551616) := hide (by omega)
      have HB := hide hb
      have HO := hide hown
      have HX0 := hide hx0
      obtain ⟨k1, k2⟩ := kb
      clear HZ z1 z2 z3 z4 s2 s3 s4 hb hown hx0 hk hq
      go_wp2_with (first
        | (at_builtin; refine wpList_append_own _ rfl _ _ 49 rfl w.heap.size 3 i0 (.int .i64 0) 1 8 Tryz.underlying49 hi hz0 hz1 hz2 rfl (by decide) _ _ _ rfl ((unhide HO).alloc _) ⟨wr.heap.size, 0, none⟩ 1 1 [.int .i64 k] rfl rfl (one_cell _ _ _) (one_one _) (by unfold maxLen; omega) (by omega) (by have := (unhide HB).size; simp; omega) ?_)
        | go_in)
      · intro v' w1 hown' hgrow _
        have hB := (unhide HB).size
        have R := hide (own_step (unhide HB) hB (unhide HO) hown' hgrow)
        clear hown' hgrow
        go_wp2
        go_roundw
        case rel =>
          have S' := unhide S
          exact ⟨q, zs ++ [k], rfl, (unhide HM).2, (unhide R).1, (unhide R).2, hide ⟨S'.1, S'.2.1, S'.2.2, by simp; omega⟩⟩
        case measure => have := (unhide HM).1; simp [intOf]; omega

theorem len_of_val (zs : List Int) (hd : Dc.Dig zs) (hc : Dc.Cn zs) (m : Nat) (h : Dc.val zs < 10 ^ m) : zs.length ≤ m := by
  rcases Nat.lt_or_ge m zs.length with h1 | h1
  · exfalso
    have h2 := Dc.val_ge zs hd hc (by intro e; subst e; simp at h1)
    have h3 : (10 : Int) ^ m ≤ 10 ^ (zs.length - 1) := Dc.pow_le (by omega)
    omega
  · exact h1
theorem arr_one (w : World) (a : Int) (t : TypeId) : Arr (w.alloc (.cells #[.int .i64 a] t)) (.slice (some ⟨w.heap.size, 0, none⟩) 1 1) [a] := by
  refine Or.inr ⟨w.heap.size, 0, 1, rfl, Nat.le_refl _, by simp, ?_⟩
  intro i hi
  match i, hi with
  | 0, _ => simp [go_sem]
theorem dig_k1 (a : Int) (h0 : 0 ≤ a) (h9 : a ≤ 9) : Dc.Dig [a] := by
  intro x hx
  simp at hx
  omega
theorem cn_k1 (a : Int) (h : a ≠ 0) : Dc.Cn [a] := cn_snoc (zs := []) h
theorem two_pow_lt (k : Nat) (h : k ≤ 121) : (2 : Int) ^ k < 10 ^ 37 := by
  have h1 : (2 : Nat) ^ k ≤ 2 ^ 121 := Nat.pow_le_pow_right (by omega) h
  have h2 : (2 : Nat) ^ 121 < 10 ^ 37 := by decide
  have h3 : ((2 ^ k : Nat) : Int) < ((10 ^ 37 : Nat) : Int) := by omega
  rw [Int.natCast_pow, Int.natCast_pow] at h3
  exact h3

set_option maxRecDepth 100000 in
set_option maxHeartbeats 2000000 in
theorem power_ref (n : Nat) (w : World) (hn : n ≤ 120) :
    Calls Tryz.prog 150 #[.int .i64 (n : Int)] w fun e w' => Below w.heap.size w w' ∧ ∃ v zs, e = .returned v ∧ Arr w' v zs ∧ Dc.Dig zs ∧ Dc.Cn zs ∧ Dc.val zs = 2 ^ n ∧ zs.length ≤ 37 := by
  go_enter Tryz.func150, Tryz.ntmps150
  go_wp2
  go_loopw [3, 4] (fun v t wr => ∃ (k : Nat) (zs : List Int), t = .int .i64 (k : Int) ∧ k ≤ n ∧ zs.length ≤ 37 ∧ Hid (Arr wr v zs ∧ Dc.Dig zs ∧ Dc.Cn zs ∧ Dc.val zs = 2 ^ k) ∧ Hid (Below w.heap.size w wr)) (fun _ t _ => n - (intOf t).toNat)
  case atStart => exact ⟨0, [1], rfl, by omega, by simp, hide ⟨arr_one _ _ _, dig_k1 1 (by omega) (by omega), cn_k1 1 (by omega), by decide⟩, hide (below_alloc _ _)⟩
  case round =>
    obtain ⟨k, zs, rfl, hk, hl, HZ, HB⟩ := hrel
    by_cases hkn : k < n
    · go_wp2_with fail
      refine (product_ref _ _ zs [2] _ (by omega) (by simp) ((unhide HZ).1.below (Nat.le_refl _) (below_alloc _ _)) (arr_one _ _ _) (unhide HZ).2.1 (dig_k1 2 (by omega) (by omega))).mono ?_
      rintro e w2 ⟨b2, v2, z2, rfl, r2, d2, c2, n2, l2, _⟩
      have e2 : Dc.val z2 = 2 ^ (k + 1) := by
        rw [n2, (unhide HZ).2.2.2, show Dc.val [2] = 2 from by decide, Int.pow_succ]
      have l2' : z2.length ≤ 37 := len_of_val z2 d2 c2 37 (by rw [e2]; exact two_pow_lt _ (by omega))
      have H2 := hide (And.intro r2 (And.intro d2 (And.intro c2 e2)))
      have B2 : Hid (Below w.heap.size w w2) := hide (((unhide HB).alloc (unhide HB).size _).trans (b2.mono (by simp; have := (unhide HB).size; omega)))
      clear r2 d2 c2 n2 e2 l2 b2
      go_wp2
      go_roundw
      case rel => exact ⟨k + 1, z2, by go_num, by omega, l2', H2, B2⟩
      case measure => simp [intOf]; omega
    · have : k = n := by omega
      subst this
      go_wp2
      go_ret
      exact ⟨unhide HB, _, zs, rfl, (unhide HZ).1, (unhide HZ).2.1, (unhide HZ).2.2.1, (unhide HZ).2.2.2, hl⟩
end Go.Proofs.YtbeijnflfmjgfaaGreatDoor
