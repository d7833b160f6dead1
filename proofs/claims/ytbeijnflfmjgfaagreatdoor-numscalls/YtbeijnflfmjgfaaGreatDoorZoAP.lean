/- The contract of Ratio: the class of the quotient, and its word. -/
import Derived.BigQuiet
import Derived.BigRegion
import Derived.Deep.AppendLies
import Derived.Deep.CutBlock
import Derived.Deep.CutRange
import Derived.Deep.DeepFit
import Derived.Deep.QuietTactic
import Derived.Deep.RegionHeld3
import Derived.Deep.RegionWith
import Derived.Deep.WholeRow
import Derived.Laws.Bits64b
import Derived.Laws.BitsAllLaws
import Derived.Laws.CopyOwn
import Derived.Laws.EntriesVeiled
import Derived.Laws.FloatArith
import Derived.Laws.IdiomStrings
import Derived.Laws.Rows
import Derived.Laws.StructEq
import Derived.Laws.Tables
import Derived.Lib.BitFns
import Derived.Lib.IndexBytes
import Derived.Lib.ItoaMem
import Derived.Lib.ItoaNum
import Derived.Lib.TrimByte
import Derived.Lib.Walk
import Derived.OwnWalk
import Derived.Shelf.Abstract
import Derived.Shelf.Bits.Mul64
import Derived.Shelf.LaysM
import Derived.Shelf.Small.Bits
import Derived.Shelf.Small.Strs
import Derived.Shelf.Small.Wraps
import Derived.Shelf.Strconv.Itoa0
import Derived.Shelf.Strconv.Itoa1
import Derived.Shelf.Strconv.Itoa2
import Derived.Shelf.Strings.AsciiSet
import Derived.Shelf.Strings.Cut
import Derived.Shelf.Strings.Prefix
import Derived.Shelf.Strings.Search1
import Derived.Shelf.Strings.Search2
import Derived.Shelf.Strings.Shaped
import Derived.Shelf.Strings.Trim
import Derived.Test.YtbeijnflfmjgfaaGreatDoorProg
import Derived.Test.YtbeijnflfmjgfaaGreatDoorRows
import Derived.WalkKit
import Derived.WalkLawsBesides
import Derived.WalkSmall
import Derived.WalkSpells
import Ieee.Arith
import Derived.Test.YtbeijnflfmjgfaaGreatDoorZoAA
import Derived.Test.YtbeijnflfmjgfaaGreatDoorZoAB
import Derived.Test.YtbeijnflfmjgfaaGreatDoorZoAC
import Derived.Test.YtbeijnflfmjgfaaGreatDoorZoAD
import Derived.Test.YtbeijnflfmjgfaaGreatDoorZoAE
import Derived.Test.YtbeijnflfmjgfaaGreatDoorZoAF
import Derived.Test.YtbeijnflfmjgfaaGreatDoorZoAG
import Derived.Test.YtbeijnflfmjgfaaGreatDoorZoAH
import Derived.Test.YtbeijnflfmjgfaaGreatDoorZoAI
import Derived.Test.YtbeijnflfmjgfaaGreatDoorZoAJ
import Derived.Test.YtbeijnflfmjgfaaGreatDoorZoAK
import Derived.Test.YtbeijnflfmjgfaaGreatDoorZoAL
import Derived.Test.YtbeijnflfmjgfaaGreatDoorZoAM
import Derived.Test.YtbeijnflfmjgfaaGreatDoorZoAN
import Derived.Test.YtbeijnflfmjgfaaGreatDoorZoAO
namespace Go.Proofs.YtbeijnflfmjgfaaGreatDoor
open Go.RowKit

set_option maxHeartbeats 1000000 in
theorem ratio_any (a b : Int) (w : World) (a1 : -9000000000000000000 ≤ a) (a2 : a ≤ 9000000000000000000) (b1 : -9000000000000000000 ≤ b) (b2 : b ≤ 9000000000000000000) :
    Calls Tryz.prog 141 #[.int .i64 a, .int .i64 b] w fun e w' => (∃ r, e = .returned (.float .f64 r) ∧ Hid (r < 18446744073709551616 ∧ clsV r = ratC a b ∧ (b ≠ 0 → r = ratW a b))) ∧ Below w.heap.size w w' := by
  have ga : toV a = toF a := by unfold toV goodN; rw [if_pos ((goodB_iff a).2 ⟨a1, a2⟩)]
  have gb : toV b = toF b := by unfold toV goodN; rw [if_pos ((goodB_iff b).2 ⟨b1, b2⟩)]
  have HG := hide (And.intro ga gb)
  by_cases hz : a = 0 ∧ b = 0
  · have HZ : ∀ n : Nat, Hid (b ≠ 0 → n = ratW a b) := fun n => hide (fun h => absurd hz.2 h)
    have hR : ratC a b = 0 := by unfold ratC; rw [if_pos hz.2, if_pos hz.1]
    have hta : toF a = 0 := by rw [hz.1]; exact toF_zero
    have htb : toF b = 0 := by rw [hz.2]; exact toF_zero
    have HT := hide (And.intro hta htb)
    rw [hR]
    clear ga gb hz hR hta htb a1 a2 b1 b2
    go_enter Tryz.func141, Tryz.ntmps141
    go_wp2_with fail
    refine (to_any a _).mono ?_
    rintro e w1 ⟨rfl, c1⟩
    rw [(unhide HG).1, (unhide HT).1]
    go_wp2_with fail
    refine (to_any b _).mono ?_
    rintro e w2 ⟨rfl, c2⟩
    rw [(unhide HG).2, (unhide HT).2]
    have c12 := below_then c1 c2
    obtain ⟨n, n1, n2, hn⟩ := run_nan w2
    have HN := hide (And.intro n1 n2)
    clear n1 n2 c1 c2
    go_wp2
    go_ret
    refine ⟨⟨n, rfl, hide ⟨(unhide HN).1, ?_, unhide (HZ n)⟩⟩, c12.drew⟩
    unfold clsV; rw [if_pos (unhide HN).2]
  · have hq : ∃ r, Ieee.double.div (toF a) (toF b) = some r ∧ r < 18446744073709551616 ∧ clsV r = ratC a b ∧ (b ≠ 0 → r = ratW a b) := by
      have key : ∀ r, Ieee.double.div (toF a) (toF b) = some r ∧ r < 18446744073709551616 ∧ clsV r = ratC a b → Ieee.double.div (toF a) (toF b) = some r ∧ r < 18446744073709551616 ∧ clsV r = ratC a b ∧ (b ≠ 0 → r = ratW a b) := fun r h => ⟨h.1, h.2.1, h.2.2, fun _ => by unfold ratW; rw [h.1]; rfl⟩
      by_cases b0 : b = 0
      · subst b0
        obtain ⟨r, h⟩ := quo_high a (fun h => hz ⟨h, rfl⟩) a1 a2
        exact ⟨r, key r h⟩
      · by_cases a0 : a = 0
        · subst a0
          obtain ⟨r, h⟩ := quo_low b b0 b1 b2
          exact ⟨r, key r h⟩
        · obtain ⟨r, h⟩ := quo_both a b a0 b0 a1 a2 b1 b2
          exact ⟨r, key r h⟩
    obtain ⟨r, hr, hr2⟩ := hq
    have HR := hide hr2
    have HQ := hide hr
    clear ga gb hz hr2 hr a1 a2 b1 b2
    go_enter Tryz.func141, Tryz.ntmps141
    go_wp2_with fail
    refine (to_any a _).mono ?_
    rintro e w1 ⟨rfl, c1⟩
    rw [(unhide HG).1]
    go_wp2_with fail
    refine (to_any b _).mono ?_
    rintro e w2 ⟨rfl, c2⟩
    rw [(unhide HG).2]
    have c12 := below_then c1 c2
    have hn := run_float_arith (P := Tryz.prog) w2 .quo 119 .f64 (toF a) (toF b) r (unhide HQ)
    clear c1 c2
    go_wp2
    go_ret
    exact ⟨⟨r, rfl, HR⟩, c12⟩

end Go.Proofs.YtbeijnflfmjgfaaGreatDoor

namespace Go.Proofs.YtbeijnflfmjgfaaGreatDoor
open Go.RowKit

set_option maxRecDepth 100000 in
set_option maxHeartbeats 4000000 in
theorem product_val (a : Int) (n : Nat) (w : World) (hn : n ≤ 100000) :
    Calls Tryz.prog 114 #[.int .i64 a, .int .i64 (n : Int)] w fun e w' => e = .returned (.tuple #[.int .i64 (powL a n 10000).1, .int .i64 (powL a n 10000).2]) ∧ Below w.heap.size w w' := by
  obtain ⟨R, hR⟩ : ∃ R, powL a n 10000 = R := ⟨_, rfl⟩
  rw [hR]
  have HR := hide hR
  clear hR
  go_enter Tryz.func114, Tryz.ntmps114
  go_wp2
  go_loopw [6, 7, 9, 11, 14] (fun t u v _ _ wr => ∃ (j : Nat) (P : Int), t = .int .i64 P ∧ v = .int .i64 (j : Int) ∧ j ≤ n ∧ Hid (Below w.heap.size w wr) ∧ Hid (powL a (n - j) P = R)) (fun _ _ v _ _ _ => (n - intOf v).toNat)
  case atStart => exact ⟨0, 10000, rfl, rfl, Nat.zero_le _, hide (Below.refl _ _), hide (unhide HR)⟩
  case round =>
    obtain ⟨j, P, rfl, rfl, hj, HB, HP⟩ := hrel
    by_cases hlt : (j : Int) < (n : Int)
    · go_wp2_with fail
      refine (mul_any P a _).mono ?_
      rintro e w1 ⟨rfl, b1⟩
      have HB1 := hide (below_nx (unhide HB) b1)
      clear b1
      have hp := unhide HP
      rw [show n - j = (n - (j + 1)) + 1 by omega] at hp
      obtain ⟨M, hM⟩ : ∃ M, mulR P a = M := ⟨_, rfl⟩
      rw [hM]
      cases h0 : (M.2 != 0)
      · have h0' : M.2 = 0 := by simpa using h0
        rw [powL_more (by rw [hM]; exact h0'), hM] at hp
        have HP1 := hide hp
        clear hp hM HP HB h0'
        go_wp2
        go_roundw
        case rel => exact ⟨j + 1, M.1, rfl, by go_num, by omega, HB1, HP1⟩
        case measure => simp [intOf]; omega
      · have h0' : M.2 ≠ 0 := by simpa using h0
        rw [powL_stop (by rw [hM]; exact h0'), hM] at hp
        clear hM HP HB h0'
        subst hp
        go_wp2
        go_ret2
        exact ⟨rfl, unhide HB1⟩
    · have hj' : j = n := by omega
      have hp := unhide HP
      rw [hj', Nat.sub_self, powL_zero] at hp
      clear HP
      subst hp
      go_wp2
      go_ret2
      exact ⟨rfl, unhide HB⟩

set_option maxHeartbeats 2000000 in
theorem power_val (a b : Int) (w : World) (_a1 : -9000000000000000000 ≤ a) (_a2 : a ≤ 9000000000000000000) (h1 : -9000000000000000000 ≤ b) (h2 : b ≤ 9000000000000000000) :
    Calls Tryz.prog 62 #[.int .i64 a, .int .i64 b] w fun e w' => e = .returned (.tuple #[.int .i64 (powG a b).1, .int .i64 (powG a b).2]) ∧ Below w.heap.size w w' := by
  have HW := hide (fun w => whole_val b w h1 h2)
  by_cases k1 : b.tmod 10000 = 0
  rotate_left
  · rw [pow_bad (Or.inl k1)]
    rw [decide_eq_false k1] at HW
    clear k1
    go_enter Tryz.func62, Tryz.ntmps62
    go_wp2_with fail
    refine (unhide HW _).mono ?_
    rintro e w1 ⟨rfl, b1⟩
    go_wp2
    go_ret2
    exact ⟨rfl, b1⟩
  rw [decide_eq_true k1] at HW
  by_cases k2 : b < -10000000
  · rw [pow_bad (Or.inr (Or.inl k2))]
    go_enter Tryz.func62, Tryz.ntmps62
    go_wp2_with fail
    refine (unhide HW _).mono ?_
    rintro e w1 ⟨rfl, b1⟩
    go_wp2
    go_ret2
    exact ⟨rfl, b1⟩
  by_cases k3 : 10000000 < b
  · rw [pow_bad (Or.inr (Or.inr k3))]
    go_enter Tryz.func62, Tryz.ntmps62
    go_wp2_with fail
    refine (unhide HW _).mono ?_
    rintro e w1 ⟨rfl, b1⟩
    go_wp2
    go_ret2
    exact ⟨rfl, b1⟩
  rw [pow_good (by omega)]
  unfold powP
  obtain ⟨n, hn⟩ : ∃ n, (b.tdiv 10000).natAbs = n := ⟨_, rfl⟩
  have hn2 : n ≤ 1000 := by
    have e := Int.mul_tdiv_add_tmod b 10000
    omega
  rw [hn]
  have HP := hide (fun w => product_val a n w (by omega))
  have hm : wholeV (if b < 0 then -b else b) = (n : Int) := by
    rw [whole_is _ (by split <;> omega) (by split <;> omega)]
    have e := Int.mul_tdiv_add_tmod b 10000
    split
    · rw [Int.neg_tdiv]; omega
    · omega
  obtain ⟨R, hR⟩ : ∃ R, powL a n 10000 = R := ⟨_, rfl⟩
  rw [hR] at HP ⊢
  have HD := hide (fun w => div_any 10000 R.1 w)
  obtain ⟨S, hS⟩ : ∃ S, (if R.2 ≠ 0 ∨ 0 ≤ b then R else divR 10000 R.1) = S := ⟨_, rfl⟩
  rw [hS]
  have HS := hide hS
  clear hS
  obtain ⟨m, em⟩ : ∃ m, (if b < 0 then -b else b) = m := ⟨_, rfl⟩
  have HM := hide (fun w => whole_any m w)
  rw [em] at hm
  rw [hm] at HM
  have HMX := hide (show max b (-b) = m by rw [← em]; split <;> omega)
  have HK := hide (And.intro k2 k3)
  clear hR hm hn hn2 em
  go_enter Tryz.func62, Tryz.ntmps62
  go_wp2_with fail
  refine (unhide HW _).mono ?_
  rintro e w1 ⟨rfl, b1⟩
  go_wp2_with fail
  rw [unhide HMX]
  refine (unhide HM _).mono ?_
  rintro e w2 ⟨rfl, b2⟩
  have HB := hide (below_nx b1 b2)
  clear b1 b2
  go_wp2_with fail
  refine (unhide HP _).mono ?_
  rintro e w3 ⟨rfl, b3⟩
  replace HB := hide (below_nx (unhide HB) b3)
  clear b3
  by_cases h0 : R.2 = 0
  · by_cases hb : 0 ≤ b
    · have hs := unhide HS
      rw [if_pos (Or.inr hb)] at hs
      subst hs
      go_wp2
      go_ret2
      exact ⟨ret_ne rfl h0.symm, unhide HB⟩
    · have hs := unhide HS
      rw [if_neg (by rintro (h | h) <;> omega)] at hs
      rw [hs] at HD
      clear hs
      go_wp2_with fail
      refine (unhide HD _).mono ?_
      rintro e w4 ⟨rfl, b4⟩
      replace HB := hide (below_nx (unhide HB) b4)
      clear b4
      go_wp2
      go_ret2
      exact ⟨rfl, unhide HB⟩
  · have h0b : (R.2 != 0) = true := by simp [h0]
    have hs := unhide HS
    rw [if_pos (Or.inl h0)] at hs
    subst hs
    go_wp2
    go_ret2
    exact ⟨rfl, unhide HB⟩

set_option maxHeartbeats 2000000 in
theorem ratio_val (a b : Int) (w : World) (a1 : -9000000000000000000 ≤ a) (a2 : a ≤ 9000000000000000000) (b1 : -9000000000000000000 ≤ b) (b2 : b ≤ 9000000000000000000) :
    Calls Tryz.prog 104 #[.int .i64 a, .int .i64 b] w fun e w' => e = .returned (.tuple #[.int .i64 (ratG a b).1, .int .i64 (ratG a b).2]) ∧ Below w.heap.size w w' := by
  by_cases b0 : b = 0
  · subst b0
    have hg : ratG a 0 = (0, 6) := rfl
    rw [hg]
    have HR := hide (fun w => ratio_any a 0 w a1 a2 (by omega) (by omega))
    have hc : ratC a 0 = 0 ∨ ratC a 0 = 1 ∨ ratC a 0 = 6 := by unfold ratC; rw [if_pos rfl]; repeat' split
                                                               all_goals simp
    have HC := hide hc
    clear hc hg a1 a2 b1 b2
    go_enter Tryz.func104, Tryz.ntmps104
    go_wp2_with fail
    refine (unhide HR _).mono ?_
    rintro e w1 ⟨⟨r, rfl, hr⟩, b1⟩
    have HRR := hide hr
    have HO := hide (fun w => clsof_any r w (unhide hr).1)
    rw [(unhide hr).2.1] at HO
    clear hr
    rcases unhide HC with h | h | h
    · rw [h] at HO
      clear h
      go_wp2_with fail
      refine (unhide HO _).mono ?_
      rintro e w2 ⟨rfl, rfl⟩
      go_wp2
      go_ret2
      exact ⟨rfl, b1⟩
    · rw [h] at HO
      clear h
      go_wp2_with fail
      refine (unhide HO _).mono ?_
      rintro e w2 ⟨rfl, rfl⟩
      go_wp2
      go_ret2
      exact ⟨rfl, b1⟩
    · rw [h] at HO
      clear h
      go_wp2_with fail
      refine (unhide HO _).mono ?_
      rintro e w2 ⟨rfl, rfl⟩
      go_wp2
      go_ret2
      exact ⟨rfl, b1⟩
  · have hg : ratG a b = (frN (ratW a b), frE (ratW a b)) := by unfold ratG; rw [if_neg b0]
    rw [hg]
    have HR := hide (fun w => ratio_any a b w a1 a2 b1 b2)
    have HC : Hid (2 ≤ ratC a b ∧ ratC a b ≤ 5) := hide (by unfold ratC; rw [if_neg b0]; repeat' split
                                                            all_goals simp)
    have HZ := hide b0
    obtain ⟨N, hN⟩ : ∃ N, ratW a b = N := ⟨_, rfl⟩
    rw [hN] at HR ⊢
    clear hN hg a1 a2 b1 b2
    go_enter Tryz.func104, Tryz.ntmps104
    go_wp2_with fail
    refine (unhide HR _).mono ?_
    rintro e w1 ⟨⟨r, rfl, hr⟩, b1⟩
    obtain rfl := (unhide hr).2.2 (unhide HZ)
    have HO := hide (fun w => clsof_any r w (unhide hr).1)
    have HF := hide (fun w => from_any r w (unhide hr).1)
    rw [(unhide hr).2.1] at HO
    clear hr HR b0
    generalize ratC a b = c at HO HC
    obtain ⟨h1, h2⟩ := unhide HC
    have k0 : (c == 0) = false := by rw [beq_eq_false_iff_ne]; omega
    have k1 : (c == 1) = false := by rw [beq_eq_false_iff_ne]; omega
    have k6 : (c == 6) = false := by rw [beq_eq_false_iff_ne]; omega
    clear h1 h2
    go_wp2_with fail
    refine (unhide HO _).mono ?_
    rintro e w2 ⟨rfl, rfl⟩
    go_wp2_with fail
    refine (unhide HF _).mono ?_
    rintro e w3 ⟨rfl, b3⟩
    go_wp2
    go_ret2
    exact ⟨rfl, below_nx b1 b3⟩
end Go.Proofs.YtbeijnflfmjgfaaGreatDoor

namespace Go.Proofs.YtbeijnflfmjgfaaGreatDoor
open Go.RowKit

theorem sqrt9_val (a : Int) (w : World) (_h1 : -9000000000000000000 ≤ a) (h2 : a ≤ 9000000000000000000) :
    Calls Tryz.prog 100 #[.int .i64 a] w fun e w' => e = .returned (.tuple #[.int .i64 (sqrtG a).1, .int .i64 (sqrtG a).2]) ∧ Below w.heap.size w w' := by
  unfold sqrtG
  by_cases h0 : a < 0
  · rw [if_pos h0]
    exact sqrt_bad a w (Or.inr h0)
  · rw [if_neg h0]
    obtain ⟨n, rfl⟩ : ∃ n : Nat, a = (n : Int) := ⟨a.toNat, by omega⟩
    refine (sqrt_good n w (by omega)).mono ?_
    rintro e w' ⟨⟨r, rfl, hr⟩, b⟩
    rw [root_of hr]
    exact ⟨rfl, b⟩

set_option maxRecDepth 100000 in
set_option maxHeartbeats 4000000 in
theorem gcd_val (a b : Int) (w : World) (a1 : -9000000000000000000 ≤ a) (a2 : a ≤ 9000000000000000000) (b1 : -9000000000000000000 ≤ b) (b2 : b ≤ 9000000000000000000) :
    Calls Tryz.prog 101 #[.int .i64 a, .int .i64 b] w fun e w' => e = .returned (.tuple #[.int .i64 (gcdG a b).1, .int .i64 (gcdG a b).2]) ∧ Below w.heap.size w w' := by
  unfold gcdG
  have HWA := hide (fun w => whole_val a w a1 a2)
  have HWB := hide (fun w => whole_val b w b1 b2)
  by_cases k1 : a.tmod 10000 = 0
  rotate_left
  · rw [if_pos (Or.inl k1)]
    rw [decide_eq_false k1] at HWA
    clear k1
    go_enter Tryz.func101, Tryz.ntmps101
    go_wp2_with fail
    refine (unhide HWA _).mono ?_
    rintro e w1 ⟨rfl, c1⟩
    go_wp2
    go_ret2
    exact ⟨rfl, c1⟩
  rw [decide_eq_true k1] at HWA
  by_cases k2 : b.tmod 10000 = 0
  rotate_left
  · rw [if_pos (Or.inr (Or.inl k2))]
    rw [decide_eq_false k2] at HWB
    clear k2 k1
    go_enter Tryz.func101, Tryz.ntmps101
    go_wp2_with fail
    refine (unhide HWA _).mono ?_
    rintro e w1 ⟨rfl, c1⟩
    go_wp2_with fail
    refine (unhide HWB _).mono ?_
    rintro e w2 ⟨rfl, c2⟩
    go_wp2
    go_ret2
    exact ⟨rfl, below_nx c1 c2⟩
  rw [decide_eq_true k2] at HWB
  by_cases k3 : a < 0
  · rw [if_pos (Or.inr (Or.inr (Or.inl k3)))]
    clear k2 k1
    go_enter Tryz.func101, Tryz.ntmps101
    go_wp2_with fail
    refine (unhide HWA _).mono ?_
    rintro e w1 ⟨rfl, c1⟩
    go_wp2_with fail
    refine (unhide HWB _).mono ?_
    rintro e w2 ⟨rfl, c2⟩
    go_wp2
    go_ret2
    exact ⟨rfl, below_nx c1 c2⟩
  by_cases k4 : b < 0
  · rw [if_pos (Or.inr (Or.inr (Or.inr k4)))]
    clear k2 k1
    go_enter Tryz.func101, Tryz.ntmps101
    go_wp2_with fail
    refine (unhide HWA _).mono ?_
    rintro e w1 ⟨rfl, c1⟩
    go_wp2_with fail
    refine (unhide HWB _).mono ?_
    rintro e w2 ⟨rfl, c2⟩
    go_wp2
    go_ret2
    exact ⟨rfl, below_nx c1 c2⟩
  rw [if_neg (by rintro (h | h | h | h) <;> contradiction)]
  clear k1 k2
  obtain ⟨m, rfl⟩ : ∃ m : Nat, a = (m : Int) := ⟨a.toNat, by omega⟩
  obtain ⟨n, rfl⟩ : ∃ n : Nat, b = (n : Int) := ⟨b.toNat, by omega⟩
  rw [Int.toNat_natCast, Int.toNat_natCast]
  obtain ⟨G, hG⟩ : ∃ G, Nat.gcd m n = G := ⟨_, rfl⟩
  rw [hG]
  have HG := hide hG
  clear hG
  go_enter Tryz.func101, Tryz.ntmps101
  go_wp2_with fail
  refine (unhide HWA _).mono ?_
  rintro e w1 ⟨rfl, c1⟩
  go_wp2_with fail
  refine (unhide HWB _).mono ?_
  rintro e w2 ⟨rfl, c2⟩
  have HB := hide (below_nx c1 c2)
  clear c1 c2 k3 k4
  go_wp2
  go_loopw [0, 1] (fun t u wr => ∃ x y : Nat, t = .int .i64 (x : Int) ∧ u = .int .i64 (y : Int) ∧ x ≤ 9000000000000000000 ∧ y ≤ 9000000000000000000 ∧ Hid (Below w.heap.size w wr) ∧ Hid (Nat.gcd x y = G)) (fun _ u _ => (intOf u).toNat)
  case atStart => exact ⟨m, n, rfl, rfl, by omega, by omega, HB, HG⟩
  case round =>
    obtain ⟨x, y, rfl, rfl, hx, hy, HB, HG⟩ := hrel
    by_cases h0 : y = 0
    · subst h0
      have hg := unhide HG
      rw [Nat.gcd_zero_right] at hg
      subst hg
      clear HG
      go_wp2
      go_ret2
      exact ⟨rfl, unhide HB⟩
    · have hyb : ((y : Int) != 0) = true := by simp; omega
      have hlt : x % y < y := Nat.mod_lt _ (by omega)
      have HL := hide hlt
      have HGG : Hid (Nat.gcd y (x % y) = G) := hide (by rw [← unhide HG, Nat.gcd_comm x y, Nat.gcd_rec y x, Nat.gcd_comm])
      have hy0 : ¬ (y : Int) = 0 := by omega
      have hyb0 : ((y : Int) == 0) = false := by rw [beq_eq_false_iff_ne]; exact hy0
      have HM : Hid ((x : Int).tmod (y : Int) = ((x % y : Nat) : Int)) := hide (Int.ofNat_tmod x y)
      clear h0 hlt
      go_upto_region 4 with fail
      go_quiet (fail)
      go_roundw
      case rel => exact ⟨_, _, _, _, _, _, _, _, ⟨y, x % y, rfl, int_eqv (Int.natCast_emod x y).symm, hy, by have := unhide HL; omega, hide (below_drewN (unhide HB) nq), HGG⟩, rfl⟩
      case measure => simp [intOf]; have := unhide HL; omega

set_option maxRecDepth 100000 in
set_option maxHeartbeats 4000000 in
theorem fact_val (a : Int) (w : World) (h1 : -9000000000000000000 ≤ a) (h2 : a ≤ 9000000000000000000) :
    Calls Tryz.prog 102 #[.int .i64 a] w fun e w' => e = .returned (.tuple #[.int .i64 (factG a).1, .int .i64 (factG a).2]) ∧ Below w.heap.size w w' := by
  have HW := hide (fun w => whole_val a w h1 h2)
  unfold factG
  by_cases k1 : a.tmod 10000 = 0
  rotate_left
  · rw [if_pos (Or.inl k1)]
    rw [decide_eq_false k1] at HW
    clear k1
    go_enter Tryz.func102, Tryz.ntmps102
    go_wp2_with fail
    refine (unhide HW _).mono ?_
    rintro e w1 ⟨rfl, b1⟩
    go_wp2
    go_ret2
    exact ⟨rfl, b1⟩
  rw [decide_eq_true k1] at HW
  by_cases k2 : a < 0
  · rw [if_pos (Or.inr k2)]
    clear k1
    go_enter Tryz.func102, Tryz.ntmps102
    go_wp2_with fail
    refine (unhide HW _).mono ?_
    rintro e w1 ⟨rfl, b1⟩
    go_wp2
    go_ret2
    exact ⟨rfl, b1⟩
  rw [if_neg (by omega)]
  obtain ⟨q, hq⟩ : ∃ q : Nat, a = 10000 * (q : Int) := ⟨(a / 10000).toNat, by rw [Int.tmod_eq_emod_of_nonneg (by omega)] at k1; omega⟩
  obtain ⟨N, hN⟩ : ∃ N : Nat, (a / 10000 - 1).toNat = N := ⟨_, rfl⟩
  rw [hN]
  have HQ := hide (show N = q - 1 by omega)
  obtain ⟨R, hR⟩ : ∃ R, factL N 20000 10000 = R := ⟨_, rfl⟩
  rw [hR]
  have HR := hide hR
  have HA := hide hq
  clear hR hN hq k1
  go_enter Tryz.func102, Tryz.ntmps102
  go_wp2_with fail
  refine (unhide HW _).mono ?_
  rintro e w1 ⟨rfl, b1⟩
  have HB := hide b1
  clear b1
  go_wp2
  go_loopw [4, 5, 6, 19, 22] (fun t _ u _ _ wr => ∃ (j : Nat) (P : Int), t = .int .i64 P ∧ u = .int .i64 (20000 + 10000 * (j : Int)) ∧ 10000 * (j : Int) ≤ a ∧ Hid (Below w.heap.size w wr) ∧ Hid (factL (N - j) (20000 + 10000 * (j : Int)) P = R)) (fun _ _ u _ _ _ => (a + 20000 - intOf u).toNat)
  case atStart => exact ⟨0, 10000, rfl, by simp, by omega, HB, hide (by simpa using unhide HR)⟩
  case round =>
    clear HB
    obtain ⟨j, P, rfl, rfl, hj, HB, HP⟩ := hrel
    by_cases hlt : 20000 + 10000 * (j : Int) ≤ a
    · go_wp2_with fail
      refine (mul_any P (20000 + 10000 * (j : Int)) _).mono ?_
      rintro e w2 ⟨rfl, b2⟩
      have HB1 := hide (below_nx (unhide HB) b2)
      clear b2
      obtain ⟨m, hm⟩ : ∃ m, N - j = m + 1 := ⟨N - j - 1, by have := unhide HQ; have := unhide HA; omega⟩
      have HMM : Hid (N - (j + 1) = m) := hide (by omega)
      have hp := unhide HP
      rw [hm] at hp
      obtain ⟨M, hM⟩ : ∃ M, mulR P (20000 + 10000 * (j : Int)) = M := ⟨_, rfl⟩
      rw [hM]
      cases h0 : (M.2 != 0)
      · have h0' : M.2 = 0 := by simpa using h0
        rw [factL_more (by rw [hM]; exact h0'), hM] at hp
        have HP1 : Hid (factL (N - (j + 1)) (20000 + 10000 * ((j + 1 : Nat) : Int)) M.1 = R) := hide (by
          rw [unhide HMM, show 20000 + 10000 * ((j + 1 : Nat) : Int) = 20000 + 10000 * (j : Int) + 10000 by omega]
          exact hp)
        clear hp hM HP HB h0' hm HMM
        go_wp2
        go_roundw
        case rel => exact ⟨j + 1, M.1, rfl, by go_num, by omega, HB1, HP1⟩
        case measure => simp [intOf]; omega
      · have h0' : M.2 ≠ 0 := by simpa using h0
        rw [factL_stop (by rw [hM]; exact h0'), hM] at hp
        clear hM HP HB h0' hm HMM
        subst hp
        go_wp2
        go_ret2
        exact ⟨rfl, unhide HB1⟩
    · have hj' : N - j = 0 := by have := unhide HQ; have := unhide HA; omega
      have hp := unhide HP
      rw [hj'] at hp
      clear HP hj'
      subst hp
      go_wp2
      go_ret2
      exact ⟨rfl, unhide HB⟩
end Go.Proofs.YtbeijnflfmjgfaaGreatDoor

namespace Go.Proofs.YtbeijnflfmjgfaaGreatDoor
open Go.RowKit

set_option maxRecDepth 100000 in
set_option maxHeartbeats 4000000 in
theorem up_val (a p : Int) (w : World) (a1 : -9000000000000000000 ≤ a) (a2 : a ≤ 9000000000000000000) (p1 : -9000000000000000000 ≤ p) (p2 : p ≤ 9000000000000000000) :
    Calls Tryz.prog 97 #[.int .i64 a, .int .i64 p] w fun e w' => e = .returned (.tuple #[.int .i64 (upG a p).1, .int .i64 (upG a p).2]) ∧ Below w.heap.size w w' := by
  have HP := hide (fun w => placed_val p w p1 p2)
  unfold upG
  by_cases h : p.tmod 10000 ≠ 0 ∨ p < -150000 ∨ 150000 < p
  · rw [if_pos h]
    have hb : plB p = false := by unfold plB; rw [decide_eq_true h]; rfl
    rw [hb] at HP
    clear h hb
    go_enter Tryz.func97, Tryz.ntmps97
    go_wp2_with fail
    refine (unhide HP _).mono ?_
    rintro e w1 ⟨rfl, b1⟩
    go_wp2
    go_ret2
    exact ⟨rfl, b1⟩
  rw [if_neg h]
  have hb : plB p = true := by unfold plB; rw [decide_eq_false h]; rfl
  rw [hb] at HP
  obtain ⟨t, ht⟩ : ∃ t, p.tdiv 10000 = t := ⟨_, rfl⟩
  have hp : p = t * 10000 := by
    have e := Int.tdiv_mul_add_tmod p 10000
    omega
  have hr : -15 ≤ t ∧ t ≤ 15 := by omega
  rw [ht]
  clear ht hb h
  by_cases h3 : 30000 < p
  · rw [up_far (by omega)]
    clear hp hr
    go_enter Tryz.func97, Tryz.ntmps97
    go_wp2_with fail
    refine (unhide HP _).mono ?_
    rintro e w1 ⟨rfl, b1⟩
    go_wp2
    go_ret2
    exact ⟨rfl, b1⟩
  by_cases h0 : a = 0
  · subst h0
    rw [up_nil (by omega)]
    clear hp hr
    go_enter Tryz.func97, Tryz.ntmps97
    go_wp2_with fail
    refine (unhide HP _).mono ?_
    rintro e w1 ⟨rfl, b1⟩
    go_wp2
    go_ret2
    exact ⟨rfl, b1⟩
  have h0b : (a == 0) = false := by rw [beq_eq_false_iff_ne]; exact h0
  have HPW := hide (fun w => power_val 100000 (-p) w (by omega) (by omega) (by omega) (by omega))
  rw [show -p = -(t * 10000) by omega, pow_ten t hr.1 (by omega), show -(t * 10000) = -p by omega] at HPW
  by_cases h15 : t = -15
  · subst h15
    rw [up_great h0]
    rw [if_pos rfl] at HPW
    clear hp hr h0
    go_enter Tryz.func97, Tryz.ntmps97
    go_wp2_with fail
    refine (unhide HP _).mono ?_
    rintro e w1 ⟨rfl, b1⟩
    go_wp2_with fail
    refine (unhide HPW _).mono ?_
    rintro e w2 ⟨rfl, b2⟩
    go_wp2
    go_ret2
    exact ⟨rfl, below_nx b1 b2⟩
  rw [if_neg h15] at HPW
  obtain ⟨s, hs⟩ : ∃ s, 10 ^ (4 - t).toNat = s := ⟨_, rfl⟩
  rw [hs] at HPW
  obtain ⟨s0, s1⟩ := step_le hs (by omega)
  have hsi : ¬ (s : Int) = 0 := by omega
  have hsb : ((s : Int) == 0) = false := by rw [beq_eq_false_iff_ne]; exact hsi
  by_cases hq : a.tmod (s : Int) = 0
  · rw [up_exact hs s0 (by omega) a1 a2 hq]
    clear hp hr hs h0 h15
    go_enter Tryz.func97, Tryz.ntmps97
    go_wp2_with fail
    refine (unhide HP _).mono ?_
    rintro e w1 ⟨rfl, b1⟩
    go_wp2_with fail
    refine (unhide HPW _).mono ?_
    rintro e w2 ⟨rfl, b2⟩
    go_wp2
    go_ret2
    exact ⟨rfl, below_nx b1 b2⟩
  rw [up_more hs s0 s1 (by omega) a1 a2 hq]
  have hqb : (a.tmod (s : Int) == 0) = false := by rw [beq_eq_false_iff_ne]; exact hq
  have HT := hide (tmod_bounds a (s : Int) a1 a2 hsi)
  obtain ⟨r, hr2⟩ : ∃ r, a.tmod (s : Int) = r := ⟨_, rfl⟩
  have hd : -9000000000000000000 ≤ a - r ∧ a - r ≤ 9000000000000000000 := by
    rw [← hr2]
    have e := Int.natAbs_tmod a (s : Int)
    have l : a.natAbs % (s : Int).natAbs ≤ a.natAbs := Nat.mod_le _ _
    rcases Int.lt_or_le a 0 with ha | ha
    · have h3 := Int.tmod_nonneg (s : Int) (show 0 ≤ -a by omega)
      rw [Int.neg_tmod] at h3
      omega
    · have h3 := Int.tmod_nonneg (s : Int) ha
      omega
  have HR := hide hr2
  rw [hr2] at hqb ⊢
  clear hq hr2 hp hr hs h0 h15
  by_cases ha : a < 0
  · rw [if_pos ha]
    have HA := hide (fun w => add_any (a - r) (-(s : Int)) w)
    go_enter Tryz.func97, Tryz.ntmps97
    go_wp2_with fail
    refine (unhide HP _).mono ?_
    rintro e w1 ⟨rfl, b1⟩
    go_wp2_with fail
    refine (unhide HPW _).mono ?_
    rintro e w2 ⟨rfl, b2⟩
    have HB := hide (below_nx b1 b2)
    clear b1 b2
    go_upto_region 9 with fail
    rw [unhide HR]
    go_wp2_with fail
    refine (unhide HA _).mono ?_
    rintro e w3 ⟨rfl, b3⟩
    go_wp2
    go_ret2
    exact ⟨rfl, below_nx (unhide HB) b3⟩
  · rw [if_neg ha]
    have HA := hide (fun w => add_any (a - r) (s : Int) w)
    go_enter Tryz.func97, Tryz.ntmps97
    go_wp2_with fail
    refine (unhide HP _).mono ?_
    rintro e w1 ⟨rfl, b1⟩
    go_wp2_with fail
    refine (unhide HPW _).mono ?_
    rintro e w2 ⟨rfl, b2⟩
    have HB := hide (below_nx b1 b2)
    clear b1 b2
    go_upto_region 9 with fail
    rw [show a % (s : Int) = r by rw [← unhide HR, Int.tmod_eq_emod_of_nonneg (by omega)]]
    go_wp2_with fail
    refine (unhide HA _).mono ?_
    rintro e w3 ⟨rfl, b3⟩
    go_wp2
    go_ret2
    exact ⟨rfl, below_nx (unhide HB) b3⟩
end Go.Proofs.YtbeijnflfmjgfaaGreatDoor

namespace Go.Proofs.YtbeijnflfmjgfaaGreatDoor
open Go.RowKit

theorem mod9_val (a b : Int) (w : World) (_a1 : -9000000000000000000 ≤ a) (_a2 : a ≤ 9000000000000000000) (_h1 : -9000000000000000000 ≤ b) (_h2 : b ≤ 9000000000000000000) :
    Calls Tryz.prog 98 #[.int .i64 a, .int .i64 b] w fun e w' => e = .returned (.tuple #[.int .i64 (modR a b).1, .int .i64 (modR a b).2]) ∧ Below w.heap.size w w' := mod_any a b w
theorem mul9_val (a b : Int) (w : World) (_a1 : -9000000000000000000 ≤ a) (_a2 : a ≤ 9000000000000000000) (_h1 : -9000000000000000000 ≤ b) (_h2 : b ≤ 9000000000000000000) :
    Calls Tryz.prog 61 #[.int .i64 a, .int .i64 b] w fun e w' => e = .returned (.tuple #[.int .i64 (mulR a b).1, .int .i64 (mulR a b).2]) ∧ Below w.heap.size w w' := mul_any a b w
theorem div9_val (a b : Int) (w : World) (_a1 : -9000000000000000000 ≤ a) (_a2 : a ≤ 9000000000000000000) (_h1 : -9000000000000000000 ≤ b) (_h2 : b ≤ 9000000000000000000) :
    Calls Tryz.prog 52 #[.int .i64 a, .int .i64 b] w fun e w' => e = .returned (.tuple #[.int .i64 (divR a b).1, .int .i64 (divR a b).2]) ∧ Below w.heap.size w w' := div_any a b w
def add9 (a b : Int) : Int × Int := (addN a b, addE a b)
def sub9 (a b : Int) : Int × Int := (addN a (-b), addE a (-b))
theorem add9_val (a b : Int) (w : World) (_a1 : -9000000000000000000 ≤ a) (_a2 : a ≤ 9000000000000000000) (_h1 : -9000000000000000000 ≤ b) (_h2 : b ≤ 9000000000000000000) :
    Calls Tryz.prog 60 #[.int .i64 a, .int .i64 b] w fun e w' => e = .returned (.tuple #[.int .i64 (add9 a b).1, .int .i64 (add9 a b).2]) ∧ Below w.heap.size w w' := add_any a b w
theorem sub9_val (a b : Int) (w : World) (_a1 : -9000000000000000000 ≤ a) (_a2 : a ≤ 9000000000000000000) (h1 : -9000000000000000000 ≤ b) (h2 : b ≤ 9000000000000000000) :
    Calls Tryz.prog 50 #[.int .i64 a, .int .i64 b] w fun e w' => e = .returned (.tuple #[.int .i64 (sub9 a b).1, .int .i64 (sub9 a b).2]) ∧ Below w.heap.size w w' := sub_any a b w (by omega) (by omega)
def arith2 (s : List UInt8) (zs : List Int) : Vl := arithV s (zs.getD 0 0) (zs.getD 1 0)
theorem arith_add (a b : Int) : arithV [43] a b = toldV (add9 a b) := rfl
theorem arith_sub (a b : Int) (h1 : -9000000000000000000 ≤ b) (h2 : b ≤ 9000000000000000000) : arithV [45] a b = toldV (sub9 a b) := by
  unfold arithV subR sub9
  rw [if_neg (by decide), if_pos rfl, if_pos ((goodB_iff b).2 ⟨h1, h2⟩)]
theorem arith_mul (a b : Int) : arithV [42] a b = toldV (mulR a b) := by unfold arithV; rw [if_neg (by decide), if_neg (by decide), if_pos rfl]
theorem arith_div (a b : Int) : arithV [47] a b = toldV (divR a b) := by unfold arithV; rw [if_neg (by decide), if_neg (by decide), if_neg (by decide), if_pos rfl]
theorem arith_pow (a b : Int) : arithV [94] a b = toldV (powG a b) := by unfold arithV; rw [if_neg (by decide), if_neg (by decide), if_neg (by decide), if_neg (by decide), told_pow]
theorem fn_cong {w : World} {fv : Value} {n : Nat} {t t' : List Int → Vl} (h : FnAt w fv n t) (e : ∀ zs, zs.length = n → (∀ z ∈ zs, -9000000000000000000 ≤ z ∧ z ≤ 9000000000000000000) → t zs = t' zs) : FnAt w fv n t' := by
  obtain ⟨k, cp, e1, he, hk⟩ := h
  exact ⟨k, cp, e1, he, fun zs g cap w2 h1 h2 h3 h4 h5 => by rw [← e zs h1 h2]; exact hk zs g cap w2 h1 h2 h3 h4 h5⟩
theorem do_ABS : Do1 92 absG := ⟨enters_of Tryz.func92 (by kernel_rfl) rfl, fun a w h1 h2 => abs_val a w h1 h2⟩
theorem call_ABS {zs : List Int} (h : zs.length = 1) : one1 absG zs = callN [65, 66, 83] zs := by
  obtain ⟨a, rfl⟩ := List.length_eq_one_iff.1 h
  exact (one_abs a).symm
theorem do_SIGN : Do1 93 signG := ⟨enters_of Tryz.func93 (by kernel_rfl) rfl, fun a w h1 h2 => sgn9_val a w h1 h2⟩
theorem call_SIGN {zs : List Int} (h : zs.length = 1) : one1 signG zs = callN [83, 73, 71, 78] zs := by
  obtain ⟨a, rfl⟩ := List.length_eq_one_iff.1 h
  exact (one_sign a).symm
theorem do_INT : Do1 94 floorG := ⟨enters_of Tryz.func94 (by kernel_rfl) rfl, fun a w h1 h2 => int_val a w h1 h2⟩
theorem call_INT {zs : List Int} (h : zs.length = 1) : one1 floorG zs = callN [73, 78, 84] zs := by
  obtain ⟨a, rfl⟩ := List.length_eq_one_iff.1 h
  exact (one_int a).symm
theorem do_TRUNC : Do1 95 truncG := ⟨enters_of Tryz.func95 (by kernel_rfl) rfl, fun a w h1 h2 => trunc_val a w h1 h2⟩
theorem call_TRUNC {zs : List Int} (h : zs.length = 1) : one1 truncG zs = callN [84, 82, 85, 78, 67] zs := by
  obtain ⟨a, rfl⟩ := List.length_eq_one_iff.1 h
  exact (one_trunc a).symm
theorem do_SQRT : Do1 100 sqrtG := ⟨enters_of Tryz.func100 (by kernel_rfl) rfl, fun a w h1 h2 => sqrt9_val a w h1 h2⟩
theorem call_SQRT {zs : List Int} (h : zs.length = 1) : one1 sqrtG zs = callN [83, 81, 82, 84] zs := by
  obtain ⟨a, rfl⟩ := List.length_eq_one_iff.1 h
  exact (one_sqrt a).symm
theorem do_FACT : Do1 102 factG := ⟨enters_of Tryz.func102 (by kernel_rfl) rfl, fun a w h1 h2 => fact_val a w h1 h2⟩
theorem call_FACT {zs : List Int} (h : zs.length = 1) : one1 factG zs = callN [70, 65, 67, 84] zs := by
  obtain ⟨a, rfl⟩ := List.length_eq_one_iff.1 h
  exact (one_fact a).symm
theorem do_ROUND : Do2 96 rndG := ⟨enters_of Tryz.func96 (by kernel_rfl) rfl, fun a b w h1 h2 h3 h4 => round9_val a b w h1 h2 h3 h4⟩
theorem call_ROUND {zs : List Int} (h : zs.length = 2) : two2 rndG zs = callN [82, 79, 85, 78, 68] zs := by
  obtain ⟨a, b, rfl⟩ := list_two h
  exact (two_round a b).symm
theorem do_ROUNDUP : Do2 97 upG := ⟨enters_of Tryz.func97 (by kernel_rfl) rfl, fun a b w h1 h2 h3 h4 => up_val a b w h1 h2 h3 h4⟩
theorem call_ROUNDUP {zs : List Int} (h : zs.length = 2) : two2 upG zs = callN [82, 79, 85, 78, 68, 85, 80] zs := by
  obtain ⟨a, b, rfl⟩ := list_two h
  exact (two_up a b).symm
theorem do_MOD : Do2 98 modR := ⟨enters_of Tryz.func98 (by kernel_rfl) rfl, fun a b w h1 h2 h3 h4 => mod9_val a b w h1 h2 h3 h4⟩
theorem call_MOD {zs : List Int} (h : zs.length = 2) : two2 modR zs = callN [77, 79, 68] zs := by
  obtain ⟨a, b, rfl⟩ := list_two h
  exact (two_mod a b).symm
theorem do_QUOTIENT : Do2 99 quoG := ⟨enters_of Tryz.func99 (by kernel_rfl) rfl, fun a b w h1 h2 h3 h4 => quo_val a b w h1 h2 h3 h4⟩
theorem call_QUOTIENT {zs : List Int} (h : zs.length = 2) : two2 quoG zs = callN [81, 85, 79, 84, 73, 69, 78, 84] zs := by
  obtain ⟨a, b, rfl⟩ := list_two h
  exact (two_quo a b).symm
theorem do_POWER : Do2 62 powG := ⟨enters_of Tryz.func62 (by kernel_rfl) rfl, fun a b w h1 h2 h3 h4 => power_val a b w h1 h2 h3 h4⟩
theorem call_POWER {zs : List Int} (h : zs.length = 2) : two2 powG zs = callN [80, 79, 87, 69, 82] zs := by
  obtain ⟨a, b, rfl⟩ := list_two h
  exact (two_power a b).symm
theorem do_GCD : Do2 101 gcdG := ⟨enters_of Tryz.func101 (by kernel_rfl) rfl, fun a b w h1 h2 h3 h4 => gcd_val a b w h1 h2 h3 h4⟩
theorem call_GCD {zs : List Int} (h : zs.length = 2) : two2 gcdG zs = callN [71, 67, 68] zs := by
  obtain ⟨a, b, rfl⟩ := list_two h
  exact (two_gcd a b).symm
theorem do_RATIO : Do2 104 ratG := ⟨enters_of Tryz.func104 (by kernel_rfl) rfl, fun a b w h1 h2 h3 h4 => ratio_val a b w h1 h2 h3 h4⟩
theorem call_RATIO {zs : List Int} (h : zs.length = 2) : two2 ratG zs = callN [82, 65, 84, 73, 79] zs := by
  obtain ⟨a, b, rfl⟩ := list_two h
  exact (two_ratio a b).symm
theorem call_EVEN {zs : List Int} (h : zs.length = 1) : evenV (zs.getD 0 0) = callN [69, 86, 69, 78] zs := by
  obtain ⟨a, rfl⟩ := List.length_eq_one_iff.1 h
  exact (one_even a).symm
theorem do_op0 : Do2 60 add9 := ⟨enters_of Tryz.func60 (by kernel_rfl) rfl, fun a b w h1 h2 h3 h4 => add9_val a b w h1 h2 h3 h4⟩
theorem call_op0 {zs : List Int} (h : zs.length = 2) (_HZ : ∀ z ∈ zs, -9000000000000000000 ≤ z ∧ z ≤ 9000000000000000000) : two2 add9 zs = arith2 [43] zs := by
  obtain ⟨a, b, rfl⟩ := list_two h
  exact (arith_add a b ).symm
theorem do_op1 : Do2 50 sub9 := ⟨enters_of Tryz.func50 (by kernel_rfl) rfl, fun a b w h1 h2 h3 h4 => sub9_val a b w h1 h2 h3 h4⟩
theorem call_op1 {zs : List Int} (h : zs.length = 2) (HZ : ∀ z ∈ zs, -9000000000000000000 ≤ z ∧ z ≤ 9000000000000000000) : two2 sub9 zs = arith2 [45] zs := by
  obtain ⟨a, b, rfl⟩ := list_two h
  exact (arith_sub a b (HZ b (by simp)).1 (HZ b (by simp)).2).symm
theorem do_op2 : Do2 61 mulR := ⟨enters_of Tryz.func61 (by kernel_rfl) rfl, fun a b w h1 h2 h3 h4 => mul9_val a b w h1 h2 h3 h4⟩
theorem call_op2 {zs : List Int} (h : zs.length = 2) (_HZ : ∀ z ∈ zs, -9000000000000000000 ≤ z ∧ z ≤ 9000000000000000000) : two2 mulR zs = arith2 [42] zs := by
  obtain ⟨a, b, rfl⟩ := list_two h
  exact (arith_mul a b ).symm
theorem do_op3 : Do2 52 divR := ⟨enters_of Tryz.func52 (by kernel_rfl) rfl, fun a b w h1 h2 h3 h4 => div9_val a b w h1 h2 h3 h4⟩
theorem call_op3 {zs : List Int} (h : zs.length = 2) (_HZ : ∀ z ∈ zs, -9000000000000000000 ≤ z ∧ z ≤ 9000000000000000000) : two2 divR zs = arith2 [47] zs := by
  obtain ⟨a, b, rfl⟩ := list_two h
  exact (arith_div a b ).symm
theorem do_op4 : Do2 62 powG := ⟨enters_of Tryz.func62 (by kernel_rfl) rfl, fun a b w h1 h2 h3 h4 => power_val a b w h1 h2 h3 h4⟩
theorem call_op4 {zs : List Int} (h : zs.length = 2) (_HZ : ∀ z ∈ zs, -9000000000000000000 ≤ z ∧ z ≤ 9000000000000000000) : two2 powG zs = arith2 [94] zs := by
  obtain ⟨a, b, rfl⟩ := list_two h
  exact (arith_pow a b ).symm

theorem takes_none {s : List UInt8} (hABS : s ≠ [65, 66, 83]) (hSIGN : s ≠ [83, 73, 71, 78]) (hINT : s ≠ [73, 78, 84]) (hTRUNC : s ≠ [84, 82, 85, 78, 67]) (hROUND : s ≠ [82, 79, 85, 78, 68]) (hROUNDUP : s ≠ [82, 79, 85, 78, 68, 85, 80]) (hMOD : s ≠ [77, 79, 68]) (hQUOTIENT : s ≠ [81, 85, 79, 84, 73, 69, 78, 84]) (hPOWER : s ≠ [80, 79, 87, 69, 82]) (hSQRT : s ≠ [83, 81, 82, 84]) (hGCD : s ≠ [71, 67, 68]) (hFACT : s ≠ [70, 65, 67, 84]) (hEVEN : s ≠ [69, 86, 69, 78]) (hRATIO : s ≠ [82, 65, 84, 73, 79]) : takesL s = 0 := by
  unfold takesL
  rw [if_neg (by simp [*]), if_neg (by simp [*])]

set_option maxRecDepth 100000 in
set_option maxHeartbeats 16000000 in
theorem named_val (s : ByteArray) (w : World) :
    Calls Tryz.prog 53 #[.string s] w fun e w' => (∃ fv, e = .returned (.agg #[.int .i64 (takesL s.toList : Nat), fv]) ∧ (takesL s.toList = 0 ∧ fv = .nilFunc ∨ takesL s.toList ≠ 0 ∧ FnAt w' fv (takesL s.toList) (callN s.toList))) ∧ Below w.heap.size w w' := by
  have hmf : ∀ (fn : Fn) (first cap : Array Value) (w : World), (Instr.makeFunc fn first cap).run Tryz.prog w = .ok (.func fn first cap) w := fun _ _ _ _ => rfl
  by_cases h_ABS : s.toList = [65, 66, 83]
  · rw [h_ABS, show takesL [65, 66, 83] = 1 from by decide]
    obtain rfl := toList_lit h_ABS
    clear h_ABS
    go_enter Tryz.func53, Tryz.ntmps53
    go_wp2_with fail
    refine (of1_val _ _ do_ABS _).mono ?_
    rintro e w1 ⟨⟨fv, rfl, hfn⟩, b1⟩
    obtain ⟨k, cp, rfl, hen, hfn⟩ := hfn
    have hb0 := fbox_below (fbox_new w (.int .i64 0) .nilFunc) b1
    have f_0 := fbox_c0 hb0
    have f_1 := fbox_c1 hb0
    have f_2 := fbox_f hb0 0
    have f_3 := fbox_f hb0 1
    have HBX := hide hb0
    have HBL := hide (below_nx (below_al w _) b1)
    have HFN := hide hfn
    clear hb0 b1 hfn
    go_wp2
    refine bodyPost_ret (results_cell_row rfl _ _ _ _ _ _ _ rfl (fbox_set (unhide HBX) _ _) Tryz.underlying63 rfl infoFn) rfl ?_
    exact ⟨⟨_, rfl, Or.inr ⟨by decide, fn_cong (fn_put ⟨k, cp, rfl, hen, unhide HFN⟩ (by simp) _ _) fun zs hz _ => call_ABS hz⟩⟩, fbox_put (unhide HBL) (Nat.le_refl _) _ _⟩
  by_cases h_SIGN : s.toList = [83, 73, 71, 78]
  · rw [h_SIGN, show takesL [83, 73, 71, 78] = 1 from by decide]
    obtain rfl := toList_lit h_SIGN
    clear h_SIGN
    go_enter Tryz.func53, Tryz.ntmps53
    go_wp2_with fail
    refine (of1_val _ _ do_SIGN _).mono ?_
    rintro e w1 ⟨⟨fv, rfl, hfn⟩, b1⟩
    obtain ⟨k, cp, rfl, hen, hfn⟩ := hfn
    have hb0 := fbox_below (fbox_new w (.int .i64 0) .nilFunc) b1
    have f_0 := fbox_c0 hb0
    have f_1 := fbox_c1 hb0
    have f_2 := fbox_f hb0 0
    have f_3 := fbox_f hb0 1
    have HBX := hide hb0
    have HBL := hide (below_nx (below_al w _) b1)
    have HFN := hide hfn
    clear hb0 b1 hfn
    go_wp2
    refine bodyPost_ret (results_cell_row rfl _ _ _ _ _ _ _ rfl (fbox_set (unhide HBX) _ _) Tryz.underlying63 rfl infoFn) rfl ?_
    exact ⟨⟨_, rfl, Or.inr ⟨by decide, fn_cong (fn_put ⟨k, cp, rfl, hen, unhide HFN⟩ (by simp) _ _) fun zs hz _ => call_SIGN hz⟩⟩, fbox_put (unhide HBL) (Nat.le_refl _) _ _⟩
  by_cases h_INT : s.toList = [73, 78, 84]
  · rw [h_INT, show takesL [73, 78, 84] = 1 from by decide]
    obtain rfl := toList_lit h_INT
    clear h_INT
    go_enter Tryz.func53, Tryz.ntmps53
    go_wp2_with fail
    refine (of1_val _ _ do_INT _).mono ?_
    rintro e w1 ⟨⟨fv, rfl, hfn⟩, b1⟩
    obtain ⟨k, cp, rfl, hen, hfn⟩ := hfn
    have hb0 := fbox_below (fbox_new w (.int .i64 0) .nilFunc) b1
    have f_0 := fbox_c0 hb0
    have f_1 := fbox_c1 hb0
    have f_2 := fbox_f hb0 0
    have f_3 := fbox_f hb0 1
    have HBX := hide hb0
    have HBL := hide (below_nx (below_al w _) b1)
    have HFN := hide hfn
    clear hb0 b1 hfn
    go_wp2
    refine bodyPost_ret (results_cell_row rfl _ _ _ _ _ _ _ rfl (fbox_set (unhide HBX) _ _) Tryz.underlying63 rfl infoFn) rfl ?_
    exact ⟨⟨_, rfl, Or.inr ⟨by decide, fn_cong (fn_put ⟨k, cp, rfl, hen, unhide HFN⟩ (by simp) _ _) fun zs hz _ => call_INT hz⟩⟩, fbox_put (unhide HBL) (Nat.le_refl _) _ _⟩
  by_cases h_TRUNC : s.toList = [84, 82, 85, 78, 67]
  · rw [h_TRUNC, show takesL [84, 82, 85, 78, 67] = 1 from by decide]
    obtain rfl := toList_lit h_TRUNC
    clear h_TRUNC
    go_enter Tryz.func53, Tryz.ntmps53
    go_wp2_with fail
    refine (of1_val _ _ do_TRUNC _).mono ?_
    rintro e w1 ⟨⟨fv, rfl, hfn⟩, b1⟩
    obtain ⟨k, cp, rfl, hen, hfn⟩ := hfn
    have hb0 := fbox_below (fbox_new w (.int .i64 0) .nilFunc) b1
    have f_0 := fbox_c0 hb0
    have f_1 := fbox_c1 hb0
    have f_2 := fbox_f hb0 0
    have f_3 := fbox_f hb0 1
    have HBX := hide hb0
    have HBL := hide (below_nx (below_al w _) b1)
    have HFN := hide hfn
    clear hb0 b1 hfn
    go_wp2
    refine bodyPost_ret (results_cell_row rfl _ _ _ _ _ _ _ rfl (fbox_set (unhide HBX) _ _) Tryz.underlying63 rfl infoFn) rfl ?_
    exact ⟨⟨_, rfl, Or.inr ⟨by decide, fn_cong (fn_put ⟨k, cp, rfl, hen, unhide HFN⟩ (by simp) _ _) fun zs hz _ => call_TRUNC hz⟩⟩, fbox_put (unhide HBL) (Nat.le_refl _) _ _⟩
  by_cases h_ROUND : s.toList = [82, 79, 85, 78, 68]
  · rw [h_ROUND, show takesL [82, 79, 85, 78, 68] = 2 from by decide]
    obtain rfl := toList_lit h_ROUND
    clear h_ROUND
    go_enter Tryz.func53, Tryz.ntmps53
    go_wp2_with fail
    refine (of2_val _ _ do_ROUND _).mono ?_
    rintro e w1 ⟨⟨fv, rfl, hfn⟩, b1⟩
    obtain ⟨k, cp, rfl, hen, hfn⟩ := hfn
    have hb0 := fbox_below (fbox_new w (.int .i64 0) .nilFunc) b1
    have f_0 := fbox_c0 hb0
    have f_1 := fbox_c1 hb0
    have f_2 := fbox_f hb0 0
    have f_3 := fbox_f hb0 1
    have HBX := hide hb0
    have HBL := hide (below_nx (below_al w _) b1)
    have HFN := hide hfn
    clear hb0 b1 hfn
    go_wp2
    refine bodyPost_ret (results_cell_row rfl _ _ _ _ _ _ _ rfl (fbox_set (unhide HBX) _ _) Tryz.underlying63 rfl infoFn) rfl ?_
    exact ⟨⟨_, rfl, Or.inr ⟨by decide, fn_cong (fn_put ⟨k, cp, rfl, hen, unhide HFN⟩ (by simp) _ _) fun zs hz _ => call_ROUND hz⟩⟩, fbox_put (unhide HBL) (Nat.le_refl _) _ _⟩
  by_cases h_ROUNDUP : s.toList = [82, 79, 85, 78, 68, 85, 80]
  · rw [h_ROUNDUP, show takesL [82, 79, 85, 78, 68, 85, 80] = 2 from by decide]
    obtain rfl := toList_lit h_ROUNDUP
    clear h_ROUNDUP
    go_enter Tryz.func53, Tryz.ntmps53
    go_wp2_with fail
    refine (of2_val _ _ do_ROUNDUP _).mono ?_
    rintro e w1 ⟨⟨fv, rfl, hfn⟩, b1⟩
    obtain ⟨k, cp, rfl, hen, hfn⟩ := hfn
    have hb0 := fbox_below (fbox_new w (.int .i64 0) .nilFunc) b1
    have f_0 := fbox_c0 hb0
    have f_1 := fbox_c1 hb0
    have f_2 := fbox_f hb0 0
    have f_3 := fbox_f hb0 1
    have HBX := hide hb0
    have HBL := hide (below_nx (below_al w _) b1)
    have HFN := hide hfn
    clear hb0 b1 hfn
    go_wp2
    refine bodyPost_ret (results_cell_row rfl _ _ _ _ _ _ _ rfl (fbox_set (unhide HBX) _ _) Tryz.underlying63 rfl infoFn) rfl ?_
    exact ⟨⟨_, rfl, Or.inr ⟨by decide, fn_cong (fn_put ⟨k, cp, rfl, hen, unhide HFN⟩ (by simp) _ _) fun zs hz _ => call_ROUNDUP hz⟩⟩, fbox_put (unhide HBL) (Nat.le_refl _) _ _⟩
  by_cases h_MOD : s.toList = [77, 79, 68]
  · rw [h_MOD, show takesL [77, 79, 68] = 2 from by decide]
    obtain rfl := toList_lit h_MOD
    clear h_MOD
    go_enter Tryz.func53, Tryz.ntmps53
    go_wp2_with fail
    refine (of2_val _ _ do_MOD _).mono ?_
    rintro e w1 ⟨⟨fv, rfl, hfn⟩, b1⟩
    obtain ⟨k, cp, rfl, hen, hfn⟩ := hfn
    have hb0 := fbox_below (fbox_new w (.int .i64 0) .nilFunc) b1
    have f_0 := fbox_c0 hb0
    have f_1 := fbox_c1 hb0
    have f_2 := fbox_f hb0 0
    have f_3 := fbox_f hb0 1
    have HBX := hide hb0
    have HBL := hide (below_nx (below_al w _) b1)
    have HFN := hide hfn
    clear hb0 b1 hfn
    go_wp2
    refine bodyPost_ret (results_cell_row rfl _ _ _ _ _ _ _ rfl (fbox_set (unhide HBX) _ _) Tryz.underlying63 rfl infoFn) rfl ?_
    exact ⟨⟨_, rfl, Or.inr ⟨by decide, fn_cong (fn_put ⟨k, cp, rfl, hen, unhide HFN⟩ (by simp) _ _) fun zs hz _ => call_MOD hz⟩⟩, fbox_put (unhide HBL) (Nat.le_refl _) _ _⟩
  by_cases h_QUOTIENT : s.toList = [81, 85, 79, 84, 73, 69, 78, 84]
  · rw [h_QUOTIENT, show takesL [81, 85, 79, 84, 73, 69, 78, 84] = 2 from by decide]
    obtain rfl := toList_lit h_QUOTIENT
    clear h_QUOTIENT
    go_enter Tryz.func53, Tryz.ntmps53
    go_wp2_with fail
    refine (of2_val _ _ do_QUOTIENT _).mono ?_
    rintro e w1 ⟨⟨fv, rfl, hfn⟩, b1⟩
    obtain ⟨k, cp, rfl, hen, hfn⟩ := hfn
    have hb0 := fbox_below (fbox_new w (.int .i64 0) .nilFunc) b1
    have f_0 := fbox_c0 hb0
    have f_1 := fbox_c1 hb0
    have f_2 := fbox_f hb0 0
    have f_3 := fbox_f hb0 1
    have HBX := hide hb0
    have HBL := hide (below_nx (below_al w _) b1)
    have HFN := hide hfn
    clear hb0 b1 hfn
    go_wp2
    refine bodyPost_ret (results_cell_row rfl _ _ _ _ _ _ _ rfl (fbox_set (unhide HBX) _ _) Tryz.underlying63 rfl infoFn) rfl ?_
    exact ⟨⟨_, rfl, Or.inr ⟨by decide, fn_cong (fn_put ⟨k, cp, rfl, hen, unhide HFN⟩ (by simp) _ _) fun zs hz _ => call_QUOTIENT hz⟩⟩, fbox_put (unhide HBL) (Nat.le_refl _) _ _⟩
  by_cases h_POWER : s.toList = [80, 79, 87, 69, 82]
  · rw [h_POWER, show takesL [80, 79, 87, 69, 82] = 2 from by decide]
    obtain rfl := toList_lit h_POWER
    clear h_POWER
    go_enter Tryz.func53, Tryz.ntmps53
    go_wp2_with fail
    refine (of2_val _ _ do_POWER _).mono ?_
    rintro e w1 ⟨⟨fv, rfl, hfn⟩, b1⟩
    obtain ⟨k, cp, rfl, hen, hfn⟩ := hfn
    have hb0 := fbox_below (fbox_new w (.int .i64 0) .nilFunc) b1
    have f_0 := fbox_c0 hb0
    have f_1 := fbox_c1 hb0
    have f_2 := fbox_f hb0 0
    have f_3 := fbox_f hb0 1
    have HBX := hide hb0
    have HBL := hide (below_nx (below_al w _) b1)
    have HFN := hide hfn
    clear hb0 b1 hfn
    go_wp2
    refine bodyPost_ret (results_cell_row rfl _ _ _ _ _ _ _ rfl (fbox_set (unhide HBX) _ _) Tryz.underlying63 rfl infoFn) rfl ?_
    exact ⟨⟨_, rfl, Or.inr ⟨by decide, fn_cong (fn_put ⟨k, cp, rfl, hen, unhide HFN⟩ (by simp) _ _) fun zs hz _ => call_POWER hz⟩⟩, fbox_put (unhide HBL) (Nat.le_refl _) _ _⟩
  by_cases h_SQRT : s.toList = [83, 81, 82, 84]
  · rw [h_SQRT, show takesL [83, 81, 82, 84] = 1 from by decide]
    obtain rfl := toList_lit h_SQRT
    clear h_SQRT
    go_enter Tryz.func53, Tryz.ntmps53
    go_wp2_with fail
    refine (of1_val _ _ do_SQRT _).mono ?_
    rintro e w1 ⟨⟨fv, rfl, hfn⟩, b1⟩
    obtain ⟨k, cp, rfl, hen, hfn⟩ := hfn
    have hb0 := fbox_below (fbox_new w (.int .i64 0) .nilFunc) b1
    have f_0 := fbox_c0 hb0
    have f_1 := fbox_c1 hb0
    have f_2 := fbox_f hb0 0
    have f_3 := fbox_f hb0 1
    have HBX := hide hb0
    have HBL := hide (below_nx (below_al w _) b1)
    have HFN := hide hfn
    clear hb0 b1 hfn
    go_wp2
    refine bodyPost_ret (results_cell_row rfl _ _ _ _ _ _ _ rfl (fbox_set (unhide HBX) _ _) Tryz.underlying63 rfl infoFn) rfl ?_
    exact ⟨⟨_, rfl, Or.inr ⟨by decide, fn_cong (fn_put ⟨k, cp, rfl, hen, unhide HFN⟩ (by simp) _ _) fun zs hz _ => call_SQRT hz⟩⟩, fbox_put (unhide HBL) (Nat.le_refl _) _ _⟩
  by_cases h_GCD : s.toList = [71, 67, 68]
  · rw [h_GCD, show takesL [71, 67, 68] = 2 from by decide]
    obtain rfl := toList_lit h_GCD
    clear h_GCD
    go_enter Tryz.func53, Tryz.ntmps53
    go_wp2_with fail
    refine (of2_val _ _ do_GCD _).mono ?_
    rintro e w1 ⟨⟨fv, rfl, hfn⟩, b1⟩
    obtain ⟨k, cp, rfl, hen, hfn⟩ := hfn
    have hb0 := fbox_below (fbox_new w (.int .i64 0) .nilFunc) b1
    have f_0 := fbox_c0 hb0
    have f_1 := fbox_c1 hb0
    have f_2 := fbox_f hb0 0
    have f_3 := fbox_f hb0 1
    have HBX := hide hb0
    have HBL := hide (below_nx (below_al w _) b1)
    have HFN := hide hfn
    clear hb0 b1 hfn
    go_wp2
    refine bodyPost_ret (results_cell_row rfl _ _ _ _ _ _ _ rfl (fbox_set (unhide HBX) _ _) Tryz.underlying63 rfl infoFn) rfl ?_
    exact ⟨⟨_, rfl, Or.inr ⟨by decide, fn_cong (fn_put ⟨k, cp, rfl, hen, unhide HFN⟩ (by simp) _ _) fun zs hz _ => call_GCD hz⟩⟩, fbox_put (unhide HBL) (Nat.le_refl _) _ _⟩
  by_cases h_FACT : s.toList = [70, 65, 67, 84]
  · rw [h_FACT, show takesL [70, 65, 67, 84] = 1 from by decide]
    obtain rfl := toList_lit h_FACT
    clear h_FACT
    go_enter Tryz.func53, Tryz.ntmps53
    go_wp2_with fail
    refine (of1_val _ _ do_FACT _).mono ?_
    rintro e w1 ⟨⟨fv, rfl, hfn⟩, b1⟩
    obtain ⟨k, cp, rfl, hen, hfn⟩ := hfn
    have hb0 := fbox_below (fbox_new w (.int .i64 0) .nilFunc) b1
    have f_0 := fbox_c0 hb0
    have f_1 := fbox_c1 hb0
    have f_2 := fbox_f hb0 0
    have f_3 := fbox_f hb0 1
    have HBX := hide hb0
    have HBL := hide (below_nx (below_al w _) b1)
    have HFN := hide hfn
    clear hb0 b1 hfn
    go_wp2
    refine bodyPost_ret (results_cell_row rfl _ _ _ _ _ _ _ rfl (fbox_set (unhide HBX) _ _) Tryz.underlying63 rfl infoFn) rfl ?_
    exact ⟨⟨_, rfl, Or.inr ⟨by decide, fn_cong (fn_put ⟨k, cp, rfl, hen, unhide HFN⟩ (by simp) _ _) fun zs hz _ => call_FACT hz⟩⟩, fbox_put (unhide HBL) (Nat.le_refl _) _ _⟩
  by_cases h_EVEN : s.toList = [69, 86, 69, 78]
  · rw [h_EVEN, show takesL [69, 86, 69, 78] = 1 from by decide]
    obtain rfl := toList_lit h_EVEN
    clear h_EVEN
    go_enter Tryz.func53, Tryz.ntmps53
    go_wp2
    refine bodyPost_ret (results_cell_row rfl _ _ _ _ _ _ _ rfl (heap_alloc_new _ _) Tryz.underlying63 rfl infoFn) rfl ?_
    exact ⟨⟨_, rfl, Or.inr ⟨by decide, fn_cong (even_fn _) fun zs hz _ => call_EVEN hz⟩⟩, below_al w _⟩
  by_cases h_RATIO : s.toList = [82, 65, 84, 73, 79]
  · rw [h_RATIO, show takesL [82, 65, 84, 73, 79] = 2 from by decide]
    obtain rfl := toList_lit h_RATIO
    clear h_RATIO
    go_enter Tryz.func53, Tryz.ntmps53
    go_wp2_with fail
    refine (of2_val _ _ do_RATIO _).mono ?_
    rintro e w1 ⟨⟨fv, rfl, hfn⟩, b1⟩
    obtain ⟨k, cp, rfl, hen, hfn⟩ := hfn
    have hb0 := fbox_below (fbox_new w (.int .i64 0) .nilFunc) b1
    have f_0 := fbox_c0 hb0
    have f_1 := fbox_c1 hb0
    have f_2 := fbox_f hb0 0
    have f_3 := fbox_f hb0 1
    have HBX := hide hb0
    have HBL := hide (below_nx (below_al w _) b1)
    have HFN := hide hfn
    clear hb0 b1 hfn
    go_wp2
    refine bodyPost_ret (results_cell_row rfl _ _ _ _ _ _ _ rfl (fbox_set (unhide HBX) _ _) Tryz.underlying63 rfl infoFn) rfl ?_
    exact ⟨⟨_, rfl, Or.inr ⟨by decide, fn_cong (fn_put ⟨k, cp, rfl, hen, unhide HFN⟩ (by simp) _ _) fun zs hz _ => call_RATIO hz⟩⟩, fbox_put (unhide HBL) (Nat.le_refl _) _ _⟩
  have ht := takes_none h_ABS h_SIGN h_INT h_TRUNC h_ROUND h_ROUNDUP h_MOD h_QUOTIENT h_POWER h_SQRT h_GCD h_FACT h_EVEN h_RATIO
  replace h_ABS := ne_lit h_ABS
  replace h_SIGN := ne_lit h_SIGN
  replace h_INT := ne_lit h_INT
  replace h_TRUNC := ne_lit h_TRUNC
  replace h_ROUND := ne_lit h_ROUND
  replace h_ROUNDUP := ne_lit h_ROUNDUP
  replace h_MOD := ne_lit h_MOD
  replace h_QUOTIENT := ne_lit h_QUOTIENT
  replace h_POWER := ne_lit h_POWER
  replace h_SQRT := ne_lit h_SQRT
  replace h_GCD := ne_lit h_GCD
  replace h_FACT := ne_lit h_FACT
  replace h_EVEN := ne_lit h_EVEN
  replace h_RATIO := ne_lit h_RATIO
  rw [ht]
  clear ht
  go_enter Tryz.func53, Tryz.ntmps53
  go_wp2
  refine bodyPost_ret (results_cell_row rfl _ _ _ _ _ _ _ rfl (heap_alloc_new _ _) Tryz.underlying63 rfl infoFn) rfl ?_
  exact ⟨⟨.nilFunc, rfl, Or.inl (by simp)⟩, below_al w _⟩

theorem line_none {s : List UInt8} (h0 : s ≠ [43]) (h1 : s ≠ [45]) (h2 : s ≠ [42]) (h3 : s ≠ [47]) (h4 : s ≠ [94]) : ¬ 3 ≤ lineL s := fun h => by
  have := line_lits h
  simp [*] at this
set_option maxRecDepth 100000 in
set_option maxHeartbeats 8000000 in
theorem arithmetic_val (s : ByteArray) (w : World) :
    Calls Tryz.prog 29 #[.string s] w fun e w' => (∃ fv, e = .returned (.agg #[.int .i64 ((if 3 ≤ lineL s.toList then 2 else 0 : Nat) : Int), fv]) ∧ (¬ 3 ≤ lineL s.toList ∧ fv = .nilFunc ∨ 3 ≤ lineL s.toList ∧ FnAt w' fv 2 (arith2 s.toList))) ∧ Below w.heap.size w w' := by
  have hmf : ∀ (fn : Fn) (first cap : Array Value) (w : World), (Instr.makeFunc fn first cap).run Tryz.prog w = .ok (.func fn first cap) w := fun _ _ _ _ => rfl
  by_cases h_0 : s.toList = [43]
  · rw [h_0, if_pos (by decide)]
    obtain rfl := toList_lit h_0
    clear h_0
    go_enter Tryz.func29, Tryz.ntmps29
    go_wp2_with fail
    refine (of2_val _ _ do_op0 _).mono ?_
    rintro e w1 ⟨⟨fv, rfl, hfn⟩, b1⟩
    obtain ⟨k, cp, rfl, hen, hfn⟩ := hfn
    have hb0 := fbox_below (fbox_new w (.int .i64 0) .nilFunc) b1
    have f_0 := fbox_c0 hb0
    have f_1 := fbox_c1 hb0
    have f_2 := fbox_f hb0 0
    have f_3 := fbox_f hb0 1
    have HBX := hide hb0
    have HBL := hide (below_nx (below_al w _) b1)
    have HFN := hide hfn
    clear hb0 b1 hfn
    go_wp2
    refine bodyPost_ret (results_cell_row rfl _ _ _ _ _ _ _ rfl (fbox_set (unhide HBX) _ _) Tryz.underlying63 rfl infoFn) rfl ?_
    exact ⟨⟨_, rfl, Or.inr ⟨by decide, fn_cong (fn_put ⟨k, cp, rfl, hen, unhide HFN⟩ (by simp) _ _) fun zs hz hr => call_op0 hz hr⟩⟩, fbox_put (unhide HBL) (Nat.le_refl _) _ _⟩
  by_cases h_1 : s.toList = [45]
  · rw [h_1, if_pos (by decide)]
    obtain rfl := toList_lit h_1
    clear h_1
    go_enter Tryz.func29, Tryz.ntmps29
    go_wp2_with fail
    refine (of2_val _ _ do_op1 _).mono ?_
    rintro e w1 ⟨⟨fv, rfl, hfn⟩, b1⟩
    obtain ⟨k, cp, rfl, hen, hfn⟩ := hfn
    have hb0 := fbox_below (fbox_new w (.int .i64 0) .nilFunc) b1
    have f_0 := fbox_c0 hb0
    have f_1 := fbox_c1 hb0
    have f_2 := fbox_f hb0 0
    have f_3 := fbox_f hb0 1
    have HBX := hide hb0
    have HBL := hide (below_nx (below_al w _) b1)
    have HFN := hide hfn
    clear hb0 b1 hfn
    go_wp2
    refine bodyPost_ret (results_cell_row rfl _ _ _ _ _ _ _ rfl (fbox_set (unhide HBX) _ _) Tryz.underlying63 rfl infoFn) rfl ?_
    exact ⟨⟨_, rfl, Or.inr ⟨by decide, fn_cong (fn_put ⟨k, cp, rfl, hen, unhide HFN⟩ (by simp) _ _) fun zs hz hr => call_op1 hz hr⟩⟩, fbox_put (unhide HBL) (Nat.le_refl _) _ _⟩
  by_cases h_2 : s.toList = [42]
  · rw [h_2, if_pos (by decide)]
    obtain rfl := toList_lit h_2
    clear h_2
    go_enter Tryz.func29, Tryz.ntmps29
    go_wp2_with fail
    refine (of2_val _ _ do_op2 _).mono ?_
    rintro e w1 ⟨⟨fv, rfl, hfn⟩, b1⟩
    obtain ⟨k, cp, rfl, hen, hfn⟩ := hfn
    have hb0 := fbox_below (fbox_new w (.int .i64 0) .nilFunc) b1
    have f_0 := fbox_c0 hb0
    have f_1 := fbox_c1 hb0
    have f_2 := fbox_f hb0 0
    have f_3 := fbox_f hb0 1
    have HBX := hide hb0
    have HBL := hide (below_nx (below_al w _) b1)
    have HFN := hide hfn
    clear hb0 b1 hfn
    go_wp2
    refine bodyPost_ret (results_cell_row rfl _ _ _ _ _ _ _ rfl (fbox_set (unhide HBX) _ _) Tryz.underlying63 rfl infoFn) rfl ?_
    exact ⟨⟨_, rfl, Or.inr ⟨by decide, fn_cong (fn_put ⟨k, cp, rfl, hen, unhide HFN⟩ (by simp) _ _) fun zs hz hr => call_op2 hz hr⟩⟩, fbox_put (unhide HBL) (Nat.le_refl _) _ _⟩
  by_cases h_3 : s.toList = [47]
  · rw [h_3, if_pos (by decide)]
    obtain rfl := toList_lit h_3
    clear h_3
    go_enter Tryz.func29, Tryz.ntmps29
    go_wp2_with fail
    refine (of2_val _ _ do_op3 _).mono ?_
    rintro e w1 ⟨⟨fv, rfl, hfn⟩, b1⟩
    obtain ⟨k, cp, rfl, hen, hfn⟩ := hfn
    have hb0 := fbox_below (fbox_new w (.int .i64 0) .nilFunc) b1
    have f_0 := fbox_c0 hb0
    have f_1 := fbox_c1 hb0
    have f_2 := fbox_f hb0 0
    have f_3 := fbox_f hb0 1
    have HBX := hide hb0
    have HBL := hide (below_nx (below_al w _) b1)
    have HFN := hide hfn
    clear hb0 b1 hfn
    go_wp2
    refine bodyPost_ret (results_cell_row rfl _ _ _ _ _ _ _ rfl (fbox_set (unhide HBX) _ _) Tryz.underlying63 rfl infoFn) rfl ?_
    exact ⟨⟨_, rfl, Or.inr ⟨by decide, fn_cong (fn_put ⟨k, cp, rfl, hen, unhide HFN⟩ (by simp) _ _) fun zs hz hr => call_op3 hz hr⟩⟩, fbox_put (unhide HBL) (Nat.le_refl _) _ _⟩
  by_cases h_4 : s.toList = [94]
  · rw [h_4, if_pos (by decide)]
    obtain rfl := toList_lit h_4
    clear h_4
    go_enter Tryz.func29, Tryz.ntmps29
    go_wp2_with fail
    refine (of2_val _ _ do_op4 _).mono ?_
    rintro e w1 ⟨⟨fv, rfl, hfn⟩, b1⟩
    obtain ⟨k, cp, rfl, hen, hfn⟩ := hfn
    have hb0 := fbox_below (fbox_new w (.int .i64 0) .nilFunc) b1
    have f_0 := fbox_c0 hb0
    have f_1 := fbox_c1 hb0
    have f_2 := fbox_f hb0 0
    have f_3 := fbox_f hb0 1
    have HBX := hide hb0
    have HBL := hide (below_nx (below_al w _) b1)
    have HFN := hide hfn
    clear hb0 b1 hfn
    go_wp2
    refine bodyPost_ret (results_cell_row rfl _ _ _ _ _ _ _ rfl (fbox_set (unhide HBX) _ _) Tryz.underlying63 rfl infoFn) rfl ?_
    exact ⟨⟨_, rfl, Or.inr ⟨by decide, fn_cong (fn_put ⟨k, cp, rfl, hen, unhide HFN⟩ (by simp) _ _) fun zs hz hr => call_op4 hz hr⟩⟩, fbox_put (unhide HBL) (Nat.le_refl _) _ _⟩
  have hl := line_none h_0 h_1 h_2 h_3 h_4
  rw [if_neg hl]
  have HL := hide hl
  clear hl
  replace h_0 := ne_lit h_0
  replace h_1 := ne_lit h_1
  replace h_2 := ne_lit h_2
  replace h_3 := ne_lit h_3
  replace h_4 := ne_lit h_4
  go_enter Tryz.func29, Tryz.ntmps29
  go_wp2
  refine bodyPost_ret (results_cell_row rfl _ _ _ _ _ _ _ rfl (heap_alloc_new _ _) Tryz.underlying63 rfl infoFn) rfl ?_
  exact ⟨⟨_, rfl, Or.inl ⟨unhide HL, rfl⟩⟩, below_al w _⟩
end Go.Proofs.YtbeijnflfmjgfaaGreatDoor
