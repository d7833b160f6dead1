/- Texts as bytes; the walk of ParseDeep. -/
import Derived.BigQuiet
import Derived.BigRegion
import Derived.ChangeAlike
import Derived.Deep.AppendLies
import Derived.Deep.CutBlock
import Derived.Deep.CutRange
import Derived.Deep.DeepFit
import Derived.Deep.DeepHandedRow
import Derived.Deep.MidRow
import Derived.Deep.QuietTactic
import Derived.Deep.RegionHeld3
import Derived.Deep.RegionLaw
import Derived.Deep.RegionWith
import Derived.Deep.WholeRow
import Derived.Defers
import Derived.Great.BuildSlice
import Derived.LaidSub
import Derived.Laws.Bits64b
import Derived.Laws.CopyOwn
import Derived.Laws.IdiomStrings
import Derived.Laws.OwnMore
import Derived.Laws.Rows
import Derived.Laws.StructEq
import Derived.Laws.Tables
import Derived.Lay
import Derived.Lib.Atoi
import Derived.Lib.AtoiErrMem
import Derived.Lib.BitFns
import Derived.Lib.CutLaws
import Derived.Lib.IndexMore
import Derived.Lib.ItoaMem
import Derived.Lib.ItoaNum
import Derived.Lib.Join
import Derived.Lib.LaidTab
import Derived.Lib.Replace
import Derived.Lib.Walk
import Derived.LoopIn
import Derived.LoopNIn
import Derived.OpenShut
import Derived.OwnWalkIn
import Derived.ProofKit
import Derived.RangeFuncBound
import Derived.RangeFuncCalls
import Derived.RangeFuncLeaves
import Derived.RangeFuncNested
import Derived.Recover
import Derived.RegionTactic
import Derived.SevenTiedAt
import Derived.Shelf.Abstract
import Derived.Shelf.Bits.Mul64
import Derived.Shelf.LaysM
import Derived.Shelf.RegionOpen
import Derived.Shelf.Small.Bits
import Derived.Shelf.Small.Strs
import Derived.Shelf.Small.Utf8
import Derived.Shelf.Small.Wraps
import Derived.Shelf.Strconv.Atoi
import Derived.Shelf.Strconv.Itoa0
import Derived.Shelf.Strconv.Itoa1
import Derived.Shelf.Strconv.Itoa2
import Derived.Shelf.Strconv.Itoa3
import Derived.Shelf.Strings.AsciiSet
import Derived.Shelf.Strings.Builder1
import Derived.Shelf.Strings.Builder2
import Derived.Shelf.Strings.Count
import Derived.Shelf.Strings.Cut
import Derived.Shelf.Strings.OnBuilder
import Derived.Shelf.Strings.Prefix
import Derived.Shelf.Strings.Replace
import Derived.Shelf.Strings.Runes
import Derived.Shelf.Strings.Search1
import Derived.Shelf.Strings.Search2
import Derived.Shelf.Strings.Search3
import Derived.Shelf.Strings.Shaped
import Derived.Shelf.Strings.Split
import Derived.Shelf.Strings.SplitShaped
import Derived.Shelf.Strings.Trim
import Derived.Shelf.Unicode.DecodeSlow
import Derived.Stop.Joined
import Derived.TacticsInMore
import Derived.Test.YtloamahbghjjgaaGreatDoorCards
import Derived.Test.YtloamahbghjjgaaGreatDoorProg
import Derived.Test.YtloamahbghjjgaaGreatDoorRows
import Derived.Test.YtloamahbghjjgaaGreatDoorTie
import Derived.WalkKit
import Derived.WalkLawsBesides
import Derived.WalkSmall
import Derived.WalkSpells
import Derived.Test.YtloamahbghjjgaaGreatDoorZeAA
import Derived.Test.YtloamahbghjjgaaGreatDoorZeAB
import Derived.Test.YtloamahbghjjgaaGreatDoorZeAC
import Derived.Test.YtloamahbghjjgaaGreatDoorZeAD
import Derived.Test.YtloamahbghjjgaaGreatDoorZeAE
import Derived.Test.YtloamahbghjjgaaGreatDoorZeAF
import Derived.Test.YtloamahbghjjgaaGreatDoorZeAG
import Derived.Test.YtloamahbghjjgaaGreatDoorZeAH
import Derived.Test.YtloamahbghjjgaaGreatDoorZeAI
import Derived.Test.YtloamahbghjjgaaGreatDoorZeAJ
import Derived.Test.YtloamahbghjjgaaGreatDoorZeAK
import Derived.Test.YtloamahbghjjgaaGreatDoorZeAL
import Derived.Test.YtloamahbghjjgaaGreatDoorZeAM
import Derived.Test.YtloamahbghjjgaaGreatDoorZeAN
import Derived.Test.YtloamahbghjjgaaGreatDoorZeAO
import Derived.Test.YtloamahbghjjgaaGreatDoorZeAP
import Derived.Test.YtloamahbghjjgaaGreatDoorZeAQ
import Derived.Test.YtloamahbghjjgaaGreatDoorZeAR
import Derived.Test.YtloamahbghjjgaaGreatDoorZeAS
import Derived.Test.YtloamahbghjjgaaGreatDoorZeAT
import Derived.Test.YtloamahbghjjgaaGreatDoorZeAU
import Derived.Test.YtloamahbghjjgaaGreatDoorZeAV
namespace Go.Proofs.YtloamahbghjjgaaGreatDoor
open Go.RowKit

theorem long_no {a b : ByteArray} {n m : Nat} (ha : a.size = n) (hb : b.size = m) (h : n + m ≤ 100000) : (9223372036854775807 < a.size + b.size) = False ∧ a.size + b.size ≤ 9223372036854775807 := by
  rw [ha, hb]; exact ⟨eq_false (by omega), by omega⟩
theorem par_bs (l : List UInt8) : ((⟨#[40]⟩ : ByteArray) ++ bs l) ++ ⟨#[41]⟩ = bs (40 :: (l ++ [41])) := by
  unfold bs; apply ByteArray.ext; simp
theorem neg_bs (l : List UInt8) : ((⟨#[45]⟩ : ByteArray) ++ bs l) = bs (45 :: l) := by
  unfold bs; apply ByteArray.ext; simp
theorem call_bs (l : List UInt8) : ((⟨#[102, 40]⟩ : ByteArray) ++ bs l) ++ ⟨#[41]⟩ = bs (102 :: 40 :: (l ++ [41])) := by
  unfold bs; apply ByteArray.ext; simp
theorem pls_bs (l : List UInt8) : ((⟨#[43, 40]⟩ : ByteArray) ++ bs l) ++ ⟨#[41]⟩ = bs (43 :: 40 :: (l ++ [41])) := by
  unfold bs; apply ByteArray.ext; simp
theorem one_bs (l : List UInt8) : (bs l ++ ⟨#[49]⟩ : ByteArray) = bs (l ++ [49]) := by
  unfold bs; apply ByteArray.ext; simp
theorem com_bs (l : List UInt8) : (bs l ++ ⟨#[44]⟩ : ByteArray) = bs (l ++ [44]) := by
  unfold bs; apply ByteArray.ext; simp
theorem sum_bs (l : List UInt8) : (bs l ++ ⟨#[43, 49]⟩ : ByteArray) = bs (l ++ [43, 49]) := by
  unfold bs; apply ByteArray.ext; simp
set_option maxRecDepth 100000 in
set_option maxHeartbeats 8000000 in
theorem parseDeep_law (n : Int) (w : World) (hn : (Lit.int .u8 n).wf = true) (he : Env5 w) :
    Calls Tryz.prog 7 #[.int .u8 n] w fun e w' => e = .returned (.bool true) ∧ Below w.heap.size w w' := by
  have HE := hide he
  clear he
  have hn : 0 ≤ n ∧ n ≤ 255 := by simpa [Lit.wf, IntKind.min, IntKind.max, IntKind.bits, IntKind.signed] using hn
  go_enter Tryz.func7, Tryz.ntmps7
  go_upto_region 2 with fail
  obtain ⟨K, hK, hK4⟩ : ∃ K : Nat, n % 40 = (K : Int) ∧ K < 40 := ⟨(n % 40).toNat, by omega, by omega⟩
  rw [hK]
  clear hK hn
  go_wp2_with fail
  go_loop [4, 5, 6, 7, 27] (fun a b c d i => ∃ k : Nat, k ≤ K ∧ i = .int .i64 (k : Int) ∧ a = .string (bs (dpL k)) ∧ b = .string (bs (dsL k)) ∧ c = .string (bs (dcL k)) ∧ d = .string (bs (daL k))) (fun _ _ _ _ i => K - (intOf i).toNat)
  case atStart => exact ⟨0, by omega, rfl, rfl, rfl, rfl, rfl⟩
  case round =>
    obtain ⟨k, hk, rfl, rfl, rfl, rfl, rfl⟩ := hrel
    by_cases hlt : k < K
    · have hlti : (k : Int) < (K : Int) := by omega
      have p1 := par_bs (dpL k)
      have p2 := neg_bs (dsL k)
      have p3 := call_bs (dcL k)
      have l1 : (bs (dpL k)).size = 2 * k + 1 := (bs_size _).trans (par_told k).2.2.2.2.2
      have l2 : (bs (dsL k)).size = k + 1 := (bs_size _).trans (sign_told k).2.2.2.2.2
      have l3 : (bs (dcL k)).size = 3 * k + 1 := (bs_size _).trans (call_told k).2.2.2.2.2
      have l4 : (daL k).length ≤ 2 * k := (args_told k).2.2.2.2.2.2.1
      obtain ⟨a1, a2⟩ := long_no (a := ⟨#[40]⟩) (n := 1) rfl l1 (by omega)
      have l5 : ((⟨#[40]⟩ : ByteArray) ++ bs (dpL k)).size = 2 * k + 2 := by rw [ByteArray.size_append, l1]; show 1 + _ = _; omega
      obtain ⟨a3, a4⟩ := long_no (b := ⟨#[41]⟩) (m := 1) l5 rfl (by omega)
      obtain ⟨a5, a6⟩ := long_no (a := ⟨#[45]⟩) (n := 1) rfl l2 (by omega)
      obtain ⟨a7, a8⟩ := long_no (a := ⟨#[102, 40]⟩) (n := 2) rfl l3 (by omega)
      have l6 : ((⟨#[102, 40]⟩ : ByteArray) ++ bs (dcL k)).size = 3 * k + 3 := by rw [ByteArray.size_append, l3]; show 2 + _ = _; omega
      obtain ⟨a9, a10⟩ := long_no (b := ⟨#[41]⟩) (m := 1) l6 rfl (by omega)
      have l7 : (bs (daL k)).size = (daL k).length := bs_size _
      obtain ⟨b1, b2⟩ := long_no (b := ⟨#[44]⟩) (m := 1) l7 rfl (by omega)
      have l8 : (bs (daL k ++ [44])).size = (daL k).length + 1 := by rw [bs_size, List.length_append]; rfl
      obtain ⟨b3, b4⟩ := long_no (b := ⟨#[49]⟩) (m := 1) l8 rfl (by omega)
      obtain ⟨b5, b6⟩ := long_no (b := ⟨#[49]⟩) (m := 1) l7 rfl (by omega)
      have p4 := com_bs (daL k)
      have P5 := hide (one_bs (daL k ++ [44]))
      have P6 := hide (one_bs (daL k))
      have hkb : (k : Int) ≤ 40 := by omega
      have hk0 : (0 : Int) ≤ (k : Int) := by omega
      have e1 : dpL (k + 1) = 40 :: (dpL k ++ [41]) := rfl
      have e2 : dsL (k + 1) = 45 :: dsL k := rfl
      have e3 : dcL (k + 1) = 102 :: 40 :: (dcL k ++ [41]) := rfl
      have E1 := hide e1
      have E2 := hide e2
      have E3 := hide e3
      clear l1 l2 l3 l5 l6 l7 l8 e1 e2 e3
      by_cases h0 : 0 < k
      · have h0i : (0 : Int) < (k : Int) := by omega
        have E4 : Hid (daL (k + 1) = (daL k ++ [44]) ++ [49]) := hide (by rw [daL, if_pos h0])
        go_wp2
        go_round
        case rel => exact ⟨k + 1, by omega, by go_num, by rw [unhide E1], by rw [unhide E2], by rw [unhide E3], by rw [unhide E4, ← unhide P5]⟩
        case measure => simp [intOf]; omega
      · have h0i : ¬ (0 : Int) < (k : Int) := by omega
        have E4 : Hid (daL (k + 1) = daL k ++ [49]) := hide (by rw [daL, if_neg h0])
        go_wp2
        go_round
        case rel => exact ⟨k + 1, by omega, by go_num, by rw [unhide E1], by rw [unhide E2], by rw [unhide E3], by rw [unhide E4, ← unhide P6]⟩
        case measure => simp [intOf]; omega
    · have hkK : k = K := by omega
      subst hkK
      have hlti : ¬ (k : Int) < (k : Int) := by omega
      have hkb : (k : Int) ≤ 40 := by omega
      have hk0 : (0 : Int) ≤ (k : Int) := by omega
      go_wp2_with fail
      go_loop [8, 47] (fun a i => ∃ j : Nat, j ≤ 120 + k ∧ i = .int .i64 (j : Int) ∧ a = .string (bs (dmL j))) (fun _ i => 120 + k - (intOf i).toNat)
      case atStart => exact ⟨0, by omega, rfl, rfl⟩
      case round =>
        obtain ⟨j, hj, rfl, rfl⟩ := hrel
        by_cases hlt2 : j < 120 + k
        · have hlti2 : (j : Int) < 120 + (k : Int) := by omega
          have l1 : (bs (dmL j)).size = 2 * j + 1 := (bs_size _).trans (sum_told j).2.2.2.2.2
          obtain ⟨a1, a2⟩ := long_no (b := ⟨#[43, 49]⟩) (m := 2) l1 rfl (by omega)
          have E1 : Hid (bs (dmL j) ++ ⟨#[43, 49]⟩ = bs (dmL (j + 1))) := hide (sum_bs (dmL j))
          clear l1
          go_wp2
          go_round
          case rel => exact ⟨j + 1, by omega, by go_num, by rw [← unhide E1]⟩
          case measure => simp [intOf]; omega
        · have hjk : j = 120 + k := by omega
          subst hjk
          have hlti2 : ¬ ((120 + k : Nat) : Int) < 120 + (k : Int) := by omega
          have H1 := hide (fun w he => parse_val (bs (dpL k)) w (by rw [bs_size, (par_told k).2.2.2.2.2]; omega) he)
          have H2 := hide (fun w he => parse_val (bs (dsL k)) w (by rw [bs_size, (sign_told k).2.2.2.2.2]; omega) he)
          have H3 := hide (fun w he => parse_val (bs (dcL k)) w (by rw [bs_size, (call_told k).2.2.2.2.2]; omega) he)
          have l4 : (daL k).length ≤ 2 * k := (args_told k).2.2.2.2.2.2.1
          have H4 := hide (fun w he => parse_val (bs (102 :: 40 :: (daL k ++ [41]))) w (by rw [bs_size]; simp; omega) he)
          have H5 := hide (fun w he => parse_val (bs (dmL (120 + k))) w (by rw [bs_size, (sum_told (120 + k)).2.2.2.2.2]; omega) he)
          have D1 := hide (deep_par k (by omega))
          have D2 := hide (deep_sign k (by omega))
          have D3 := hide (deep_call k (by omega))
          have D4 := hide (deep_args k (by omega))
          have D5 := hide (full_sum (120 + k) (by omega))
          rw [bs_list] at H1 H2 H3 H4 H5
          generalize parseL (dpL k) = q1 at H1 D1
          generalize parseL (dsL k) = q2 at H2 D2
          generalize parseL (dcL k) = q3 at H3 D3
          generalize parseL (102 :: 40 :: (daL k ++ [41])) = q4 at H4 D4
          generalize parseL (dmL (120 + k)) = q5 at H5 D5
          obtain ⟨n1, x1⟩ := q1
          obtain ⟨n2, x2⟩ := q2
          obtain ⟨n3, x3⟩ := q3
          obtain ⟨n4, x4⟩ := q4
          obtain ⟨n5, x5⟩ := q5
          unfold PaPost at H1 H2 H3 H4 H5
          simp only [] at H1 H2 H3 H4 H5 D1 D2 D3 D4 D5
          have l7 : (bs (daL k)).size = (daL k).length := bs_size _
          obtain ⟨a1, a2⟩ := long_no (a := ⟨#[102, 40]⟩) (n := 2) rfl l7 (by omega)
          have l8 : ((⟨#[102, 40]⟩ : ByteArray) ++ bs (daL k)).size = (daL k).length + 2 := by rw [ByteArray.size_append, l7]; show 2 + _ = _; omega
          obtain ⟨a3, a4⟩ := long_no (b := ⟨#[41]⟩) (m := 1) l8 rfl (by omega)
          have p3 := call_bs (daL k)
          clear l7 l8
          generalize bs (dpL k) = s1 at H1 ⊢
          generalize bs (dsL k) = s2 at H2 ⊢
          generalize bs (dcL k) = s3 at H3 ⊢
          generalize bs (dmL (120 + k)) = s5 at H5 ⊢
          have HB := hide (Below.refl w.heap.size w)
          go_wp2_with fail
          refine (unhide H1 _ (unhide HE)).mono ?_
          rintro e w1 ⟨v1, rfl, _, bb⟩
          replace HB := hide bb
          clear bb H1
          go_wp2_with fail
          refine (unhide H2 _ ((unhide HE).below (unhide HB))).mono ?_
          rintro e w2 ⟨v2, rfl, _, bb⟩
          replace HB := hide (below_nx (unhide HB) bb)
          clear bb H2
          go_wp2_with fail
          refine (unhide H3 _ ((unhide HE).below (unhide HB))).mono ?_
          rintro e w3 ⟨v3, rfl, _, bb⟩
          replace HB := hide (below_nx (unhide HB) bb)
          clear bb H3
          go_wp2_with fail
          refine (unhide H4 _ ((unhide HE).below (unhide HB))).mono ?_
          rintro e w4 ⟨v4, rfl, _, bb⟩
          replace HB := hide (below_nx (unhide HB) bb)
          clear bb H4 a1 a2 a3 a4 p3
          go_wp2_with fail
          refine (unhide H5 _ ((unhide HE).below (unhide HB))).mono ?_
          rintro e w5 ⟨v5, rfl, _, bb⟩
          replace HB := hide (below_nx (unhide HB) bb)
          clear bb H5
          have HWK := hide wakes6
          by_cases c1 : 32 < k
          · have c2 : 256 < 2 * (120 + k) + 1 := by omega
            have e1 : x1 = 8 := by have := unhide D1; rw [if_pos c1] at this; exact this
            have e2 : x2 = 8 := by have := unhide D2; rw [if_pos c1] at this; exact this
            have e3 : x3 = 8 := by have := unhide D3; rw [if_pos c1] at this; exact this
            have e4 : x4 = 7 := by have := unhide D4; rw [if_pos c1] at this; exact this
            have e5 : x5 = 10 := by have := unhide D5; rw [if_pos c2] at this; exact this
            subst e1 e2 e3 e4 e5
            have i1 : (32 : Int) < (k : Int) := by omega
            have i2 : (256 : Int) < 1 + 2 * (120 + (k : Int)) := by omega
            clear D1 D2 D3 D4 D5 c1 c2
            go_wp2_with fail
            refine (unhide HWK _ ((unhide HE).below (unhide HB))).mono ?_
            rintro e w6 ⟨rfl, bb⟩
            replace HB := hide (below_nx (unhide HB) bb)
            clear bb
            go_wp2
            go_ret
            exact ⟨rfl, unhide HB⟩
          · have e1 : x1 = 0 := by have := unhide D1; rw [if_neg c1] at this; exact this
            have e2 : x2 = 0 := by have := unhide D2; rw [if_neg c1] at this; exact this
            have e3 : x3 = 0 := by have := unhide D3; rw [if_neg c1] at this; exact this
            have e4 : x4 = 0 := by have := unhide D4; rw [if_neg c1] at this; exact this
            subst e1 e2 e3 e4
            have i1 : ¬ (32 : Int) < (k : Int) := by omega
            by_cases c2 : 256 < 2 * (120 + k) + 1
            · have e5 : x5 = 10 := by have := unhide D5; rw [if_pos c2] at this; exact this
              subst e5
              have i2 : (256 : Int) < 1 + 2 * (120 + (k : Int)) := by omega
              clear D1 D2 D3 D4 D5 c1 c2
              go_wp2_with fail
              refine (unhide HWK _ ((unhide HE).below (unhide HB))).mono ?_
              rintro e w6 ⟨rfl, bb⟩
              replace HB := hide (below_nx (unhide HB) bb)
              clear bb
              go_wp2
              go_ret
              exact ⟨rfl, unhide HB⟩
            · have e5 : x5 = 0 := by have := unhide D5; rw [if_neg c2] at this; exact this
              subst e5
              have i2 : ¬ (256 : Int) < 1 + 2 * (120 + (k : Int)) := by omega
              clear D1 D2 D3 D4 D5 c1 c2
              go_wp2_with fail
              refine (unhide HWK _ ((unhide HE).below (unhide HB))).mono ?_
              rintro e w6 ⟨rfl, bb⟩
              replace HB := hide (below_nx (unhide HB) bb)
              clear bb
              go_wp2
              go_ret
              exact ⟨rfl, unhide HB⟩
end Go.Proofs.YtloamahbghjjgaaGreatDoor

namespace Go.Proofs.YtloamahbghjjgaaGreatDoor
open Go.ChangeShapes Go.WideShapes Go.ChangeAt Go.RowKit

theorem own5 : ownKnob Tryz.prog.godebug = none := by kernel_rfl
theorem gTab5 : Tryz.prog.globalNamed "internal/strconv.uint64pow10" = some 7 := by kernel_rfl
theorem gTabType5 : (Tryz.prog.globals[7]?).map (·.type) = some 269 := by kernel_rfl
theorem cellsTab5 : Tryz.prog.cellsOf 269 = 20 := by kernel_rfl
theorem cellsU5 : Tryz.prog.cellsOf 208 = 1 := by kernel_rfl
theorem gSig5 : Tryz.prog.globalNamed "lattice/value.signs" = some 1 := by kernel_rfl
theorem gSigType5 : (Tryz.prog.globals[1]?).map (·.type) = some 219 := by kernel_rfl
theorem gTwo5 : Tryz.prog.globalNamed "lattice/lex.twoSigns" = some 0 := by kernel_rfl
theorem gTwoType5 : (Tryz.prog.globals[0]?).map (·.type) = some 186 := by kernel_rfl
theorem cellsS5 : Tryz.prog.cellsOf 9 = 1 := by kernel_rfl

def strData {H : Type} (zs : List (List UInt8)) : DataW H := .agg (zs.map fun z => .lit (.string z))
theorem strs_of_laid {P : Program} {W : World} {name : String} {zs : List (List UInt8)} {g : Nat} {t e : TypeId} {n : Nat}
    (hg : P.globalNamed name = some g) (hty : (P.globals[g]?).map (·.type) = some t) (ht : P.underlying t = some (.array n e)) (he : P.underlying e = some .string) (hce : P.cellsOf e = 1)
    (h : laidMet P [(name, strData zs)] W) (i : Nat) (z : List UInt8) (hz : zs[i]? = some z) : W.cell? ⟨g, i, none⟩ = some (.string ⟨z.toArray⟩) := by
  obtain ⟨ps, ⟨g', t', cs, fuel, p, q, hg', ht', hvar, hd, _, _⟩, _⟩ := h
  obtain rfl := Option.some.inj (hg.symm.trans hg')
  obtain rfl := Option.some.inj (hty.symm.trans ht')
  obtain ⟨xs, m, _, hx, _, hl, hi⟩ := DataW.trod_array ht hd
  have hxs : xs.map (·.1) = zs.map fun z => (DataW.lit (.string z) : DataW Unit) := by
    have := congrArg Prod.fst hx
    simpa [strData] using this.symm
  have hzl : zs.length = n := by
    have := congrArg List.length hxs
    simp at this
    omega
  have hin : i < n := by
    have := (List.getElem?_eq_some_iff.1 hz).1
    omega
  have h0 := hi i hin
  obtain ⟨b, hb⟩ : ∃ b, xs[i]? = some b := ⟨xs[i]'(by omega), List.getElem?_eq_getElem (by omega)⟩
  rw [hb, hce, Nat.mul_one] at h0
  obtain ⟨s, hc, rfl, _⟩ := DataW.trod_string he h0
  have h1 : cs[i]? = some (.string s) := by
    have := congrArg (·[0]?) hc
    simpa [List.getElem?_take, List.getElem?_drop] using this
  have h2 : (xs.map (·.1))[i]? = some (DataW.lit (.string s.data.toList) : DataW Unit) := by simp [hb]
  rw [hxs] at h2
  simp only [List.getElem?_map, Option.map_eq_some_iff, DataW.lit.injEq, Lit.string.injEq] at h2
  obtain ⟨z', hz', e1⟩ := h2
  rw [hz] at hz'
  obtain rfl := Option.some.inj hz'
  have := World.var?_cell hg hvar i
  rw [e1]
  simpa [h1] using this

abbrev laid5 : List (String × DataW Unit) := Rows.parseReadsRow.laid
theorem laid5_one : (laid5.filter fun x => x.1 == "internal/strconv.uint64pow10") = [("internal/strconv.uint64pow10", Lib.tabData .u64 Lib.pow10Tab)] := by kernel_rfl
theorem laid5_sig : (laid5.filter fun x => x.1 == "lattice/value.signs") = [("lattice/value.signs", strData (signL.map (·.data.toList)))] := by kernel_rfl
theorem laid5_two : (laid5.filter fun x => x.1 == "lattice/lex.twoSigns") = [("lattice/lex.twoSigns", strData [[60, 61], [62, 61], [60, 62]])] := by kernel_rfl
theorem tab5_of {W : World} (h : laidMetH Tryz.prog laid5 W) : Lib.TabIs Tryz.prog W "internal/strconv.uint64pow10" .u64 Lib.pow10Tab := by
  have h1 := h.filter (fun x => x.1 == "internal/strconv.uint64pow10")
  rw [laid5_one] at h1
  exact Lib.tabIs_of_head (rest := []) gTab5 gTabType5 Tryz.underlying269 Tryz.underlying208 cellsU5 cellsTab5 h1
theorem sig5_of {W : World} (h : laidMetH Tryz.prog laid5 W) : signTab W := by
  have h1 := h.filter (fun x => x.1 == "lattice/value.signs")
  rw [laid5_sig] at h1
  intro i hi
  have h9 : i = 0 ∨ i = 1 ∨ i = 2 ∨ i = 3 ∨ i = 4 ∨ i = 5 ∨ i = 6 ∨ i = 7 ∨ i = 8 := by omega
  have := fun z hz => strs_of_laid gSig5 gSigType5 Tryz.underlying219 Tryz.underlying9 cellsS5 h1 i z hz
  rcases h9 with rfl | rfl | rfl | rfl | rfl | rfl | rfl | rfl | rfl <;> exact this _ rfl
theorem two5_of {W : World} (h : laidMetH Tryz.prog laid5 W) : twoTab W := by
  have h1 := h.filter (fun x => x.1 == "lattice/lex.twoSigns")
  rw [laid5_two] at h1
  have := fun i z hz => strs_of_laid gTwo5 gTwoType5 Tryz.underlying186 Tryz.underlying9 cellsS5 h1 i z hz
  exact ⟨this 0 _ rfl, this 1 _ rfl, this 2 _ rfl⟩
theorem env5_of {W : World} (h : laidMetH Tryz.prog laid5 W) (hs : W.ShapedOpen Tryz.prog) : Env5 W := ⟨⟨tab5_of h, Tryz.laysM145.s1_3 W hs⟩, sig5_of h, two5_of h⟩
theorem laid5_met (os : Os) (args : Array Value) : laidMet Tryz.prog laid5 ((World.laidAll Tryz.prog os laid5).forCall (fun _ _ => 0) ⟨#[], args, []⟩).memory :=
  laidMet_laidAll _ (by kernel_rfl) (by kernel_rfl)
end Go.Proofs.YtloamahbghjjgaaGreatDoor
