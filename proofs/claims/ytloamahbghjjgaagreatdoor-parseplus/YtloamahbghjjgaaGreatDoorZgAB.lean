/- The contract of math/bits.Div64. -/
import Derived.BigQuiet
import Derived.Deep.CutBlock
import Derived.Deep.CutRange
import Derived.Deep.DeepFit
import Derived.Deep.QuietTactic
import Derived.Laws.Bits64b
import Derived.Lib.BitFns
import Derived.Lib.ItoaMem
import Derived.Lib.ItoaNum
import Derived.Lib.Walk
import Derived.Shelf.Bits.Mul64
import Derived.Shelf.LaysM
import Derived.Shelf.Small.Bits
import Derived.Shelf.Small.Strs
import Derived.Shelf.Small.Utf8
import Derived.Shelf.Small.Wraps
import Derived.Shelf.Strconv.Atoi
import Derived.Shelf.Strconv.Itoa0
import Derived.Shelf.Strconv.Itoa1
import Derived.Shelf.Strconv.Itoa2
import Derived.Shelf.Strconv.Itoa3
import Derived.Shelf.Strings.AsciiSet
import Derived.Shelf.Strings.Builder1
import Derived.Shelf.Strings.Builder2
import Derived.Shelf.Strings.Count
import Derived.Shelf.Strings.Cut
import Derived.Shelf.Strings.OnBuilder
import Derived.Shelf.Strings.Prefix
import Derived.Shelf.Strings.Replace
import Derived.Shelf.Strings.Runes
import Derived.Shelf.Strings.Search1
import Derived.Shelf.Strings.Search2
import Derived.Shelf.Strings.Search3
import Derived.Shelf.Strings.Shaped
import Derived.Shelf.Strings.Split
import Derived.Shelf.Strings.SplitShaped
import Derived.Shelf.Strings.Trim
import Derived.Shelf.Unicode.DecodeSlow
import Derived.Test.YtloamahbghjjgaaGreatDoorProg
import Derived.Test.YtloamahbghjjgaaGreatDoorRows
import Derived.WalkKit
import Derived.WalkLawsBesides
import Derived.WalkSmall
import Derived.WalkSpells
import Derived.Test.YtloamahbghjjgaaGreatDoorZgAA
namespace Go.Proofs.YtloamahbghjjgaaGreatDoor
open Go.RowKit

set_option maxHeartbeats 400000 in
theorem div64_low (lo y : Nat) (w : World) (h1 : lo < 18446744073709551616) (hy0 : 0 < y) (hy1 : y < 18446744073709551616) :
    Calls Tryz.prog 214 #[.int .u64 0, .int .u64 (lo : Int), .int .u64 (y : Int)] w fun e w' => e = .returned (.tuple #[.int .u64 ((lo / y : Nat) : Int), .int .u64 ((lo % y : Nat) : Int)]) ∧ Below w.heap.size w w' := by
  have hne : ((y : Int) == 0) = false := by rw [beq_eq_false_iff_ne]; omega
  go_enter Tryz.func214, Tryz.ntmps214
  go_wp2
  go_quiet (fail)
  go_wp2
  go_ret2
  refine ⟨ret_ne ?_ rfl, below_drewN (Below.refl _ _) _⟩
  have : lo / y ≤ lo := Nat.div_le_self _ _
  exact Mul64.wrapN (lo / y) (by omega)

theorem int_eq {k : IntKind} {a b : Int} (h : a = b) : Value.int k a = Value.int k b := by rw [h]

set_option maxRecDepth 100000 in
set_option maxHeartbeats 1000000 in
theorem div64_high (hi lo y : Nat) (w : World) (hh : 0 < hi) (hhy : hi < y) (h1 : lo < 18446744073709551616) (hy1 : y < 18446744073709551616) :
    Calls Tryz.prog 214 #[.int .u64 (hi : Int), .int .u64 (lo : Int), .int .u64 (y : Int)] w fun e w' => e = .returned (.tuple #[.int .u64 (((hi * 18446744073709551616 + lo) / y : Nat) : Int), .int .u64 (((hi * 18446744073709551616 + lo) % y : Nat) : Int)]) ∧ Below w.heap.size w w' := by
  have hne : ((y : Int) == 0) = false := by rw [beq_eq_false_iff_ne]; omega
  have hnh : ((hi : Int) == 0) = false := by rw [beq_eq_false_iff_ne]; omega
  have hnle : ¬ (y : Int) ≤ (hi : Int) := by omega
  obtain ⟨s, Y, H, L, u, v, hs, hs2, hY, hY1, hY2, hH, hH2, hL, hL2, hu, hu2, hv, hv2, heq⟩ := Dv.norm hi lo y hhy h1 hy1
  have HEQ := hide heq
  have HY := hide hY
  clear heq
  have rs : (64 - ((Lib.bitLen (y : Int).toNat : Nat) : Int)) = (s : Int) := by rw [Int.toNat_natCast]; omega
  have RS := hide rs
  clear rs
  have HS := hide hs
  clear hs
  have m1 : min s 64 = s := by omega
  have m2 : (64 - (s : Int)).toNat = 64 - s := by omega
  have m3 : min (64 - s) 64 = 64 - s := by omega
  have r1 : (y : Int) * 2 ^ s = (Y : Int) := by rw [← hY]; simp
  have r2 : (hi : Int) * 2 ^ s = (H : Int) := by rw [← hH]; simp
  have r3 : (lo : Int) / 2 ^ (64 - s) = (L : Int) := by rw [← hL]; simp
  have r4 : bits BinOp.or IntKind.u64 (H : Int) (L : Int) = (u : Int) := by rw [← hu]; exact bits_or_u64_nat H L hH2 hL2
  have r5 : IntKind.u64.wrap ((lo : Int) * 2 ^ s) = (v : Int) := by rw [IntKind.wrap_u64, ← hv]; simp
  obtain ⟨y1, y0, hy10, hy0, ry1, ry0⟩ : ∃ y1 y0 : Nat, Y = y1 * 4294967296 + y0 ∧ y0 < 4294967296 ∧ (Y : Int) / 4294967296 = (y1 : Int) ∧ bits BinOp.and IntKind.u64 (Y : Int) 4294967295 = (y0 : Int) :=
    ⟨Y / 4294967296, Y % 4294967296, by omega, by omega, by omega, Mul64.maskN Y hY2⟩
  obtain ⟨v1, v0, hv10, hv0, rv1, rv0⟩ : ∃ v1 v0 : Nat, v = v1 * 4294967296 + v0 ∧ v0 < 4294967296 ∧ (v : Int) / 4294967296 = (v1 : Int) ∧ bits BinOp.and IntKind.u64 (v : Int) 4294967295 = (v0 : Int) :=
    ⟨v / 4294967296, v % 4294967296, by omega, by omega, by omega, Mul64.maskN v hv2⟩
  have hy1b : 2147483648 ≤ y1 := by omega
  have hv1b : v1 < 4294967296 := by omega
  have hy1c : y1 < 4294967296 := by omega
  have HY10 := hide hy10
  have HV10 := hide hv10
  clear hy10 hv10 hY hH hL hu hv
  obtain ⟨f1, f2, f3, f4⟩ := Dv.first y1 y0 u v1 (by rw [← unhide HY10]; exact hu2) hv1b hy0 hy1b
  have F1 := hide f1
  have F3 := hide f3
  clear f1 f3
  obtain ⟨q, r, hq, hr⟩ : ∃ q r : Nat, u / y1 = q ∧ u % y1 = r := ⟨_, _, rfl, rfl⟩
  have rq : (u : Int).tdiv (y1 : Int) = (q : Int) := by rw [← hq]; rfl
  have rq' : (u : Int) / (y1 : Int) = (q : Int) := by rw [← hq]; rfl
  have HQ := hide hq
  have HR := hide hr
  have rqy : (q : Int) * (y1 : Int) = (u : Int) - (r : Int) := by
    have h := unhide F3
    rw [hq, hr] at h
    have h2 : ((q * y1 : Nat) : Int) + (r : Int) = (u : Int) := by rw [← Int.natCast_add, h]
    rw [Int.natCast_mul] at h2; omega
  have hru : r ≤ u := by rw [← hr]; exact Nat.mod_le _ _
  rw [hq] at f2
  rw [hr] at f4
  clear hq hr
  have rr : (u : Int) - ((u : Int) - (r : Int)) = (r : Int) := by omega
  obtain ⟨Q1, hQ1⟩ : ∃ Q1 : Nat, Dv.dig (y1 * 4294967296 + y0) u v1 = Q1 := ⟨_, rfl⟩
  have HQ1 := hide hQ1
  rw [hQ1] at F1
  have hQ1b : Q1 < 4294967296 := by rw [← hQ1]; exact Dv.dig_lt _ u v1 (by rw [← unhide HY10]; exact hu2) hv1b
  clear hQ1
  go_enter Tryz.func214, Tryz.ntmps214
  go_wp2_with fail
  refine (Tryz.bits_LeadingZeros64 _ _ (by omega) (by omega)).mono ?_
  rintro e w' ⟨rfl, rfl⟩
  rw [unhide RS]
  go_upto_block 0 with fail
  go_cut [15, 16] from 67 to 85 (fun a b wx => a = .int .u64 (Q1 : Int) ∧ wx = w')
  case first =>
    go_wp2_with fail
    go_loop [15, 16] (fun a b => ∃ q r : Nat, a = .int .u64 (q : Int) ∧ b = .int .u64 (r : Int) ∧ Hid (q * y1 + r = u) ∧ Hid (Q1 ≤ q) ∧ q ≤ 4294967297 ∧ r < 4294967296) (fun a _ => (intOf a).toNat)
    case atStart => exact ⟨q, r, rfl, rfl, hide (by rw [← unhide HQ, ← unhide HR]; exact unhide F3), hide (by rw [← unhide HQ]; exact unhide F1), f2, by omega⟩
    case round =>
      clear rq rq' rqy rr r1 r2 r3 r4 r5 ry1 ry0 rv1 rv0 m1 m2 m3 HQ HR F1 F3 f2 f4 hru
      obtain ⟨q, r, rfl, rfl, H1, H2, hq, hr⟩ := hrel
      by_cases c1 : 4294967296 ≤ q
      · have tb := Dv.too_big y1 y0 u v1 q r (by rw [← unhide HY10]; exact hu2) hv1b (unhide H1) (Or.inl c1)
        by_cases c2 : 4294967296 ≤ r + y1
        · have hfin := hide (Dv.brk y1 y0 u v1 (q - 1) (r + y1) (by rw [← unhide HY10]; exact hu2) hy0 (Dv.next (unhide H1) (by omega)) (by omega) c2 (by omega))
          have TB := hide tb
          clear tb
          have iq : (q : Int) ≤ 4294967297 := by omega
          have ir : (r : Int) < 4294967296 := by omega
          have iy : (y1 : Int) < 4294967296 := by omega
          have iv : (v1 : Int) < 4294967296 := by omega
          have i1 : (4294967296 : Int) ≤ (q : Int) := by omega
          have i2 : (4294967296 : Int) ≤ (r : Int) + (y1 : Int) := by omega
          clear hq hr c1 c2
          generalize hqi : (q : Int) = qi at *
          have Hqi := hide hqi
          clear hqi
          generalize hri : (r : Int) = ri at *
          have Hri := hide hri
          clear hri
          generalize hy1i : (y1 : Int) = y1i at *
          have Hy1i := hide hy1i
          clear hy1i
          generalize hvi : (v1 : Int) = vi at *
          have Hvi := hide hvi
          clear hvi
          have pqi : 0 ≤ qi := by rw [← unhide Hqi]; omega
          have pri : 0 ≤ ri := by rw [← unhide Hri]; omega
          have py1i : 0 ≤ y1i := by rw [← unhide Hy1i]; omega
          have pvi : 0 ≤ vi := by rw [← unhide Hvi]; omega
          go_wp2
          have hqi := unhide Hqi
          subst hqi
          have hri := unhide Hri
          subst hri
          have hy1i := unhide Hy1i
          subst hy1i
          have hvi := unhide Hvi
          subst hvi
          go_meet
          case rel => exact ⟨int_eq (by rw [← unhide HQ1, ← unhide hfin]; omega), rfl⟩
        · have TB := hide tb
          clear tb
          have iq : (q : Int) ≤ 4294967297 := by omega
          have ir : (r : Int) < 4294967296 := by omega
          have iy : (y1 : Int) < 4294967296 := by omega
          have iv : (v1 : Int) < 4294967296 := by omega
          have i1 : (4294967296 : Int) ≤ (q : Int) := by omega
          have i2 : (r : Int) + (y1 : Int) < 4294967296 := by omega
          clear hq hr c1 c2
          generalize hqi : (q : Int) = qi at *
          have Hqi := hide hqi
          clear hqi
          generalize hri : (r : Int) = ri at *
          have Hri := hide hri
          clear hri
          generalize hy1i : (y1 : Int) = y1i at *
          have Hy1i := hide hy1i
          clear hy1i
          generalize hvi : (v1 : Int) = vi at *
          have Hvi := hide hvi
          clear hvi
          have pqi : 0 ≤ qi := by rw [← unhide Hqi]; omega
          have pri : 0 ≤ ri := by rw [← unhide Hri]; omega
          have py1i : 0 ≤ y1i := by rw [← unhide Hy1i]; omega
          have pvi : 0 ≤ vi := by rw [← unhide Hvi]; omega
          go_wp2
          have hqi := unhide Hqi
          subst hqi
          have hri := unhide Hri
          subst hri
          have hy1i := unhide Hy1i
          subst hy1i
          have hvi := unhide Hvi
          subst hvi
          go_round
          case rel => exact ⟨q - 1, r + y1, int_eq (by omega), int_eq (by omega), hide (Dv.next (unhide H1) (by omega)), hide (by have := unhide TB; have := unhide HQ1; omega), by omega, by omega⟩
          case measure => simp [intOf]; omega
      · obtain ⟨Z, hZ⟩ : ∃ Z : Nat, q * y0 = Z := ⟨_, rfl⟩
        have hZb : Z < 18446744073709551616 := by
          rw [← hZ]
          have a : q * y0 ≤ 4294967295 * y0 := Nat.mul_le_mul_right _ (by omega)
          omega
        have rz : (q : Int) * (y0 : Int) = (Z : Int) := by rw [← hZ, Int.natCast_mul]
        have HZ := hide hZ
        clear hZ
        by_cases c3 : 4294967296 * r + v1 < Z
        · have tb := Dv.too_big y1 y0 u v1 q r (by rw [← unhide HY10]; exact hu2) hv1b (unhide H1) (Or.inr (by rw [unhide HZ]; exact c3))
          have hq1 : 1 ≤ q := by omega
          by_cases c2 : 4294967296 ≤ r + y1
          · have hfin := hide (Dv.brk y1 y0 u v1 (q - 1) (r + y1) (by rw [← unhide HY10]; exact hu2) hy0 (Dv.next (unhide H1) (by omega)) (by omega) c2 (by omega))
            have TB := hide tb
            clear tb
            have iq : (q : Int) ≤ 4294967297 := by omega
            have ir : (r : Int) < 4294967296 := by omega
            have iy : (y1 : Int) < 4294967296 := by omega
            have iv : (v1 : Int) < 4294967296 := by omega
            have i1 : (q : Int) < 4294967296 := by omega
            have iz : (Z : Int) < 18446744073709551616 := by omega
            have i3 : 4294967296 * (r : Int) + (v1 : Int) < (Z : Int) := by omega
            have i4 : (1 : Int) ≤ (q : Int) := by omega
            have i2 : (4294967296 : Int) ≤ (r : Int) + (y1 : Int) := by omega
            clear hq hr c1 hZb c3 hq1 c2
            generalize hqi : (q : Int) = qi at *
            have Hqi := hide hqi
            clear hqi
            generalize hri : (r : Int) = ri at *
            have Hri := hide hri
            clear hri
            generalize hy1i : (y1 : Int) = y1i at *
            have Hy1i := hide hy1i
            clear hy1i
            generalize hvi : (v1 : Int) = vi at *
            have Hvi := hide hvi
            clear hvi
            generalize hzi : (Z : Int) = zi at *
            have Hzi := hide hzi
            clear hzi
            have pqi : 0 ≤ qi := by rw [← unhide Hqi]; omega
            have pri : 0 ≤ ri := by rw [← unhide Hri]; omega
            have py1i : 0 ≤ y1i := by rw [← unhide Hy1i]; omega
            have pvi : 0 ≤ vi := by rw [← unhide Hvi]; omega
            have pzi : 0 ≤ zi := by rw [← unhide Hzi]; omega
            go_wp2
            have hqi := unhide Hqi
            subst hqi
            have hri := unhide Hri
            subst hri
            have hy1i := unhide Hy1i
            subst hy1i
            have hvi := unhide Hvi
            subst hvi
            have hzi := unhide Hzi
            subst hzi
            go_meet
            case rel => exact ⟨int_eq (by rw [← unhide HQ1, ← unhide hfin]; omega), rfl⟩
          · have TB := hide tb
            clear tb
            have iq : (q : Int) ≤ 4294967297 := by omega
            have ir : (r : Int) < 4294967296 := by omega
            have iy : (y1 : Int) < 4294967296 := by omega
            have iv : (v1 : Int) < 4294967296 := by omega
            have i1 : (q : Int) < 4294967296 := by omega
            have iz : (Z : Int) < 18446744073709551616 := by omega
            have i3 : 4294967296 * (r : Int) + (v1 : Int) < (Z : Int) := by omega
            have i4 : (1 : Int) ≤ (q : Int) := by omega
            have i2 : (r : Int) + (y1 : Int) < 4294967296 := by omega
            clear hq hr c1 hZb c3 hq1 c2
            generalize hqi : (q : Int) = qi at *
            have Hqi := hide hqi
            clear hqi
            generalize hri : (r : Int) = ri at *
            have Hri := hide hri
            clear hri
            generalize hy1i : (y1 : Int) = y1i at *
            have Hy1i := hide hy1i
            clear hy1i
            generalize hvi : (v1 : Int) = vi at *
            have Hvi := hide hvi
            clear hvi
            generalize hzi : (Z : Int) = zi at *
            have Hzi := hide hzi
            clear hzi
            have pqi : 0 ≤ qi := by rw [← unhide Hqi]; omega
            have pri : 0 ≤ ri := by rw [← unhide Hri]; omega
            have py1i : 0 ≤ y1i := by rw [← unhide Hy1i]; omega
            have pvi : 0 ≤ vi := by rw [← unhide Hvi]; omega
            have pzi : 0 ≤ zi := by rw [← unhide Hzi]; omega
            go_wp2
            have hqi := unhide Hqi
            subst hqi
            have hri := unhide Hri
            subst hri
            have hy1i := unhide Hy1i
            subst hy1i
            have hvi := unhide Hvi
            subst hvi
            have hzi := unhide Hzi
            subst hzi
            go_round
            case rel => exact ⟨q - 1, r + y1, int_eq (by omega), int_eq (by omega), hide (Dv.next (unhide H1) (by omega)), hide (by have := unhide TB; have := unhide HQ1; omega), by omega, by omega⟩
            case measure => simp [intOf]; omega
        · have hfin := hide (Dv.small y1 y0 u v1 q r (by rw [← unhide HY10]; exact hu2) (unhide H1) (by rw [unhide HQ1]; exact unhide H2) (by rw [unhide HZ]; omega))
          have iq : (q : Int) ≤ 4294967297 := by omega
          have ir : (r : Int) < 4294967296 := by omega
          have iy : (y1 : Int) < 4294967296 := by omega
          have iv : (v1 : Int) < 4294967296 := by omega
          have i1 : (q : Int) < 4294967296 := by omega
          have iz : (Z : Int) < 18446744073709551616 := by omega
          have i3 : (Z : Int) ≤ 4294967296 * (r : Int) + (v1 : Int) := by omega
          clear hq hr c1 hZb c3
          generalize hqi : (q : Int) = qi at *
          have Hqi := hide hqi
          clear hqi
          generalize hri : (r : Int) = ri at *
          have Hri := hide hri
          clear hri
          generalize hy1i : (y1 : Int) = y1i at *
          have Hy1i := hide hy1i
          clear hy1i
          generalize hvi : (v1 : Int) = vi at *
          have Hvi := hide hvi
          clear hvi
          generalize hzi : (Z : Int) = zi at *
          have Hzi := hide hzi
          clear hzi
          have pqi : 0 ≤ qi := by rw [← unhide Hqi]; omega
          have pri : 0 ≤ ri := by rw [← unhide Hri]; omega
          have py1i : 0 ≤ y1i := by rw [← unhide Hy1i]; omega
          have pvi : 0 ≤ vi := by rw [← unhide Hvi]; omega
          have pzi : 0 ≤ zi := by rw [← unhide Hzi]; omega
          go_wp2
          have hqi := unhide Hqi
          subst hqi
          have hri := unhide Hri
          subst hri
          have hy1i := unhide Hy1i
          subst hy1i
          have hvi := unhide Hvi
          subst hvi
          have hzi := unhide Hzi
          subst hzi
          go_meet
          case rel => exact ⟨int_eq (by rw [← unhide HQ1, ← unhide hfin]), rfl⟩
  case rest =>
  obtain ⟨rfl, rfl⟩ := hcut
  clear rq rq' rqy rr r1 r2 r3 r4 r5 ry1 ry0 rv1 rv0 m2 m3 HQ HR F1 F3 f2 f4 hru
  obtain ⟨l1, l2, l3⟩ := Dv.left Y u v1 (by omega)
  have ed : Dv.dig Y u v1 = Q1 := by rw [unhide HY10]; exact unhide HQ1
  rw [ed] at l1 l2 l3
  obtain ⟨u2, hu2e⟩ : ∃ u2 : Nat, (u * 4294967296 + v1) % Y = u2 := ⟨_, rfl⟩
  have hu2b : u2 < Y := by rw [← hu2e, ← l2]; exact l3
  have r6 : IntKind.u64.wrap (IntKind.u64.wrap (IntKind.u64.wrap ((u : Int) * 4294967296) + (v1 : Int)) - IntKind.u64.wrap ((Q1 : Int) * (Y : Int))) = (u2 : Int) := by
    rw [← hu2e, ← l2, IntKind.wrap_u64, IntKind.wrap_u64, IntKind.wrap_u64, IntKind.wrap_u64, ← Int.natCast_mul]
    generalize Q1 * Y = P at *
    omega
  have HU2E := hide hu2e
  clear hu2e l1 l2 l3 ed
  obtain ⟨g1, g2, g3, g4⟩ := Dv.first y1 y0 u2 v0 (by rw [← unhide HY10]; exact hu2b) hv0 hy0 hy1b
  have G1 := hide g1
  have G3 := hide g3
  clear g1 g3
  obtain ⟨p, t, hp, ht⟩ : ∃ p t : Nat, u2 / y1 = p ∧ u2 % y1 = t := ⟨_, _, rfl, rfl⟩
  have rp : (u2 : Int).tdiv (y1 : Int) = (p : Int) := by rw [← hp]; rfl
  have rp' : (u2 : Int) / (y1 : Int) = (p : Int) := by rw [← hp]; rfl
  have HP := hide hp
  have HT := hide ht
  have rpy : (p : Int) * (y1 : Int) = (u2 : Int) - (t : Int) := by
    have h := unhide G3
    rw [hp, ht] at h
    have h2 : ((p * y1 : Nat) : Int) + (t : Int) = (u2 : Int) := by rw [← Int.natCast_add, h]
    rw [Int.natCast_mul] at h2; omega
  have htu : t ≤ u2 := by rw [← ht]; exact Nat.mod_le _ _
  rw [hp] at g2
  rw [ht] at g4
  clear hp ht
  have rr : (u2 : Int) - ((u2 : Int) - (t : Int)) = (t : Int) := by omega
  obtain ⟨Q0, hQ0⟩ : ∃ Q0 : Nat, Dv.dig (y1 * 4294967296 + y0) u2 v0 = Q0 := ⟨_, rfl⟩
  have HQ0 := hide hQ0
  rw [hQ0] at G1
  have hQ0b : Q0 < 4294967296 := by rw [← hQ0]; exact Dv.dig_lt _ u2 v0 (by rw [← unhide HY10]; exact hu2b) hv0
  clear hQ0
  go_upto_block 2 with fail
  go_cut [18, 16] from 102 to 120 (fun a b wx => a = .int .u64 (Q0 : Int) ∧ wx = wc)
  case first =>
    go_wp2_with fail
    go_loop [18, 16] (fun a b => ∃ q r : Nat, a = .int .u64 (q : Int) ∧ b = .int .u64 (r : Int) ∧ Hid (q * y1 + r = u2) ∧ Hid (Q0 ≤ q) ∧ q ≤ 4294967297 ∧ r < 4294967296) (fun a _ => (intOf a).toNat)
    case atStart => exact ⟨p, t, rfl, rfl, hide (by rw [← unhide HP, ← unhide HT]; exact unhide G3), hide (by rw [← unhide HP]; exact unhide G1), g2, by omega⟩
    case round =>
      clear rp rp' rpy rr r6 m1 HP HT G1 G3 g2 g4 htu
      obtain ⟨q, r, rfl, rfl, H1, H2, hq, hr⟩ := hrel
      by_cases c1 : 4294967296 ≤ q
      · have tb := Dv.too_big y1 y0 u2 v0 q r (by rw [← unhide HY10]; exact hu2b) hv0 (unhide H1) (Or.inl c1)
        by_cases c2 : 4294967296 ≤ r + y1
        · have hfin := hide (Dv.brk y1 y0 u2 v0 (q - 1) (r + y1) (by rw [← unhide HY10]; exact hu2b) hy0 (Dv.next (unhide H1) (by omega)) (by omega) c2 (by omega))
          have TB := hide tb
          clear tb
          have iq : (q : Int) ≤ 4294967297 := by omega
          have ir : (r : Int) < 4294967296 := by omega
          have iy : (y1 : Int) < 4294967296 := by omega
          have iv : (v0 : Int) < 4294967296 := by omega
          have i1 : (4294967296 : Int) ≤ (q : Int) := by omega
          have i2 : (4294967296 : Int) ≤ (r : Int) + (y1 : Int) := by omega
          clear hq hr c1 c2
          generalize hqi : (q : Int) = qi at *
          have Hqi := hide hqi
          clear hqi
          generalize hri : (r : Int) = ri at *
          have Hri := hide hri
          clear hri
          generalize hy1i : (y1 : Int) = y1i at *
          have Hy1i := hide hy1i
          clear hy1i
          generalize hvi : (v0 : Int) = vi at *
          have Hvi := hide hvi
          clear hvi
          have pqi : 0 ≤ qi := by rw [← unhide Hqi]; omega
          have pri : 0 ≤ ri := by rw [← unhide Hri]; omega
          have py1i : 0 ≤ y1i := by rw [← unhide Hy1i]; omega
          have pvi : 0 ≤ vi := by rw [← unhide Hvi]; omega
          go_wp2
          have hqi := unhide Hqi
          subst hqi
          have hri := unhide Hri
          subst hri
          have hy1i := unhide Hy1i
          subst hy1i
          have hvi := unhide Hvi
          subst hvi
          go_meet
          case rel => exact ⟨int_eq (by rw [← unhide HQ0, ← unhide hfin]; omega), rfl⟩
        · have TB := hide tb
          clear tb
          have iq : (q : Int) ≤ 4294967297 := by omega
          have ir : (r : Int) < 4294967296 := by omega
          have iy : (y1 : Int) < 4294967296 := by omega
          have iv : (v0 : Int) < 4294967296 := by omega
          have i1 : (4294967296 : Int) ≤ (q : Int) := by omega
          have i2 : (r : Int) + (y1 : Int) < 4294967296 := by omega
          clear hq hr c1 c2
          generalize hqi : (q : Int) = qi at *
          have Hqi := hide hqi
          clear hqi
          generalize hri : (r : Int) = ri at *
          have Hri := hide hri
          clear hri
          generalize hy1i : (y1 : Int) = y1i at *
          have Hy1i := hide hy1i
          clear hy1i
          generalize hvi : (v0 : Int) = vi at *
          have Hvi := hide hvi
          clear hvi
          have pqi : 0 ≤ qi := by rw [← unhide Hqi]; omega
          have pri : 0 ≤ ri := by rw [← unhide Hri]; omega
          have py1i : 0 ≤ y1i := by rw [← unhide Hy1i]; omega
          have pvi : 0 ≤ vi := by rw [← unhide Hvi]; omega
          go_wp2
          have hqi := unhide Hqi
          subst hqi
          have hri := unhide Hri
          subst hri
          have hy1i := unhide Hy1i
          subst hy1i
          have hvi := unhide Hvi
          subst hvi
          go_round
          case rel => exact ⟨q - 1, r + y1, int_eq (by omega), int_eq (by omega), hide (Dv.next (unhide H1) (by omega)), hide (by have := unhide TB; have := unhide HQ0; omega), by omega, by omega⟩
          case measure => simp [intOf]; omega
      · obtain ⟨Z, hZ⟩ : ∃ Z : Nat, q * y0 = Z := ⟨_, rfl⟩
        have hZb : Z < 18446744073709551616 := by
          rw [← hZ]
          have a : q * y0 ≤ 4294967295 * y0 := Nat.mul_le_mul_right _ (by omega)
          omega
        have rz : (q : Int) * (y0 : Int) = (Z : Int) := by rw [← hZ, Int.natCast_mul]
        have HZ := hide hZ
        clear hZ
        by_cases c3 : 4294967296 * r + v0 < Z
        · have tb := Dv.too_big y1 y0 u2 v0 q r (by rw [← unhide HY10]; exact hu2b) hv0 (unhide H1) (Or.inr (by rw [unhide HZ]; exact c3))
          have hq1 : 1 ≤ q := by omega
          by_cases c2 : 4294967296 ≤ r + y1
          · have hfin := hide (Dv.brk y1 y0 u2 v0 (q - 1) (r + y1) (by rw [← unhide HY10]; exact hu2b) hy0 (Dv.next (unhide H1) (by omega)) (by omega) c2 (by omega))
            have TB := hide tb
            clear tb
            have iq : (q : Int) ≤ 4294967297 := by omega
            have ir : (r : Int) < 4294967296 := by omega
            have iy : (y1 : Int) < 4294967296 := by omega
            have iv : (v0 : Int) < 4294967296 := by omega
            have i1 : (q : Int) < 4294967296 := by omega
            have iz : (Z : Int) < 18446744073709551616 := by omega
            have i3 : 4294967296 * (r : Int) + (v0 : Int) < (Z : Int) := by omega
            have i4 : (1 : Int) ≤ (q : Int) := by omega
            have i2 : (4294967296 : Int) ≤ (r : Int) + (y1 : Int) := by omega
            clear hq hr c1 hZb c3 hq1 c2
            generalize hqi : (q : Int) = qi at *
            have Hqi := hide hqi
            clear hqi
            generalize hri : (r : Int) = ri at *
            have Hri := hide hri
            clear hri
            generalize hy1i : (y1 : Int) = y1i at *
            have Hy1i := hide hy1i
            clear hy1i
            generalize hvi : (v0 : Int) = vi at *
            have Hvi := hide hvi
            clear hvi
            generalize hzi : (Z : Int) = zi at *
            have Hzi := hide hzi
            clear hzi
            have pqi : 0 ≤ qi := by rw [← unhide Hqi]; omega
            have pri : 0 ≤ ri := by rw [← unhide Hri]; omega
            have py1i : 0 ≤ y1i := by rw [← unhide Hy1i]; omega
            have pvi : 0 ≤ vi := by rw [← unhide Hvi]; omega
            have pzi : 0 ≤ zi := by rw [← unhide Hzi]; omega
            go_wp2
            have hqi := unhide Hqi
            subst hqi
            have hri := unhide Hri
            subst hri
            have hy1i := unhide Hy1i
            subst hy1i
            have hvi := unhide Hvi
            subst hvi
            have hzi := unhide Hzi
            subst hzi
            go_meet
            case rel => exact ⟨int_eq (by rw [← unhide HQ0, ← unhide hfin]; omega), rfl⟩
          · have TB := hide tb
            clear tb
            have iq : (q : Int) ≤ 4294967297 := by omega
            have ir : (r : Int) < 4294967296 := by omega
            have iy : (y1 : Int) < 4294967296 := by omega
            have iv : (v0 : Int) < 4294967296 := by omega
            have i1 : (q : Int) < 4294967296 := by omega
            have iz : (Z : Int) < 18446744073709551616 := by omega
            have i3 : 4294967296 * (r : Int) + (v0 : Int) < (Z : Int) := by omega
            have i4 : (1 : Int) ≤ (q : Int) := by omega
            have i2 : (r : Int) + (y1 : Int) < 4294967296 := by omega
            clear hq hr c1 hZb c3 hq1 c2
            generalize hqi : (q : Int) = qi at *
            have Hqi := hide hqi
            clear hqi
            generalize hri : (r : Int) = ri at *
            have Hri := hide hri
            clear hri
            generalize hy1i : (y1 : Int) = y1i at *
            have Hy1i := hide hy1i
            clear hy1i
            generalize hvi : (v0 : Int) = vi at *
            have Hvi := hide hvi
            clear hvi
            generalize hzi : (Z : Int) = zi at *
            have Hzi := hide hzi
            clear hzi
            have pqi : 0 ≤ qi := by rw [← unhide Hqi]; omega
            have pri : 0 ≤ ri := by rw [← unhide Hri]; omega
            have py1i : 0 ≤ y1i := by rw [← unhide Hy1i]; omega
            have pvi : 0 ≤ vi := by rw [← unhide Hvi]; omega
            have pzi : 0 ≤ zi := by rw [← unhide Hzi]; omega
            go_wp2
            have hqi := unhide Hqi
            subst hqi
            have hri := unhide Hri
            subst hri
            have hy1i := unhide Hy1i
            subst hy1i
            have hvi := unhide Hvi
            subst hvi
            have hzi := unhide Hzi
            subst hzi
            go_round
            case rel => exact ⟨q - 1, r + y1, int_eq (by omega), int_eq (by omega), hide (Dv.next (unhide H1) (by omega)), hide (by have := unhide TB; have := unhide HQ0; omega), by omega, by omega⟩
            case measure => simp [intOf]; omega
        · have hfin := hide (Dv.small y1 y0 u2 v0 q r (by rw [← unhide HY10]; exact hu2b) (unhide H1) (by rw [unhide HQ0]; exact unhide H2) (by rw [unhide HZ]; omega))
          have iq : (q : Int) ≤ 4294967297 := by omega
          have ir : (r : Int) < 4294967296 := by omega
          have iy : (y1 : Int) < 4294967296 := by omega
          have iv : (v0 : Int) < 4294967296 := by omega
          have i1 : (q : Int) < 4294967296 := by omega
          have iz : (Z : Int) < 18446744073709551616 := by omega
          have i3 : (Z : Int) ≤ 4294967296 * (r : Int) + (v0 : Int) := by omega
          clear hq hr c1 hZb c3
          generalize hqi : (q : Int) = qi at *
          have Hqi := hide hqi
          clear hqi
          generalize hri : (r : Int) = ri at *
          have Hri := hide hri
          clear hri
          generalize hy1i : (y1 : Int) = y1i at *
          have Hy1i := hide hy1i
          clear hy1i
          generalize hvi : (v0 : Int) = vi at *
          have Hvi := hide hvi
          clear hvi
          generalize hzi : (Z : Int) = zi at *
          have Hzi := hide hzi
          clear hzi
          have pqi : 0 ≤ qi := by rw [← unhide Hqi]; omega
          have pri : 0 ≤ ri := by rw [← unhide Hri]; omega
          have py1i : 0 ≤ y1i := by rw [← unhide Hy1i]; omega
          have pvi : 0 ≤ vi := by rw [← unhide Hvi]; omega
          have pzi : 0 ≤ zi := by rw [← unhide Hzi]; omega
          go_wp2
          have hqi := unhide Hqi
          subst hqi
          have hri := unhide Hri
          subst hri
          have hy1i := unhide Hy1i
          subst hy1i
          have hvi := unhide Hvi
          subst hvi
          have hzi := unhide Hzi
          subst hzi
          go_meet
          case rel => exact ⟨int_eq (by rw [← unhide HQ0, ← unhide hfin]), rfl⟩
  case rest =>
  obtain ⟨rfl, rfl⟩ := hcut
  clear rp rp' rpy rr r6 HP HT G1 G3 g2 g4 htu
  obtain ⟨l1, l2, l3⟩ := Dv.left Y u2 v0 (by omega)
  have ed : Dv.dig Y u2 v0 = Q0 := by rw [unhide HY10]; exact unhide HQ0
  rw [ed] at l1 l2 l3
  have h2 := Dv.two Y u v1 v0 (by omega)
  have hb := Dv.back hi lo y s Y u v (unhide HY) (unhide HEQ)
  rw [unhide HU2E, ed, show Dv.dig Y u v1 = Q1 by rw [unhide HY10]; exact unhide HQ1, ← unhide HV10] at h2
  rw [h2.1, h2.2] at hb
  obtain ⟨u3, hu3e⟩ : ∃ u3 : Nat, (u2 * 4294967296 + v0) % Y = u3 := ⟨_, rfl⟩
  rw [hu3e] at hb
  have hu3b : u3 < Y := by rw [← hu3e, ← l2]; exact l3
  have r7 : IntKind.u64.wrap (IntKind.u64.wrap (IntKind.u64.wrap ((u2 : Int) * 4294967296) + (v0 : Int)) - IntKind.u64.wrap ((Q0 : Int) * (Y : Int))) = (u3 : Int) := by
    rw [← hu3e, ← l2, IntKind.wrap_u64, IntKind.wrap_u64, IntKind.wrap_u64, IntKind.wrap_u64, ← Int.natCast_mul]
    generalize Q0 * Y = P at *
    omega
  have HB := hide hb
  clear hb h2 ed l1 l2 l3 hu3e
  go_wp2
  go_ret2
  refine ⟨ret_ne ?_ ?_, Below.refl _ _⟩
  · rw [← (unhide HB).1]; simp
  · rw [← (unhide HB).2]; simp
end Go.Proofs.YtloamahbghjjgaaGreatDoor

namespace Go.Proofs.YtloamahbghjjgaaGreatDoor
open Go.RowKit

theorem div64_any (hi lo y : Nat) (w : World) (hhy : hi < y) (h1 : lo < 18446744073709551616) (hy1 : y < 18446744073709551616) :
    Calls Tryz.prog 214 #[.int .u64 (hi : Int), .int .u64 (lo : Int), .int .u64 (y : Int)] w fun e w' => e = .returned (.tuple #[.int .u64 (((hi * 18446744073709551616 + lo) / y : Nat) : Int), .int .u64 (((hi * 18446744073709551616 + lo) % y : Nat) : Int)]) ∧ Below w.heap.size w w' := by
  by_cases h : hi = 0
  · subst h
    rw [Nat.zero_mul, Nat.zero_add]
    exact div64_low lo y w h1 (by omega) hy1
  · exact div64_high hi lo y w (by omega) hhy h1 hy1

def nrOk (x y z : Nat) : Bool := decide (x * y / z ≤ 9000000000000000000)
def nrV (x y z : Nat) : Nat := if nrOk x y z = true then x * y / z + (if z ≤ 2 * (x * y % z) then 1 else 0) else 0

theorem nr_high (x y z : Nat) (hz : 0 < z) (h : z ≤ x * y / 18446744073709551616) : nrOk x y z = false := by
  unfold nrOk
  rw [decide_eq_false_iff_not]
  intro hc
  have : x * y / z < 9000000000000000001 := by omega
  rw [Nat.div_lt_iff_lt_mul hz] at this
  omega

set_option maxHeartbeats 400000 in
theorem nearest_any (x y z : Nat) (w : World) (hx : x < 18446744073709551616) (hy : y < 18446744073709551616) (hz0 : 0 < z) (hz : z < 18446744073709551616) :
    Calls Tryz.prog 180 #[.int .u64 (x : Int), .int .u64 (y : Int), .int .u64 (z : Int)] w fun e w' => e = .returned (.tuple #[.int .u64 ((nrV x y z : Nat) : Int), .bool (nrOk x y z)]) ∧ Below w.heap.size w w' := by
  by_cases hc : z ≤ x * y / 18446744073709551616
  · have ho := hide (nr_high x y z hz0 hc)
    unfold nrV
    rw [unhide ho]
    go_enter Tryz.func180, Tryz.ntmps180
    go_wp2_with fail
    refine (Tryz.bits_Mul64 x y hx hy _).mono ?_
    rintro e w' ⟨rfl, rfl⟩
    generalize x * y / 18446744073709551616 = hi at *
    generalize x * y % 18446744073709551616 = lo at *
    generalize hhi : (hi : Int) = hii at *
    generalize hzi : (z : Int) = zi at *
    have t : zi ≤ hii := by omega
    have H1 := hide hhi
    have H2 := hide hzi
    have H3 := hide hc
    clear hhi hzi hc
    go_wp2
    go_ret2
    exact ⟨rfl, Below.refl _ _⟩
  · have hlo : x * y % 18446744073709551616 < 18446744073709551616 := Nat.mod_lt _ (by omega)
    have hN : x * y / 18446744073709551616 * 18446744073709551616 + x * y % 18446744073709551616 = x * y := Nat.div_add_mod' _ _
    have hR : x * y % z < z := Nat.mod_lt _ hz0
    unfold nrV nrOk
    obtain ⟨Q, hQ⟩ : ∃ Q : Nat, x * y / z = Q := ⟨_, rfl⟩
    obtain ⟨R, hRe⟩ : ∃ R : Nat, x * y % z = R := ⟨_, rfl⟩
    rw [hQ, hRe]
    rw [hRe] at hR
    have HQ := hide hQ
    have HR := hide hRe
    clear hQ hRe
    have HN := hide hN
    clear hN
    by_cases hq : Q ≤ 9000000000000000000
    · rw [decide_eq_true hq, if_pos rfl]
      by_cases hr : z ≤ 2 * R
      · rw [if_pos hr]
        go_enter Tryz.func180, Tryz.ntmps180
        go_wp2_with fail
        refine (Tryz.bits_Mul64 x y hx hy _).mono ?_
        rintro e w' ⟨rfl, rfl⟩
        generalize hhi : ((x * y / 18446744073709551616 : Nat) : Int) = hii at *
        generalize hll : ((x * y % 18446744073709551616 : Nat) : Int) = loi at *
        generalize hzi : (z : Int) = zi at *
        have t : hii < zi := by omega
        have H1 := hide hhi
        have H2 := hide hzi
        have H3 := hide hll
        have H4 := hide hc
        have H5 := hide hlo
        have H6 := hide hR
        have H7 := hide hz
        have H8 := hide hz0
        have H9 := hide (And.intro hq hr)
        clear hhi hzi hll hc hlo hR hz hz0 hq hr
        go_wp2_with fail
        rw [← unhide H1, ← unhide H2, ← unhide H3]
        refine (div64_any _ _ _ _ (by have := unhide H4; omega) (unhide H5) (unhide H7)).mono ?_
        rintro e w2 ⟨rfl, hb⟩
        rw [unhide HN, unhide HQ, unhide HR]
        generalize hqi : (Q : Int) = qi at *
        generalize hri : (R : Int) = ri at *
        generalize hzj : (z : Int) = zj at *
        have H9' := unhide H9
        have H6' := unhide H6
        have hz7 := unhide H7
        have p1 : 0 ≤ qi := by omega
        have p2 : 0 ≤ ri := by omega
        have p4 : ri < zj := by omega
        have p5 : zj < 18446744073709551616 := by omega
        have p3 : qi ≤ 9000000000000000000 := by omega
        have p6 : zj - ri ≤ ri := by omega
        have G1 := hide hqi
        have G2 := hide hri
        have G3 := hide hzj
        clear hqi hri hzj H9' H6' t hz7
        go_wp2
        go_ret2
        exact ⟨by rw [Int.natCast_add, unhide G1]; rfl, hb⟩
      · rw [if_neg hr]
        go_enter Tryz.func180, Tryz.ntmps180
        go_wp2_with fail
        refine (Tryz.bits_Mul64 x y hx hy _).mono ?_
        rintro e w' ⟨rfl, rfl⟩
        generalize hhi : ((x * y / 18446744073709551616 : Nat) : Int) = hii at *
        generalize hll : ((x * y % 18446744073709551616 : Nat) : Int) = loi at *
        generalize hzi : (z : Int) = zi at *
        have t : hii < zi := by omega
        have H1 := hide hhi
        have H2 := hide hzi
        have H3 := hide hll
        have H4 := hide hc
        have H5 := hide hlo
        have H6 := hide hR
        have H7 := hide hz
        have H8 := hide hz0
        have H9 := hide (And.intro hq hr)
        clear hhi hzi hll hc hlo hR hz hz0 hq hr
        go_wp2_with fail
        rw [← unhide H1, ← unhide H2, ← unhide H3]
        refine (div64_any _ _ _ _ (by have := unhide H4; omega) (unhide H5) (unhide H7)).mono ?_
        rintro e w2 ⟨rfl, hb⟩
        rw [unhide HN, unhide HQ, unhide HR]
        generalize hqi : (Q : Int) = qi at *
        generalize hri : (R : Int) = ri at *
        generalize hzj : (z : Int) = zj at *
        have H9' := unhide H9
        have H6' := unhide H6
        have hz7 := unhide H7
        have p1 : 0 ≤ qi := by omega
        have p2 : 0 ≤ ri := by omega
        have p4 : ri < zj := by omega
        have p5 : zj < 18446744073709551616 := by omega
        have p3 : qi ≤ 9000000000000000000 := by omega
        have p6 : ri < zj - ri := by omega
        have G1 := hide hqi
        have G2 := hide hri
        have G3 := hide hzj
        clear hqi hri hzj H9' H6' t hz7
        go_wp2
        go_ret2
        exact ⟨by rw [Int.natCast_add, unhide G1]; exact congrArg (fun t => Ending.returned (.tuple #[.int .u64 t, .bool true])) (by omega), hb⟩
    · rw [decide_eq_false hq]
      have hr : True := trivial
      go_enter Tryz.func180, Tryz.ntmps180
      go_wp2_with fail
      refine (Tryz.bits_Mul64 x y hx hy _).mono ?_
      rintro e w' ⟨rfl, rfl⟩
      generalize hhi : ((x * y / 18446744073709551616 : Nat) : Int) = hii at *
      generalize hll : ((x * y % 18446744073709551616 : Nat) : Int) = loi at *
      generalize hzi : (z : Int) = zi at *
      have t : hii < zi := by omega
      have H1 := hide hhi
      have H2 := hide hzi
      have H3 := hide hll
      have H4 := hide hc
      have H5 := hide hlo
      have H6 := hide hR
      have H7 := hide hz
      have H8 := hide hz0
      have H9 := hide (And.intro hq hr)
      clear hhi hzi hll hc hlo hR hz hz0 hq hr
      go_wp2_with fail
      rw [← unhide H1, ← unhide H2, ← unhide H3]
      refine (div64_any _ _ _ _ (by have := unhide H4; omega) (unhide H5) (unhide H7)).mono ?_
      rintro e w2 ⟨rfl, hb⟩
      rw [unhide HN, unhide HQ, unhide HR]
      generalize hqi : (Q : Int) = qi at *
      generalize hri : (R : Int) = ri at *
      generalize hzj : (z : Int) = zj at *
      have H9' := unhide H9
      have H6' := unhide H6
      have hz7 := unhide H7
      have p1 : 0 ≤ qi := by omega
      have p2 : 0 ≤ ri := by omega
      have p4 : ri < zj := by omega
      have p5 : zj < 18446744073709551616 := by omega
      have p3 : 9000000000000000000 < qi := by omega
      have G1 := hide hqi
      have G2 := hide hri
      have G3 := hide hzj
      clear hqi hri hzj H9' H6' t hz7
      go_wp2
      go_ret2
      exact ⟨rfl, hb⟩

end Go.Proofs.YtloamahbghjjgaaGreatDoor

namespace Go.Proofs.YtloamahbghjjgaaGreatDoor
open Go.RowKit

theorem nrV_le (x y z : Nat) : nrV x y z ≤ 9000000000000000001 := by
  unfold nrV nrOk
  split
  · rename_i h
    have h := of_decide_eq_true h
    split <;> omega
  · omega

end Go.Proofs.YtloamahbghjjgaaGreatDoor

namespace Go.Proofs.YtloamahbghjjgaaGreatDoor
open Go.RowKit

end Go.Proofs.YtloamahbghjjgaaGreatDoor

namespace Go.Proofs.YtloamahbghjjgaaGreatDoor
open Go.RowKit

theorem below_then {w a b : World} (h : Below w.heap.size w a) (k : Below a.heap.size a b) : Below w.heap.size w b := h.trans (k.mono h.size)

def fracL (r : Nat) : List UInt8 := if r = 0 then [] else 46 :: Lib.trimRightB ((Lib.decDigits (10000 + r)).drop 1) 48
def absL (p : Nat) : List UInt8 := Lib.decDigits (p / 10000) ++ fracL (p % 10000)
def textL (a : Int) : List UInt8 := if goodB a = true then (if a < 0 then 45 :: absL a.natAbs else absL a.natAbs) else []

end Go.Proofs.YtloamahbghjjgaaGreatDoor

namespace Go.Proofs.YtloamahbghjjgaaGreatDoor
open Go.RowKit

def isDig (c : UInt8) : Bool := decide (48 ≤ c.toNat) && decide (c.toNat ≤ 57)
theorem isDig_iff (c : UInt8) : isDig c = true ↔ 48 ≤ c.toNat ∧ c.toNat ≤ 57 := by unfold isDig; simp
def digB (l : List UInt8) : Bool := decide (1 ≤ l.length) && decide (l.length ≤ 18) && l.all isDig
def numL (l : List UInt8) : Nat := l.foldl (fun n c => n * 10 + (c.toNat - 48)) 0

theorem take_snoc (s : ByteArray) (k : Nat) (h : k < s.size) : s.data.toList.take (k + 1) = s.data.toList.take k ++ [s[k]] := by
  rw [List.take_succ_eq_append_getElem (by simpa using h)]; rfl
theorem numL_snoc (l : List UInt8) (c : UInt8) : numL (l ++ [c]) = numL l * 10 + (c.toNat - 48) := by
  unfold numL; rw [List.foldl_append]; rfl
theorem fold_lt : ∀ (l : List UInt8) (n : Nat), l.all isDig = true → l.foldl (fun n c => n * 10 + (c.toNat - 48)) n < (n + 1) * 10 ^ l.length
  | [], n, _ => by simp
  | c :: l, n, h => by
    rw [List.all_cons, Bool.and_eq_true, isDig_iff] at h
    have := fold_lt l (n * 10 + (c.toNat - 48)) h.2
    rw [List.foldl_cons, List.length_cons, Nat.pow_succ]
    have h2 : (n * 10 + (c.toNat - 48) + 1) * 10 ^ l.length ≤ ((n + 1) * 10) * 10 ^ l.length := Nat.mul_le_mul_right _ (by omega)
    rw [Nat.mul_comm (10 ^ l.length) 10, ← Nat.mul_assoc]
    omega
theorem numL_lt (l : List UInt8) (h : l.all isDig = true) : numL l < 10 ^ l.length := by
  have := fold_lt l 0 h
  unfold numL
  omega

set_option maxHeartbeats 1000000 in
theorem digits_any (s : ByteArray) (w : World) (hs : s.size ≤ maxLen) :
    Calls Tryz.prog 179 #[.string s] w fun e w' => e = .returned (.bool (digB s.data.toList)) ∧ w' = w := by
  unfold maxLen at hs
  have hsz : s.data.toList.length = s.size := rfl
  by_cases h1 : s.size < 1
  · have ho : digB s.data.toList = false := by unfold digB; rw [hsz]; simp; omega
    rw [ho]
    have HS := hide hsz
    have HO := hide ho
    clear hsz ho
    have h1' : (s.size : Int) < 1 := by omega
    go_enter Tryz.func179, Tryz.ntmps179
    go_wp2
    go_ret
    exact ⟨rfl, rfl⟩
  by_cases h2 : 18 < s.size
  · have ho : digB s.data.toList = false := by unfold digB; rw [hsz]; simp; omega
    rw [ho]
    have HS := hide hsz
    have HO := hide ho
    clear hsz ho
    have h1' : ¬ (s.size : Int) < 1 := by omega
    have h2' : 18 < (s.size : Int) := by omega
    go_enter Tryz.func179, Tryz.ntmps179
    go_wp2
    go_ret
    exact ⟨rfl, rfl⟩
  have ho : digB s.data.toList = s.data.toList.all isDig := by
    unfold digB; rw [hsz, decide_eq_true (by omega), decide_eq_true (by omega)]; rfl
  have HS := hide hsz
  have HO := hide ho
  clear hsz ho
  go_enter Tryz.func179, Tryz.ntmps179
  go_wp2
  go_loop [14] (fun i => ∃ k : Nat, k ≤ s.size ∧ i = .int .i64 k ∧ Hid ((s.data.toList.take k).all isDig = true)) (fun i => s.size - (intOf i).toNat)
  case atStart => exact ⟨0, Nat.zero_le _, rfl, hide rfl⟩
  case round =>
    obtain ⟨k, hk, rfl, HT⟩ := hrel
    by_cases hlt : k < s.size
    · have hsn := take_snoc s k hlt
      by_cases hg : isDig s[k] = true
      · have hs' : Hid ((s.data.toList.take (k + 1)).all isDig = true) := hide (by rw [hsn, List.all_append, unhide HT, List.all_cons, hg]; rfl)
        clear hsn
        rw [isDig_iff] at hg
        obtain ⟨g1, g2⟩ := hg
        go_wp2
        go_round
        case rel => exact ⟨k + 1, by omega, by go_num, hs'⟩
        case measure => simp [intOf]; omega
      · have hs' : Hid (s.data.toList.all isDig = false) := by
          refine hide (List.all_eq_false.2 ⟨s[k], ?_, hg⟩)
          have : s[k] = s.data.toList[k]'(by simpa using hlt) := rfl
          rw [this]
          exact List.getElem_mem _
        clear hsn
        rw [isDig_iff] at hg
        by_cases g1 : s[k].toNat < 48
        · go_wp2
          go_ret
          exact ⟨by rw [unhide HO, unhide hs']; rfl, rfl⟩
        · have g2 : 57 < s[k].toNat := by omega
          go_wp2
          go_ret
          exact ⟨by rw [unhide HO, unhide hs']; rfl, rfl⟩
    · have hs' : Hid (s.data.toList.all isDig = true) := by
        have e : s.data.toList.take k = s.data.toList := List.take_of_length_le (by rw [unhide HS]; omega)
        rw [e] at HT
        exact HT
      go_wp2
      go_ret
      exact ⟨by rw [unhide HO, unhide hs']; rfl, rfl⟩

set_option maxHeartbeats 1000000 in
theorem number_any (s : ByteArray) (w : World) (hs : s.size ≤ 18) (hd : s.data.toList.all isDig = true) :
    Calls Tryz.prog 181 #[.string s] w fun e w' => e = .returned (.int .u64 ((numL s.data.toList : Nat) : Int)) ∧ w' = w := by
  have hsz : s.data.toList.length = s.size := rfl
  have HS := hide hsz
  have HD := hide hd
  clear hsz hd
  go_enter Tryz.func181, Tryz.ntmps181
  go_wp2
  go_loop [3, 7] (fun n i => ∃ k : Nat, k ≤ s.size ∧ i = .int .i64 k ∧ n = .int .u64 ((numL (s.data.toList.take k) : Nat) : Int)) (fun _ i => s.size - (intOf i).toNat)
  case atStart => exact ⟨0, Nat.zero_le _, rfl, rfl⟩
  case round =>
    obtain ⟨k, hk, rfl, rfl⟩ := hrel
    by_cases hlt : k < s.size
    · have hsn := take_snoc s k hlt
      have hns : numL (s.data.toList.take (k + 1)) = numL (s.data.toList.take k) * 10 + (s[k].toNat - 48) := by rw [hsn, numL_snoc]
      have hak : (s.data.toList.take k).all isDig = true := by
        have := unhide HD
        rw [← List.take_append_drop k s.data.toList, List.all_append, Bool.and_eq_true] at this
        exact this.1
      have hkl : (s.data.toList.take k).length = k := by rw [List.length_take, unhide HS]; omega
      have hb := numL_lt _ hak
      rw [hkl] at hb
      have hp : 10 ^ k ≤ 10 ^ 17 := Nat.pow_le_pow_right (by omega) (by omega)
      have hx : (10 ^ 17 : Nat) = 100000000000000000 := by decide
      have hb' : numL (s.data.toList.take k) < 100000000000000000 := by omega
      have hg : isDig s[k] = true := by
        have h := unhide HD
        rw [List.all_eq_true] at h
        exact h s[k] (by
          have : s[k] = s.data.toList[k]'(by simpa using hlt) := rfl
          rw [this]
          exact List.getElem_mem _)
      rw [isDig_iff] at hg
      obtain ⟨g1, g2⟩ := hg
      have HN := hide hns
      have HSN := hide hsn
      clear hns hsn hak hkl hb hp hx
      generalize hN : numL (s.data.toList.take k) = N at *
      have HNN := hide hN
      clear hN
      go_wp2
      go_round
      case rel => exact ⟨k + 1, by omega, by go_num, by rw [unhide HN]; exact int_eq (by omega)⟩
      case measure => simp [intOf]; omega
    · have e : s.data.toList.take k = s.data.toList := List.take_of_length_le (by rw [unhide HS]; omega)
      rw [e]
      go_wp2
      go_ret
      exact ⟨rfl, rfl⟩
end Go.Proofs.YtloamahbghjjgaaGreatDoor

namespace Go.Proofs.YtloamahbghjjgaaGreatDoor
open Go.RowKit

abbrev lenCell (w : World) : Prop := ∃ m : Int, w.cell? ⟨6, 0, none⟩ = some (.int .i64 m)

def wholeOf (l : List UInt8) : List UInt8 := (Lib.cut (Lib.trimPrefix l [45]) [46]).1
def partOf (l : List UInt8) : List UInt8 := (Lib.cut (Lib.trimPrefix l [45]) [46]).2.1
def dotOf (l : List UInt8) : Bool := (Lib.cut (Lib.trimPrefix l [45]) [46]).2.2
def negOf (l : List UInt8) : Bool := Lib.hasPrefix l [45]
def formB (l : List UInt8) : Bool := digB (wholeOf l) && (!dotOf l || digB (partOf l))
def partsOf (l : List UInt8) : Nat := nrV (numL (wholeOf l)) 10000 1 + nrV (numL (partOf l)) 10000 (10 ^ (partOf l).length)
def parseR (l : List UInt8) : Int × Int :=
  if formB l = true then (if nrOk (numL (wholeOf l)) 10000 1 = true then (sgnN (negOf l) (partsOf l : Nat), sgnE (partsOf l : Nat)) else (0, 5)) else (0, 4)

theorem trimPrefix_len (l : List UInt8) : (Lib.trimPrefix l [45]).length ≤ l.length := by
  unfold Lib.trimPrefix; split
  · simp
  · omega
theorem cut_lens (l : List UInt8) : (Lib.cut l [46]).1.length ≤ l.length ∧ (Lib.cut l [46]).2.1.length ≤ l.length ∧ ((Lib.cut l [46]).2.2 = false → (Lib.cut l [46]).2.1 = []) := by
  unfold Lib.cut; split
  · refine ⟨by simp; omega, by simp, by simp⟩
  · refine ⟨by simp, by simp, by simp⟩
theorem part_facts (l : List UInt8) (h : formB l = true) : (partOf l).length ≤ 18 ∧ (partOf l).all isDig = true ∧ (wholeOf l).length ≤ 18 ∧ (wholeOf l).all isDig = true := by
  unfold formB at h
  rw [Bool.and_eq_true] at h
  obtain ⟨h1, h2⟩ := h
  have hd : ∀ x : List UInt8, digB x = true → x.length ≤ 18 ∧ x.all isDig = true := by
    intro x hx
    unfold digB at hx
    rw [Bool.and_eq_true, Bool.and_eq_true] at hx
    exact ⟨of_decide_eq_true hx.1.2, hx.2⟩
  refine ⟨?_, ?_, (hd _ h1).1, (hd _ h1).2⟩
  · cases hdot : dotOf l
    · have := (cut_lens (Lib.trimPrefix l [45])).2.2 hdot
      unfold partOf; rw [this]; simp
    · rw [hdot] at h2; exact (hd _ h2).1
  · cases hdot : dotOf l
    · have := (cut_lens (Lib.trimPrefix l [45])).2.2 hdot
      unfold partOf; rw [this]; rfl
    · rw [hdot] at h2; exact (hd _ h2).2

theorem frac_le (x z : Nat) (h : x < z) : nrV x 10000 z ≤ 10000 := by
  unfold nrV
  have hz : 0 < z := by omega
  have h1 : x * 10000 / z ≤ 9999 := by
    have : x * 10000 / z < 10000 := by
      rw [Nat.div_lt_iff_lt_mul hz, Nat.mul_comm 10000 z]
      exact Nat.mul_lt_mul_of_pos_right h (by omega)
    omega
  split
  · split <;> omega
  · omega
theorem cut45 (s : ByteArray) (l : List UInt8) (w : World) (hl : s.data.toList = l) :
    Calls Tryz.prog 177 #[.string s, .string ⟨#[45]⟩] w fun e w' => e = .returned (.tuple #[.string ⟨(Lib.trimPrefix l [45]).toArray⟩, .bool (negOf l)]) ∧ w' = w := by
  subst hl
  exact Tryz.strings_CutPrefix s ⟨#[45]⟩ w
theorem cut46 (l : List UInt8) (w : World) (hl : (Lib.trimPrefix l [45]).length < 4294967281) (hm : lenCell w) :
    Calls Tryz.prog 178 #[.string ⟨(Lib.trimPrefix l [45]).toArray⟩, .string ⟨#[46]⟩] w fun e w' => e = .returned (.tuple #[.string ⟨(wholeOf l).toArray⟩, .string ⟨(partOf l).toArray⟩, .bool (dotOf l)]) ∧ ∃ n, w' = w.drewN n := by
  obtain ⟨m, hm⟩ := hm
  exact Tryz.strings_Cut ⟨(Lib.trimPrefix l [45]).toArray⟩ ⟨#[46]⟩ m w hl hm
theorem digits_list (x : List UInt8) (w : World) (hx : x.length ≤ 4294967281) :
    Calls Tryz.prog 179 #[.string ⟨x.toArray⟩] w fun e w' => e = .returned (.bool (digB x)) ∧ w' = w :=
  digits_any ⟨x.toArray⟩ w (by unfold maxLen; show x.length ≤ _; omega)
theorem number_list (x : List UInt8) (w : World) (hx : x.length ≤ 18) (hd : x.all isDig = true) :
    Calls Tryz.prog 181 #[.string ⟨x.toArray⟩] w fun e w' => e = .returned (.int .u64 ((numL x : Nat) : Int)) ∧ w' = w :=
  number_any ⟨x.toArray⟩ w hx hd
theorem numL_18 (x : List UInt8) (hx : x.length ≤ 18) (hd : x.all isDig = true) : numL x < 1000000000000000000 := by
  have h := numL_lt x hd
  have hp : 10 ^ x.length ≤ 10 ^ 18 := Nat.pow_le_pow_right (by omega) hx
  have e : (10 ^ 18 : Nat) = 1000000000000000000 := by decide
  omega

set_option maxHeartbeats 1000000 in
theorem parse_any (s : ByteArray) (w : World) (hs : s.size < 4294967281) (hm : lenCell w) :
    Calls Tryz.prog 143 #[.string s] w fun e w' => e = .returned (.tuple #[.int .i64 (parseR s.data.toList).1, .int .i64 (parseR s.data.toList).2]) ∧ Below w.heap.size w w' := by
  obtain ⟨l, hl⟩ : ∃ l, s.data.toList = l := ⟨_, rfl⟩
  have hsz : s.size = l.length := by rw [← hl]; rfl
  obtain ⟨c1, c2, c3⟩ := cut_lens (Lib.trimPrefix l [45])
  have ct := trimPrefix_len l
  have hwl : (wholeOf l).length ≤ 4294967281 := by unfold wholeOf; omega
  have hpl : (partOf l).length ≤ 4294967281 := by unfold partOf; omega
  rw [hl]
  have HM := hide hm
  have HL := hide hl
  have HTL : Hid ((Lib.trimPrefix l [45]).length < 4294967281) := hide (by omega)
  clear hm hl c1 c2 c3 ct hsz
  cases hf : formB l
  · have hs : parseR l = (0, 4) := by unfold parseR; rw [hf]; rfl
    rw [hs]
    unfold formB at hf
    cases hw : digB (wholeOf l)
    · have HW := hide hw
      clear hs hf hw
      go_enter Tryz.func143, Tryz.ntmps143
      go_wp2_with fail
      refine (cut45 s l _ (unhide HL)).mono ?_
      rintro e w' ⟨rfl, rfl⟩
      go_wp2_with fail
      refine (cut46 l _ (unhide HTL) (unhide HM)).mono ?_
      rintro e w2 ⟨rfl, n, rfl⟩
      go_wp2_with fail
      refine (digits_list (wholeOf l) _ hwl).mono ?_
      rintro e w3 ⟨rfl, rfl⟩
      rw [unhide HW]
      go_wp2
      go_ret2
      exact ⟨rfl, below_drewN (Below.refl _ _) _⟩
    · have hdt : dotOf l = true := by
        rw [hw] at hf
        cases hd : dotOf l
        · rw [hd] at hf; cases hf
        · rfl
      have hpt : digB (partOf l) = false := by rw [hw, hdt] at hf; exact hf
      have HW := hide hw
      have HPT := hide hpt
      clear hs hf hw hpt
      go_enter Tryz.func143, Tryz.ntmps143
      go_wp2_with fail
      refine (cut45 s l _ (unhide HL)).mono ?_
      rintro e w' ⟨rfl, rfl⟩
      go_wp2_with fail
      refine (cut46 l _ (unhide HTL) (unhide HM)).mono ?_
      rintro e w2 ⟨rfl, n, rfl⟩
      go_wp2_with fail
      refine (digits_list (wholeOf l) _ hwl).mono ?_
      rintro e w3 ⟨rfl, rfl⟩
      rw [unhide HW]
      go_wp2_with fail
      refine (digits_list (partOf l) _ hpl).mono ?_
      rintro e w4 ⟨rfl, rfl⟩
      rw [unhide HPT]
      go_wp2
      go_ret2
      exact ⟨rfl, below_drewN (Below.refl _ _) _⟩
  · obtain ⟨p1, p2, p3, p4⟩ := part_facts l hf
    have n1 := numL_18 _ p1 p2
    have n3 := numL_18 _ p3 p4
    have P2 := hide p2
    have P4 := hide p4
    have HF := hide hf
    have hw : digB (wholeOf l) = true := by unfold formB at hf; rw [Bool.and_eq_true] at hf; exact hf.1
    have HW := hide hw
    have hpt : dotOf l = true → digB (partOf l) = true := by
      intro hd
      unfold formB at hf; rw [Bool.and_eq_true, hd] at hf; exact hf.2
    have HPT := hide hpt
    clear p2 p4 hf hw hpt hs
    have hp0 : 0 < 10 ^ (partOf l).length := Nat.pow_pos (by omega)
    have hp9 : 10 ^ (partOf l).length ≤ 10 ^ 18 := Nat.pow_le_pow_right (by omega) p1
    have e18 : (10 ^ 18 : Nat) = 1000000000000000000 := by decide
    rw [e18] at hp9
    clear e18
    have hv1 := nrV_le (numL (wholeOf l)) 10000 1
    have hv2 := frac_le (numL (partOf l)) (10 ^ (partOf l).length) (numL_lt _ (unhide P2))
    cases hk : nrOk (numL (wholeOf l)) 10000 1
    · have hs : parseR l = (0, 5) := by unfold parseR; rw [unhide HF, hk]; rfl
      have HK := hide hk
      rw [hs]
      clear hk hs
      cases hd : dotOf l
      · have HDD := hide hd
        go_enter Tryz.func143, Tryz.ntmps143
        go_wp2_with fail
        refine (cut45 s l _ (unhide HL)).mono ?_
        rintro e w' ⟨rfl, rfl⟩
        go_wp2_with fail
        refine (cut46 l _ (unhide HTL) (unhide HM)).mono ?_
        rintro e w2 ⟨rfl, n, rfl⟩
        go_wp2_with fail
        refine (digits_list (wholeOf l) _ hwl).mono ?_
        rintro e w3 ⟨rfl, rfl⟩
        rw [unhide HW]
        go_wp2_with fail
        refine (number_list (wholeOf l) _ p3 (unhide P4)).mono ?_
        rintro e w5 ⟨rfl, rfl⟩
        go_wp2_with fail
        refine (nearest_any (numL (wholeOf l)) 10000 1 _ (by omega) (by omega) (by omega) (by omega)).mono ?_
        rintro e w6 ⟨rfl, hb⟩
        rw [unhide HK]
        go_wp2
        go_ret2
        exact ⟨rfl, below_then (below_drewN (Below.refl _ _) _) hb⟩
      · have HP2 := hide ((unhide HPT) hd)
        go_enter Tryz.func143, Tryz.ntmps143
        go_wp2_with fail
        refine (cut45 s l _ (unhide HL)).mono ?_
        rintro e w' ⟨rfl, rfl⟩
        go_wp2_with fail
        refine (cut46 l _ (unhide HTL) (unhide HM)).mono ?_
        rintro e w2 ⟨rfl, n, rfl⟩
        go_wp2_with fail
        refine (digits_list (wholeOf l) _ hwl).mono ?_
        rintro e w3 ⟨rfl, rfl⟩
        rw [unhide HW]
        go_wp2_with fail
        refine (digits_list (partOf l) _ hpl).mono ?_
        rintro e w4 ⟨rfl, rfl⟩
        rw [unhide HP2]
        go_wp2_with fail
        refine (number_list (wholeOf l) _ p3 (unhide P4)).mono ?_
        rintro e w5 ⟨rfl, rfl⟩
        go_wp2_with fail
        refine (nearest_any (numL (wholeOf l)) 10000 1 _ (by omega) (by omega) (by omega) (by omega)).mono ?_
        rintro e w6 ⟨rfl, hb⟩
        rw [unhide HK]
        go_wp2
        go_ret2
        exact ⟨rfl, below_then (below_drewN (Below.refl _ _) _) hb⟩
    · have hs : parseR l = (sgnN (negOf l) (partsOf l : Nat), sgnE (partsOf l : Nat)) := by unfold parseR; rw [unhide HF, hk]; rfl
      have HK := hide hk
      have HPO : Hid (partsOf l = nrV (numL (wholeOf l)) 10000 1 + nrV (numL (partOf l)) 10000 (10 ^ (partOf l).length)) := hide rfl
      rw [hs]
      clear hk hs
      cases hd : dotOf l
      · have HDD := hide hd
        go_enter Tryz.func143, Tryz.ntmps143
        go_wp2_with fail
        refine (cut45 s l _ (unhide HL)).mono ?_
        rintro e w' ⟨rfl, rfl⟩
        go_wp2_with fail
        refine (cut46 l _ (unhide HTL) (unhide HM)).mono ?_
        rintro e w2 ⟨rfl, n, rfl⟩
        go_wp2_with fail
        refine (digits_list (wholeOf l) _ hwl).mono ?_
        rintro e w3 ⟨rfl, rfl⟩
        rw [unhide HW]
        go_wp2_with fail
        refine (number_list (wholeOf l) _ p3 (unhide P4)).mono ?_
        rintro e w5 ⟨rfl, rfl⟩
        go_wp2_with fail
        refine (nearest_any (numL (wholeOf l)) 10000 1 _ (by omega) (by omega) (by omega) (by omega)).mono ?_
        rintro e w6 ⟨rfl, hb⟩
        rw [unhide HK]
        go_wp2_with fail
        refine (number_list (partOf l) _ p1 (unhide P2)).mono ?_
        rintro e w7 ⟨rfl, rfl⟩
        go_wp2_with fail
        refine (power_any (partOf l).length _ (by omega)).mono ?_
        rintro e w8 ⟨rfl, rfl⟩
        go_wp2_with fail
        refine (nearest_any (numL (partOf l)) 10000 (10 ^ (partOf l).length) _ (by omega) (by omega) hp0 (by omega)).mono ?_
        rintro e w9 ⟨rfl, hb2⟩
        go_wp2_with fail
        refine (signed_any (negOf l) _ _ (by omega) (by omega)).mono ?_
        rintro e w10 ⟨rfl, rfl⟩
        go_wp2
        go_ret2
        exact ⟨by rw [unhide HPO]; rfl, below_then (below_then (below_drewN (Below.refl _ _) _) hb) hb2⟩
      · have HP2 := hide ((unhide HPT) hd)
        go_enter Tryz.func143, Tryz.ntmps143
        go_wp2_with fail
        refine (cut45 s l _ (unhide HL)).mono ?_
        rintro e w' ⟨rfl, rfl⟩
        go_wp2_with fail
        refine (cut46 l _ (unhide HTL) (unhide HM)).mono ?_
        rintro e w2 ⟨rfl, n, rfl⟩
        go_wp2_with fail
        refine (digits_list (wholeOf l) _ hwl).mono ?_
        rintro e w3 ⟨rfl, rfl⟩
        rw [unhide HW]
        go_wp2_with fail
        refine (digits_list (partOf l) _ hpl).mono ?_
        rintro e w4 ⟨rfl, rfl⟩
        rw [unhide HP2]
        go_wp2_with fail
        refine (number_list (wholeOf l) _ p3 (unhide P4)).mono ?_
        rintro e w5 ⟨rfl, rfl⟩
        go_wp2_with fail
        refine (nearest_any (numL (wholeOf l)) 10000 1 _ (by omega) (by omega) (by omega) (by omega)).mono ?_
        rintro e w6 ⟨rfl, hb⟩
        rw [unhide HK]
        go_wp2_with fail
        refine (number_list (partOf l) _ p1 (unhide P2)).mono ?_
        rintro e w7 ⟨rfl, rfl⟩
        go_wp2_with fail
        refine (power_any (partOf l).length _ (by omega)).mono ?_
        rintro e w8 ⟨rfl, rfl⟩
        go_wp2_with fail
        refine (nearest_any (numL (partOf l)) 10000 (10 ^ (partOf l).length) _ (by omega) (by omega) hp0 (by omega)).mono ?_
        rintro e w9 ⟨rfl, hb2⟩
        go_wp2_with fail
        refine (signed_any (negOf l) _ _ (by omega) (by omega)).mono ?_
        rintro e w10 ⟨rfl, rfl⟩
        go_wp2
        go_ret2
        exact ⟨by rw [unhide HPO]; rfl, below_then (below_then (below_drewN (Below.refl _ _) _) hb) hb2⟩
end Go.Proofs.YtloamahbghjjgaaGreatDoor

namespace Go.Proofs.YtloamahbghjjgaaGreatDoor

end Go.Proofs.YtloamahbghjjgaaGreatDoor
