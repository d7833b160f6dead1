/- The contract of math/bits.Div64. -/
import Derived.BigQuiet
import Derived.Deep.CutBlock
import Derived.Deep.CutRange
import Derived.Deep.QuietTactic
import Derived.Laws.Bits64b
import Derived.Lib.BitFns
import Derived.Lib.ItoaNum
import Derived.Shelf.Bits.Mul64
import Derived.Shelf.LaysM
import Derived.Shelf.Small.Bits
import Derived.Shelf.Small.Strs
import Derived.Shelf.Small.Wraps
import Derived.Shelf.Strconv.Itoa0
import Derived.Shelf.Strconv.Itoa1
import Derived.Shelf.Strconv.Itoa2
import Derived.Shelf.Strings.AsciiSet
import Derived.Shelf.Strings.Cut
import Derived.Shelf.Strings.Prefix
import Derived.Shelf.Strings.Search1
import Derived.Shelf.Strings.Search2
import Derived.Shelf.Strings.Shaped
import Derived.Shelf.Strings.Trim
import Derived.Test.YtbeijnflfmjgfaaGreatDoorProg
import Derived.Test.YtbeijnflfmjgfaaGreatDoorRows
import Derived.WalkKit
import Derived.WalkLawsBesides
import Derived.WalkSmall
import Derived.WalkSpells
import Derived.Test.YtbeijnflfmjgfaaGreatDoorZoAA
import Derived.Test.YtbeijnflfmjgfaaGreatDoorZoAB
namespace Go.Proofs.YtbeijnflfmjgfaaGreatDoor
open Go.RowKit

set_option maxHeartbeats 400000 in
theorem div64_low (lo y : Nat) (w : World) (h1 : lo < 18446744073709551616) (hy0 : 0 < y) (hy1 : y < 18446744073709551616) :
    Calls Tryz.prog 172 #[.int .u64 0, .int .u64 (lo : Int), .int .u64 (y : Int)] w fun e w' => e = .returned (.tuple #[.int .u64 ((lo / y : Nat) : Int), .int .u64 ((lo % y : Nat) : Int)]) ∧ Below w.heap.size w w' := by
  have hne : ((y : Int) == 0) = false := by rw [beq_eq_false_iff_ne]; omega
  go_enter Tryz.func172, Tryz.ntmps172
  go_wp2
  go_quiet (fail)
  go_wp2
  go_ret2
  refine ⟨ret_ne ?_ rfl, below_drewN (Below.refl _ _) _⟩
  have : lo / y ≤ lo := Nat.div_le_self _ _
  exact Mul64.wrapN (lo / y) (by omega)

theorem int_eq {k : IntKind} {a b : Int} (h : a = b) : Value.int k a = Value.int k b := by rw [h]

set_option maxRecDepth 100000 in
set_option maxHeartbeats 1000000 in
theorem div64_high (hi lo y : Nat) (w : World) (hh : 0 < hi) (hhy : hi < y) (h1 : lo < 18446744073709551616) (hy1 : y < 18446744073709551616) :
    Calls Tryz.prog 172 #[.int .u64 (hi : Int), .int .u64 (lo : Int), .int .u64 (y : Int)] w fun e w' => e = .returned (.tuple #[.int .u64 (((hi * 18446744073709551616 + lo) / y : Nat) : Int), .int .u64 (((hi * 18446744073709551616 + lo) % y : Nat) : Int)]) ∧ Below w.heap.size w w' := by
  have hne : ((y : Int) == 0) = false := by rw [beq_eq_false_iff_ne]; omega
  have hnh : ((hi : Int) == 0) = false := by rw [beq_eq_false_iff_ne]; omega
  have hnle : ¬ (y : Int) ≤ (hi : Int) := by omega
  obtain ⟨s, Y, H, L, u, v, hs, hs2, hY, hY1, hY2, hH, hH2, hL, hL2, hu, hu2, hv, hv2, heq⟩ := Dv.norm hi lo y hhy h1 hy1
  have HEQ := hide heq
  have HY := hide hY
  clear heq
  have rs : (64 - ((Lib.bitLen (y : Int).toNat : Nat) : Int)) = (s : Int) := by rw [Int.toNat_natCast]; omega
  have RS := hide rs
  clear rs
  have HS := hide hs
  clear hs
  have m1 : min s 64 = s := by omega
  have m2 : (64 - (s : Int)).toNat = 64 - s := by omega
  have m3 : min (64 - s) 64 = 64 - s := by omega
  have r1 : (y : Int) * 2 ^ s = (Y : Int) := by rw [← hY]; simp
  have r2 : (hi : Int) * 2 ^ s = (H : Int) := by rw [← hH]; simp
  have r3 : (lo : Int) / 2 ^ (64 - s) = (L : Int) := by rw [← hL]; simp
  have r4 : bits BinOp.or IntKind.u64 (H : Int) (L : Int) = (u : Int) := by rw [← hu]; exact bits_or_u64_nat H L hH2 hL2
  have r5 : IntKind.u64.wrap ((lo : Int) * 2 ^ s) = (v : Int) := by rw [IntKind.wrap_u64, ← hv]; simp
  obtain ⟨y1, y0, hy10, hy0, ry1, ry0⟩ : ∃ y1 y0 : Nat, Y = y1 * 4294967296 + y0 ∧ y0 < 4294967296 ∧ (Y : Int) / 4294967296 = (y1 : Int) ∧ bits BinOp.and IntKind.u64 (Y : Int) 4294967295 = (y0 : Int) :=
    ⟨Y / 4294967296, Y % 4294967296, by omega, by omega, by omega, Mul64.maskN Y hY2⟩
  obtain ⟨v1, v0, hv10, hv0, rv1, rv0⟩ : ∃ v1 v0 : Nat, v = v1 * 4294967296 + v0 ∧ v0 < 4294967296 ∧ (v : Int) / 4294967296 = (v1 : Int) ∧ bits BinOp.and IntKind.u64 (v : Int) 4294967295 = (v0 : Int) :=
    ⟨v / 4294967296, v % 4294967296, by omega, by omega, by omega, Mul64.maskN v hv2⟩
  have hy1b : 2147483648 ≤ y1 := by omega
  have hv1b : v1 < 4294967296 := by omega
  have hy1c : y1 < 4294967296 := by omega
  have HY10 := hide hy10
  have HV10 := hide hv10
  clear hy10 hv10 hY hH hL hu hv
  obtain ⟨f1, f2, f3, f4⟩ := Dv.first y1 y0 u v1 (by rw [← unhide HY10]; exact hu2) hv1b hy0 hy1b
  have F1 := hide f1
  have F3 := hide f3
  clear f1 f3
  obtain ⟨q, r, hq, hr⟩ : ∃ q r : Nat, u / y1 = q ∧ u % y1 = r := ⟨_, _, rfl, rfl⟩
  have rq : (u : Int).tdiv (y1 : Int) = (q : Int) := by rw [← hq]; rfl
  have rq' : (u : Int) / (y1 : Int) = (q : Int) := by rw [← hq]; rfl
  have HQ := hide hq
  have HR := hide hr
  have rqy : (q : Int) * (y1 : Int) = (u : Int) - (r : Int) := by
    have h := unhide F3
    rw [hq, hr] at h
    have h2 : ((q * y1 : Nat) : Int) + (r : Int) = (u : Int) := by rw [← Int.natCast_add, h]
    rw [Int.natCast_mul] at h2; omega
  have hru : r ≤ u := by rw [← hr]; exact Nat.mod_le _ _
  rw [hq] at f2
  rw [hr] at f4
  clear hq hr
  have rr : (u : Int) - ((u : Int) - (r : Int)) = (r : Int) := by omega
  obtain ⟨Q1, hQ1⟩ : ∃ Q1 : Nat, Dv.dig (y1 * 4294967296 + y0) u v1 = Q1 := ⟨_, rfl⟩
  have HQ1 := hide hQ1
  rw [hQ1] at F1
  have hQ1b : Q1 < 4294967296 := by rw [← hQ1]; exact Dv.dig_lt _ u v1 (by rw [← unhide HY10]; exact hu2) hv1b
  clear hQ1
  go_enter Tryz.func172, Tryz.ntmps172
  go_wp2_with fail
  refine (Tryz.bits_LeadingZeros64 _ _ (by omega) (by omega)).mono ?_
  rintro e w' ⟨rfl, rfl⟩
  rw [unhide RS]
  go_upto_block 0 with fail
  go_cut [15, 16] from 67 to 85 (fun a b wx => a = .int .u64 (Q1 : Int) ∧ wx = w')
  case first =>
    go_wp2_with fail
    go_loop [15, 16] (fun a b => ∃ q r : Nat, a = .int .u64 (q : Int) ∧ b = .int .u64 (r : Int) ∧ Hid (q * y1 + r = u) ∧ Hid (Q1 ≤ q) ∧ q ≤ 4294967297 ∧ r < 4294967296) (fun a _ => (intOf a).toNat)
    case atStart => exact ⟨q, r, rfl, rfl, hide (by rw [← unhide HQ, ← unhide HR]; exact unhide F3), hide (by rw [← unhide HQ]; exact unhide F1), f2, by omega⟩
    case round =>
      clear rq rq' rqy rr r1 r2 r3 r4 r5 ry1 ry0 rv1 rv0 m1 m2 m3 HQ HR F1 F3 f2 f4 hru
      obtain ⟨q, r, rfl, rfl, H1, H2, hq, hr⟩ := hrel
      by_cases c1 : 4294967296 ≤ q
      · have tb := Dv.too_big y1 y0 u v1 q r (by rw [← unhide HY10]; exact hu2) hv1b (unhide H1) (Or.inl c1)
        by_cases c2 : 4294967296 ≤ r + y1
        · have hfin := hide (Dv.brk y1 y0 u v1 (q - 1) (r + y1) (by rw [← unhide HY10]; exact hu2) hy0 (Dv.next (unhide H1) (by omega)) (by omega) c2 (by omega))
          have TB := hide tb
          clear tb
          have iq : (q : Int) ≤ 4294967297 := by omega
          have ir : (r : Int) < 4294967296 := by omega
          have iy : (y1 : Int) < 4294967296 := by omega
          have iv : (v1 : Int) < 4294967296 := by omega
          have i1 : (4294967296 : Int) ≤ (q : Int) := by omega
          have i2 : (4294967296 : Int) ≤ (r : Int) + (y1 : Int) := by omega
          clear hq hr c1 c2
          generalize hqi : (q : Int) = qi at *
          have Hqi := hide hqi
          clear hqi
          generalize hri : (r : Int) = ri at *
          have Hri := hide hri
          clear hri
          generalize hy1i : (y1 : Int) = y1i at *
          have Hy1i := hide hy1i
          clear hy1i
          generalize hvi : (v1 : Int) = vi at *
          have Hvi := hide hvi
          clear hvi
          have pqi : 0 ≤ qi := by rw [← unhide Hqi]; omega
          have pri : 0 ≤ ri := by rw [← unhide Hri]; omega
          have py1i : 0 ≤ y1i := by rw [← unhide Hy1i]; omega
          have pvi : 0 ≤ vi := by rw [← unhide Hvi]; omega
          go_wp2
          have hqi := unhide Hqi
          subst hqi
          have hri := unhide Hri
          subst hri
          have hy1i := unhide Hy1i
          subst hy1i
          have hvi := unhide Hvi
          subst hvi
          go_meet
          case rel => exact ⟨int_eq (by rw [← unhide HQ1, ← unhide hfin]; omega), rfl⟩
        · have TB := hide tb
          clear tb
          have iq : (q : Int) ≤ 4294967297 := by omega
          have ir : (r : Int) < 4294967296 := by omega
          have iy : (y1 : Int) < 4294967296 := by omega
          have iv : (v1 : Int) < 4294967296 := by omega
          have i1 : (4294967296 : Int) ≤ (q : Int) := by omega
          have i2 : (r : Int) + (y1 : Int) < 4294967296 := by omega
          clear hq hr c1 c2
          generalize hqi : (q : Int) = qi at *
          have Hqi := hide hqi
          clear hqi
          generalize hri : (r : Int) = ri at *
          have Hri := hide hri
          clear hri
          generalize hy1i : (y1 : Int) = y1i at *
          have Hy1i := hide hy1i
          clear hy1i
          generalize hvi : (v1 : Int) = vi at *
          have Hvi := hide hvi
          clear hvi
          have pqi : 0 ≤ qi := by rw [← unhide Hqi]; omega
          have pri : 0 ≤ ri := by rw [← unhide Hri]; omega
          have py1i : 0 ≤ y1i := by rw [← unhide Hy1i]; omega
          have pvi : 0 ≤ vi := by rw [← unhide Hvi]; omega
          go_wp2
          have hqi := unhide Hqi
          subst hqi
          have hri := unhide Hri
          subst hri
          have hy1i := unhide Hy1i
          subst hy1i
          have hvi := unhide Hvi
          subst hvi
          go_round
          case rel => exact ⟨q - 1, r + y1, int_eq (by omega), int_eq (by omega), hide (Dv.next (unhide H1) (by omega)), hide (by have := unhide TB; have := unhide HQ1; omega), by omega, by omega⟩
          case measure => simp [intOf]; omega
      · obtain ⟨Z, hZ⟩ : ∃ Z : Nat, q * y0 = Z := ⟨_, rfl⟩
        have hZb : Z < 18446744073709551616 := by
          rw [← hZ]
          have a : q * y0 ≤ 4294967295 * y0 := Nat.mul_le_mul_right _ (by omega)
          omega
        have rz : (q : Int) * (y0 : Int) = (Z : Int) := by rw [← hZ, Int.natCast_mul]
        have HZ := hide hZ
        clear hZ
        by_cases c3 : 4294967296 * r + v1 < Z
        · have tb := Dv.too_big y1 y0 u v1 q r (by rw [← unhide HY10]; exact hu2) hv1b (unhide H1) (Or.inr (by rw [unhide HZ]; exact c3))
          have hq1 : 1 ≤ q := by omega
          by_cases c2 : 4294967296 ≤ r + y1
          · have hfin := hide (Dv.brk y1 y0 u v1 (q - 1) (r + y1) (by rw [← unhide HY10]; exact hu2) hy0 (Dv.next (unhide H1) (by omega)) (by omega) c2 (by omega))
            have TB := hide tb
            clear tb
            have iq : (q : Int) ≤ 4294967297 := by omega
            have ir : (r : Int) < 4294967296 := by omega
            have iy : (y1 : Int) < 4294967296 := by omega
            have iv : (v1 : Int) < 4294967296 := by omega
            have i1 : (q : Int) < 4294967296 := by omega
            have iz : (Z : Int) < 18446744073709551616 := by omega
            have i3 : 4294967296 * (r : Int) + (v1 : Int) < (Z : Int) := by omega
            have i4 : (1 : Int) ≤ (q : Int) := by omega
            have i2 : (4294967296 : Int) ≤ (r : Int) + (y1 : Int) := by omega
            clear hq hr c1 hZb c3 hq1 c2
            generalize hqi : (q : Int) = qi at *
            have Hqi := hide hqi
            clear hqi
            generalize hri : (r : Int) = ri at *
            have Hri := hide hri
            clear hri
            generalize hy1i : (y1 : Int) = y1i at *
            have Hy1i := hide hy1i
            clear hy1i
            generalize hvi : (v1 : Int) = vi at *
            have Hvi := hide hvi
            clear hvi
            generalize hzi : (Z : Int) = zi at *
            have Hzi := hide hzi
            clear hzi
            have pqi : 0 ≤ qi := by rw [← unhide Hqi]; omega
            have pri : 0 ≤ ri := by rw [← unhide Hri]; omega
            have py1i : 0 ≤ y1i := by rw [← unhide Hy1i]; omega
            have pvi : 0 ≤ vi := by rw [← unhide Hvi]; omega
            have pzi : 0 ≤ zi := by rw [← unhide Hzi]; omega
            go_wp2
            have hqi := unhide Hqi
            subst hqi
            have hri := unhide Hri
            subst hri
            have hy1i := unhide Hy1i
            subst hy1i
            have hvi := unhide Hvi
            subst hvi
            have hzi := unhide Hzi
            subst hzi
            go_meet
            case rel => exact ⟨int_eq (by rw [← unhide HQ1, ← unhide hfin]; omega), rfl⟩
          · have TB := hide tb
            clear tb
            have iq : (q : Int) ≤ 4294967297 := by omega
            have ir : (r : Int) < 4294967296 := by omega
            have iy : (y1 : Int) < 4294967296 := by omega
            have iv : (v1 : Int) < 4294967296 := by omega
            have i1 : (q : Int) < 4294967296 := by omega
            have iz : (Z : Int) < 18446744073709551616 := by omega
            have i3 : 4294967296 * (r : Int) + (v1 : Int) < (Z : Int) := by omega
            have i4 : (1 : Int) ≤ (q : Int) := by omega
            have i2 : (r : Int) + (y1 : Int) < 4294967296 := by omega
            clear hq hr c1 hZb c3 hq1 c2
            generalize hqi : (q : Int) = qi at *
            have Hqi := hide hqi
            clear hqi
            generalize hri : (r : Int) = ri at *
            have Hri := hide hri
            clear hri
            generalize hy1i : (y1 : Int) = y1i at *
            have Hy1i := hide hy1i
            clear hy1i
            generalize hvi : (v1 : Int) = vi at *
            have Hvi := hide hvi
            clear hvi
            generalize hzi : (Z : Int) = zi at *
            have Hzi := hide hzi
            clear hzi
            have pqi : 0 ≤ qi := by rw [← unhide Hqi]; omega
            have pri : 0 ≤ ri := by rw [← unhide Hri]; omega
            have py1i : 0 ≤ y1i := by rw [← unhide Hy1i]; omega
            have pvi : 0 ≤ vi := by rw [← unhide Hvi]; omega
            have pzi : 0 ≤ zi := by rw [← unhide Hzi]; omega
            go_wp2
            have hqi := unhide Hqi
            subst hqi
            have hri := unhide Hri
            subst hri
            have hy1i := unhide Hy1i
            subst hy1i
            have hvi := unhide Hvi
            subst hvi
            have hzi := unhide Hzi
            subst hzi
            go_round
            case rel => exact ⟨q - 1, r + y1, int_eq (by omega), int_eq (by omega), hide (Dv.next (unhide H1) (by omega)), hide (by have := unhide TB; have := unhide HQ1; omega), by omega, by omega⟩
            case measure => simp [intOf]; omega
        · have hfin := hide (Dv.small y1 y0 u v1 q r (by rw [← unhide HY10]; exact hu2) (unhide H1) (by rw [unhide HQ1]; exact unhide H2) (by rw [unhide HZ]; omega))
          have iq : (q : Int) ≤ 4294967297 := by omega
          have ir : (r : Int) < 4294967296 := by omega
          have iy : (y1 : Int) < 4294967296 := by omega
          have iv : (v1 : Int) < 4294967296 := by omega
          have i1 : (q : Int) < 4294967296 := by omega
          have iz : (Z : Int) < 18446744073709551616 := by omega
          have i3 : (Z : Int) ≤ 4294967296 * (r : Int) + (v1 : Int) := by omega
          clear hq hr c1 hZb c3
          generalize hqi : (q : Int) = qi at *
          have Hqi := hide hqi
          clear hqi
          generalize hri : (r : Int) = ri at *
          have Hri := hide hri
          clear hri
          generalize hy1i : (y1 : Int) = y1i at *
          have Hy1i := hide hy1i
          clear hy1i
          generalize hvi : (v1 : Int) = vi at *
          have Hvi := hide hvi
          clear hvi
          generalize hzi : (Z : Int) = zi at *
          have Hzi := hide hzi
          clear hzi
          have pqi : 0 ≤ qi := by rw [← unhide Hqi]; omega
          have pri : 0 ≤ ri := by rw [← unhide Hri]; omega
          have py1i : 0 ≤ y1i := by rw [← unhide Hy1i]; omega
          have pvi : 0 ≤ vi := by rw [← unhide Hvi]; omega
          have pzi : 0 ≤ zi := by rw [← unhide Hzi]; omega
          go_wp2
          have hqi := unhide Hqi
          subst hqi
          have hri := unhide Hri
          subst hri
          have hy1i := unhide Hy1i
          subst hy1i
          have hvi := unhide Hvi
          subst hvi
          have hzi := unhide Hzi
          subst hzi
          go_meet
          case rel => exact ⟨int_eq (by rw [← unhide HQ1, ← unhide hfin]), rfl⟩
  case rest =>
  obtain ⟨rfl, rfl⟩ := hcut
  clear rq rq' rqy rr r1 r2 r3 r4 r5 ry1 ry0 rv1 rv0 m2 m3 HQ HR F1 F3 f2 f4 hru
  obtain ⟨l1, l2, l3⟩ := Dv.left Y u v1 (by omega)
  have ed : Dv.dig Y u v1 = Q1 := by rw [unhide HY10]; exact unhide HQ1
  rw [ed] at l1 l2 l3
  obtain ⟨u2, hu2e⟩ : ∃ u2 : Nat, (u * 4294967296 + v1) % Y = u2 := ⟨_, rfl⟩
  have hu2b : u2 < Y := by rw [← hu2e, ← l2]; exact l3
  have r6 : IntKind.u64.wrap (IntKind.u64.wrap (IntKind.u64.wrap ((u : Int) * 4294967296) + (v1 : Int)) - IntKind.u64.wrap ((Q1 : Int) * (Y : Int))) = (u2 : Int) := by
    rw [← hu2e, ← l2, IntKind.wrap_u64, IntKind.wrap_u64, IntKind.wrap_u64, IntKind.wrap_u64, ← Int.natCast_mul]
    generalize Q1 * Y = P at *
    omega
  have HU2E := hide hu2e
  clear hu2e l1 l2 l3 ed
  obtain ⟨g1, g2, g3, g4⟩ := Dv.first y1 y0 u2 v0 (by rw [← unhide HY10]; exact hu2b) hv0 hy0 hy1b
  have G1 := hide g1
  have G3 := hide g3
  clear g1 g3
  obtain ⟨p, t, hp, ht⟩ : ∃ p t : Nat, u2 / y1 = p ∧ u2 % y1 = t := ⟨_, _, rfl, rfl⟩
  have rp : (u2 : Int).tdiv (y1 : Int) = (p : Int) := by rw [← hp]; rfl
  have rp' : (u2 : Int) / (y1 : Int) = (p : Int) := by rw [← hp]; rfl
  have HP := hide hp
  have HT := hide ht
  have rpy : (p : Int) * (y1 : Int) = (u2 : Int) - (t : Int) := by
    have h := unhide G3
    rw [hp, ht] at h
    have h2 : ((p * y1 : Nat) : Int) + (t : Int) = (u2 : Int) := by rw [← Int.natCast_add, h]
    rw [Int.natCast_mul] at h2; omega
  have htu : t ≤ u2 := by rw [← ht]; exact Nat.mod_le _ _
  rw [hp] at g2
  rw [ht] at g4
  clear hp ht
  have rr : (u2 : Int) - ((u2 : Int) - (t : Int)) = (t : Int) := by omega
  obtain ⟨Q0, hQ0⟩ : ∃ Q0 : Nat, Dv.dig (y1 * 4294967296 + y0) u2 v0 = Q0 := ⟨_, rfl⟩
  have HQ0 := hide hQ0
  rw [hQ0] at G1
  have hQ0b : Q0 < 4294967296 := by rw [← hQ0]; exact Dv.dig_lt _ u2 v0 (by rw [← unhide HY10]; exact hu2b) hv0
  clear hQ0
  go_upto_block 2 with fail
  go_cut [18, 16] from 102 to 120 (fun a b wx => a = .int .u64 (Q0 : Int) ∧ wx = wc)
  case first =>
    go_wp2_with fail
    go_loop [18, 16] (fun a b => ∃ q r : Nat, a = .int .u64 (q : Int) ∧ b = .int .u64 (r : Int) ∧ Hid (q * y1 + r = u2) ∧ Hid (Q0 ≤ q) ∧ q ≤ 4294967297 ∧ r < 4294967296) (fun a _ => (intOf a).toNat)
    case atStart => exact ⟨p, t, rfl, rfl, hide (by rw [← unhide HP, ← unhide HT]; exact unhide G3), hide (by rw [← unhide HP]; exact unhide G1), g2, by omega⟩
    case round =>
      clear rp rp' rpy rr r6 m1 HP HT G1 G3 g2 g4 htu
      obtain ⟨q, r, rfl, rfl, H1, H2, hq, hr⟩ := hrel
      by_cases c1 : 4294967296 ≤ q
      · have tb := Dv.too_big y1 y0 u2 v0 q r (by rw [← unhide HY10]; exact hu2b) hv0 (unhide H1) (Or.inl c1)
        by_cases c2 : 4294967296 ≤ r + y1
        · have hfin := hide (Dv.brk y1 y0 u2 v0 (q - 1) (r + y1) (by rw [← unhide HY10]; exact hu2b) hy0 (Dv.next (unhide H1) (by omega)) (by omega) c2 (by omega))
          have TB := hide tb
          clear tb
          have iq : (q : Int) ≤ 4294967297 := by omega
          have ir : (r : Int) < 4294967296 := by omega
          have iy : (y1 : Int) < 4294967296 := by omega
          have iv : (v0 : Int) < 4294967296 := by omega
          have i1 : (4294967296 : Int) ≤ (q : Int) := by omega
          have i2 : (4294967296 : Int) ≤ (r : Int) + (y1 : Int) := by omega
          clear hq hr c1 c2
          generalize hqi : (q : Int) = qi at *
          have Hqi := hide hqi
          clear hqi
          generalize hri : (r : Int) = ri at *
          have Hri := hide hri
          clear hri
          generalize hy1i : (y1 : Int) = y1i at *
          have Hy1i := hide hy1i
          clear hy1i
          generalize hvi : (v0 : Int) = vi at *
          have Hvi := hide hvi
          clear hvi
          have pqi : 0 ≤ qi := by rw [← unhide Hqi]; omega
          have pri : 0 ≤ ri := by rw [← unhide Hri]; omega
          have py1i : 0 ≤ y1i := by rw [← unhide Hy1i]; omega
          have pvi : 0 ≤ vi := by rw [← unhide Hvi]; omega
          go_wp2
          have hqi := unhide Hqi
          subst hqi
          have hri := unhide Hri
          subst hri
          have hy1i := unhide Hy1i
          subst hy1i
          have hvi := unhide Hvi
          subst hvi
          go_meet
          case rel => exact ⟨int_eq (by rw [← unhide HQ0, ← unhide hfin]; omega), rfl⟩
        · have TB := hide tb
          clear tb
          have iq : (q : Int) ≤ 4294967297 := by omega
          have ir : (r : Int) < 4294967296 := by omega
          have iy : (y1 : Int) < 4294967296 := by omega
          have iv : (v0 : Int) < 4294967296 := by omega
          have i1 : (4294967296 : Int) ≤ (q : Int) := by omega
          have i2 : (r : Int) + (y1 : Int) < 4294967296 := by omega
          clear hq hr c1 c2
          generalize hqi : (q : Int) = qi at *
          have Hqi := hide hqi
          clear hqi
          generalize hri : (r : Int) = ri at *
          have Hri := hide hri
          clear hri
          generalize hy1i : (y1 : Int) = y1i at *
          have Hy1i := hide hy1i
          clear hy1i
          generalize hvi : (v0 : Int) = vi at *
          have Hvi := hide hvi
          clear hvi
          have pqi : 0 ≤ qi := by rw [← unhide Hqi]; omega
          have pri : 0 ≤ ri := by rw [← unhide Hri]; omega
          have py1i : 0 ≤ y1i := by rw [← unhide Hy1i]; omega
          have pvi : 0 ≤ vi := by rw [← unhide Hvi]; omega
          go_wp2
          have hqi := unhide Hqi
          subst hqi
          have hri := unhide Hri
          subst hri
          have hy1i := unhide Hy1i
          subst hy1i
          have hvi := unhide Hvi
          subst hvi
          go_round
          case rel => exact ⟨q - 1, r + y1, int_eq (by omega), int_eq (by omega), hide (Dv.next (unhide H1) (by omega)), hide (by have := unhide TB; have := unhide HQ0; omega), by omega, by omega⟩
          case measure => simp [intOf]; omega
      · obtain ⟨Z, hZ⟩ : ∃ Z : Nat, q * y0 = Z := ⟨_, rfl⟩
        have hZb : Z < 18446744073709551616 := by
          rw [← hZ]
          have a : q * y0 ≤ 4294967295 * y0 := Nat.mul_le_mul_right _ (by omega)
          omega
        have rz : (q : Int) * (y0 : Int) = (Z : Int) := by rw [← hZ, Int.natCast_mul]
        have HZ := hide hZ
        clear hZ
        by_cases c3 : 4294967296 * r + v0 < Z
        · have tb := Dv.too_big y1 y0 u2 v0 q r (by rw [← unhide HY10]; exact hu2b) hv0 (unhide H1) (Or.inr (by rw [unhide HZ]; exact c3))
          have hq1 : 1 ≤ q := by omega
          by_cases c2 : 4294967296 ≤ r + y1
          · have hfin := hide (Dv.brk y1 y0 u2 v0 (q - 1) (r + y1) (by rw [← unhide HY10]; exact hu2b) hy0 (Dv.next (unhide H1) (by omega)) (by omega) c2 (by omega))
            have TB := hide tb
            clear tb
            have iq : (q : Int) ≤ 4294967297 := by omega
            have ir : (r : Int) < 4294967296 := by omega
            have iy : (y1 : Int) < 4294967296 := by omega
            have iv : (v0 : Int) < 4294967296 := by omega
            have i1 : (q : Int) < 4294967296 := by omega
            have iz : (Z : Int) < 18446744073709551616 := by omega
            have i3 : 4294967296 * (r : Int) + (v0 : Int) < (Z : Int) := by omega
            have i4 : (1 : Int) ≤ (q : Int) := by omega
            have i2 : (4294967296 : Int) ≤ (r : Int) + (y1 : Int) := by omega
            clear hq hr c1 hZb c3 hq1 c2
            generalize hqi : (q : Int) = qi at *
            have Hqi := hide hqi
            clear hqi
            generalize hri : (r : Int) = ri at *
            have Hri := hide hri
            clear hri
            generalize hy1i : (y1 : Int) = y1i at *
            have Hy1i := hide hy1i
            clear hy1i
            generalize hvi : (v0 : Int) = vi at *
            have Hvi := hide hvi
            clear hvi
            generalize hzi : (Z : Int) = zi at *
            have Hzi := hide hzi
            clear hzi
            have pqi : 0 ≤ qi := by rw [← unhide Hqi]; omega
            have pri : 0 ≤ ri := by rw [← unhide Hri]; omega
            have py1i : 0 ≤ y1i := by rw [← unhide Hy1i]; omega
            have pvi : 0 ≤ vi := by rw [← unhide Hvi]; omega
            have pzi : 0 ≤ zi := by rw [← unhide Hzi]; omega
            go_wp2
            have hqi := unhide Hqi
            subst hqi
            have hri := unhide Hri
            subst hri
            have hy1i := unhide Hy1i
            subst hy1i
            have hvi := unhide Hvi
            subst hvi
            have hzi := unhide Hzi
            subst hzi
            go_meet
            case rel => exact ⟨int_eq (by rw [← unhide HQ0, ← unhide hfin]; omega), rfl⟩
          · have TB := hide tb
            clear tb
            have iq : (q : Int) ≤ 4294967297 := by omega
            have ir : (r : Int) < 4294967296 := by omega
            have iy : (y1 : Int) < 4294967296 := by omega
            have iv : (v0 : Int) < 4294967296 := by omega
            have i1 : (q : Int) < 4294967296 := by omega
            have iz : (Z : Int) < 18446744073709551616 := by omega
            have i3 : 4294967296 * (r : Int) + (v0 : Int) < (Z : Int) := by omega
            have i4 : (1 : Int) ≤ (q : Int) := by omega
            have i2 : (r : Int) + (y1 : Int) < 4294967296 := by omega
            clear hq hr c1 hZb c3 hq1 c2
            generalize hqi : (q : Int) = qi at *
            have Hqi := hide hqi
            clear hqi
            generalize hri : (r : Int) = ri at *
            have Hri := hide hri
            clear hri
            generalize hy1i : (y1 : Int) = y1i at *
            have Hy1i := hide hy1i
            clear hy1i
            generalize hvi : (v0 : Int) = vi at *
            have Hvi := hide hvi
            clear hvi
            generalize hzi : (Z : Int) = zi at *
            have Hzi := hide hzi
            clear hzi
            have pqi : 0 ≤ qi := by rw [← unhide Hqi]; omega
            have pri : 0 ≤ ri := by rw [← unhide Hri]; omega
            have py1i : 0 ≤ y1i := by rw [← unhide Hy1i]; omega
            have pvi : 0 ≤ vi := by rw [← unhide Hvi]; omega
            have pzi : 0 ≤ zi := by rw [← unhide Hzi]; omega
            go_wp2
            have hqi := unhide Hqi
            subst hqi
            have hri := unhide Hri
            subst hri
            have hy1i := unhide Hy1i
            subst hy1i
            have hvi := unhide Hvi
            subst hvi
            have hzi := unhide Hzi
            subst hzi
            go_round
            case rel => exact ⟨q - 1, r + y1, int_eq (by omega), int_eq (by omega), hide (Dv.next (unhide H1) (by omega)), hide (by have := unhide TB; have := unhide HQ0; omega), by omega, by omega⟩
            case measure => simp [intOf]; omega
        · have hfin := hide (Dv.small y1 y0 u2 v0 q r (by rw [← unhide HY10]; exact hu2b) (unhide H1) (by rw [unhide HQ0]; exact unhide H2) (by rw [unhide HZ]; omega))
          have iq : (q : Int) ≤ 4294967297 := by omega
          have ir : (r : Int) < 4294967296 := by omega
          have iy : (y1 : Int) < 4294967296 := by omega
          have iv : (v0 : Int) < 4294967296 := by omega
          have i1 : (q : Int) < 4294967296 := by omega
          have iz : (Z : Int) < 18446744073709551616 := by omega
          have i3 : (Z : Int) ≤ 4294967296 * (r : Int) + (v0 : Int) := by omega
          clear hq hr c1 hZb c3
          generalize hqi : (q : Int) = qi at *
          have Hqi := hide hqi
          clear hqi
          generalize hri : (r : Int) = ri at *
          have Hri := hide hri
          clear hri
          generalize hy1i : (y1 : Int) = y1i at *
          have Hy1i := hide hy1i
          clear hy1i
          generalize hvi : (v0 : Int) = vi at *
          have Hvi := hide hvi
          clear hvi
          generalize hzi : (Z : Int) = zi at *
          have Hzi := hide hzi
          clear hzi
          have pqi : 0 ≤ qi := by rw [← unhide Hqi]; omega
          have pri : 0 ≤ ri := by rw [← unhide Hri]; omega
          have py1i : 0 ≤ y1i := by rw [← unhide Hy1i]; omega
          have pvi : 0 ≤ vi := by rw [← unhide Hvi]; omega
          have pzi : 0 ≤ zi := by rw [← unhide Hzi]; omega
          go_wp2
          have hqi := unhide Hqi
          subst hqi
          have hri := unhide Hri
          subst hri
          have hy1i := unhide Hy1i
          subst hy1i
          have hvi := unhide Hvi
          subst hvi
          have hzi := unhide Hzi
          subst hzi
          go_meet
          case rel => exact ⟨int_eq (by rw [← unhide HQ0, ← unhide hfin]), rfl⟩
  case rest =>
  obtain ⟨rfl, rfl⟩ := hcut
  clear rp rp' rpy rr r6 HP HT G1 G3 g2 g4 htu
  obtain ⟨l1, l2, l3⟩ := Dv.left Y u2 v0 (by omega)
  have ed : Dv.dig Y u2 v0 = Q0 := by rw [unhide HY10]; exact unhide HQ0
  rw [ed] at l1 l2 l3
  have h2 := Dv.two Y u v1 v0 (by omega)
  have hb := Dv.back hi lo y s Y u v (unhide HY) (unhide HEQ)
  rw [unhide HU2E, ed, show Dv.dig Y u v1 = Q1 by rw [unhide HY10]; exact unhide HQ1, ← unhide HV10] at h2
  rw [h2.1, h2.2] at hb
  obtain ⟨u3, hu3e⟩ : ∃ u3 : Nat, (u2 * 4294967296 + v0) % Y = u3 := ⟨_, rfl⟩
  rw [hu3e] at hb
  have hu3b : u3 < Y := by rw [← hu3e, ← l2]; exact l3
  have r7 : IntKind.u64.wrap (IntKind.u64.wrap (IntKind.u64.wrap ((u2 : Int) * 4294967296) + (v0 : Int)) - IntKind.u64.wrap ((Q0 : Int) * (Y : Int))) = (u3 : Int) := by
    rw [← hu3e, ← l2, IntKind.wrap_u64, IntKind.wrap_u64, IntKind.wrap_u64, IntKind.wrap_u64, ← Int.natCast_mul]
    generalize Q0 * Y = P at *
    omega
  have HB := hide hb
  clear hb h2 ed l1 l2 l3 hu3e
  go_wp2
  go_ret2
  refine ⟨ret_ne ?_ ?_, Below.refl _ _⟩
  · rw [← (unhide HB).1]; simp
  · rw [← (unhide HB).2]; simp
end Go.Proofs.YtbeijnflfmjgfaaGreatDoor

namespace Go.Proofs.YtbeijnflfmjgfaaGreatDoor
open Go.RowKit

theorem div64_any (hi lo y : Nat) (w : World) (hhy : hi < y) (h1 : lo < 18446744073709551616) (hy1 : y < 18446744073709551616) :
    Calls Tryz.prog 172 #[.int .u64 (hi : Int), .int .u64 (lo : Int), .int .u64 (y : Int)] w fun e w' => e = .returned (.tuple #[.int .u64 (((hi * 18446744073709551616 + lo) / y : Nat) : Int), .int .u64 (((hi * 18446744073709551616 + lo) % y : Nat) : Int)]) ∧ Below w.heap.size w w' := by
  by_cases h : hi = 0
  · subst h
    rw [Nat.zero_mul, Nat.zero_add]
    exact div64_low lo y w h1 (by omega) hy1
  · exact div64_high hi lo y w (by omega) hhy h1 hy1

def nrOk (x y z : Nat) : Bool := decide (x * y / z ≤ 9000000000000000000)
def nrV (x y z : Nat) : Nat := if nrOk x y z = true then x * y / z + (if z ≤ 2 * (x * y % z) then 1 else 0) else 0

theorem nr_high (x y z : Nat) (hz : 0 < z) (h : z ≤ x * y / 18446744073709551616) : nrOk x y z = false := by
  unfold nrOk
  rw [decide_eq_false_iff_not]
  intro hc
  have : x * y / z < 9000000000000000001 := by omega
  rw [Nat.div_lt_iff_lt_mul hz] at this
  omega

set_option maxHeartbeats 400000 in
theorem nearest_any (x y z : Nat) (w : World) (hx : x < 18446744073709551616) (hy : y < 18446744073709551616) (hz0 : 0 < z) (hz : z < 18446744073709551616) :
    Calls Tryz.prog 132 #[.int .u64 (x : Int), .int .u64 (y : Int), .int .u64 (z : Int)] w fun e w' => e = .returned (.tuple #[.int .u64 ((nrV x y z : Nat) : Int), .bool (nrOk x y z)]) ∧ Below w.heap.size w w' := by
  by_cases hc : z ≤ x * y / 18446744073709551616
  · have ho := hide (nr_high x y z hz0 hc)
    unfold nrV
    rw [unhide ho]
    go_enter Tryz.func132, Tryz.ntmps132
    go_wp2_with fail
    refine (Tryz.bits_Mul64 x y hx hy _).mono ?_
    rintro e w' ⟨rfl, rfl⟩
    generalize x * y / 18446744073709551616 = hi at *
    generalize x * y % 18446744073709551616 = lo at *
    generalize hhi : (hi : Int) = hii at *
    generalize hzi : (z : Int) = zi at *
    have t : zi ≤ hii := by omega
    have H1 := hide hhi
    have H2 := hide hzi
    have H3 := hide hc
    clear hhi hzi hc
    go_wp2
    go_ret2
    exact ⟨rfl, Below.refl _ _⟩
  · have hlo : x * y % 18446744073709551616 < 18446744073709551616 := Nat.mod_lt _ (by omega)
    have hN : x * y / 18446744073709551616 * 18446744073709551616 + x * y % 18446744073709551616 = x * y := Nat.div_add_mod' _ _
    have hR : x * y % z < z := Nat.mod_lt _ hz0
    unfold nrV nrOk
    obtain ⟨Q, hQ⟩ : ∃ Q : Nat, x * y / z = Q := ⟨_, rfl⟩
    obtain ⟨R, hRe⟩ : ∃ R : Nat, x * y % z = R := ⟨_, rfl⟩
    rw [hQ, hRe]
    rw [hRe] at hR
    have HQ := hide hQ
    have HR := hide hRe
    clear hQ hRe
    have HN := hide hN
    clear hN
    by_cases hq : Q ≤ 9000000000000000000
    · rw [decide_eq_true hq, if_pos rfl]
      by_cases hr : z ≤ 2 * R
      · rw [if_pos hr]
        go_enter Tryz.func132, Tryz.ntmps132
        go_wp2_with fail
        refine (Tryz.bits_Mul64 x y hx hy _).mono ?_
        rintro e w' ⟨rfl, rfl⟩
        generalize hhi : ((x * y / 18446744073709551616 : Nat) : Int) = hii at *
        generalize hll : ((x * y % 18446744073709551616 : Nat) : Int) = loi at *
        generalize hzi : (z : Int) = zi at *
        have t : hii < zi := by omega
        have H1 := hide hhi
        have H2 := hide hzi
        have H3 := hide hll
        have H4 := hide hc
        have H5 := hide hlo
        have H6 := hide hR
        have H7 := hide hz
        have H8 := hide hz0
        have H9 := hide (And.intro hq hr)
        clear hhi hzi hll hc hlo hR hz hz0 hq hr
        go_wp2_with fail
        rw [← unhide H1, ← unhide H2, ← unhide H3]
        refine (div64_any _ _ _ _ (by have := unhide H4; omega) (unhide H5) (unhide H7)).mono ?_
        rintro e w2 ⟨rfl, hb⟩
        rw [unhide HN, unhide HQ, unhide HR]
        generalize hqi : (Q : Int) = qi at *
        generalize hri : (R : Int) = ri at *
        generalize hzj : (z : Int) = zj at *
        have H9' := unhide H9
        have H6' := unhide H6
        have hz7 := unhide H7
        have p1 : 0 ≤ qi := by omega
        have p2 : 0 ≤ ri := by omega
        have p4 : ri < zj := by omega
        have p5 : zj < 18446744073709551616 := by omega
        have p3 : qi ≤ 9000000000000000000 := by omega
        have p6 : zj - ri ≤ ri := by omega
        have G1 := hide hqi
        have G2 := hide hri
        have G3 := hide hzj
        clear hqi hri hzj H9' H6' t hz7
        go_wp2
        go_ret2
        exact ⟨by rw [Int.natCast_add, unhide G1]; rfl, hb⟩
      · rw [if_neg hr]
        go_enter Tryz.func132, Tryz.ntmps132
        go_wp2_with fail
        refine (Tryz.bits_Mul64 x y hx hy _).mono ?_
        rintro e w' ⟨rfl, rfl⟩
        generalize hhi : ((x * y / 18446744073709551616 : Nat) : Int) = hii at *
        generalize hll : ((x * y % 18446744073709551616 : Nat) : Int) = loi at *
        generalize hzi : (z : Int) = zi at *
        have t : hii < zi := by omega
        have H1 := hide hhi
        have H2 := hide hzi
        have H3 := hide hll
        have H4 := hide hc
        have H5 := hide hlo
        have H6 := hide hR
        have H7 := hide hz
        have H8 := hide hz0
        have H9 := hide (And.intro hq hr)
        clear hhi hzi hll hc hlo hR hz hz0 hq hr
        go_wp2_with fail
        rw [← unhide H1, ← unhide H2, ← unhide H3]
        refine (div64_any _ _ _ _ (by have := unhide H4; omega) (unhide H5) (unhide H7)).mono ?_
        rintro e w2 ⟨rfl, hb⟩
        rw [unhide HN, unhide HQ, unhide HR]
        generalize hqi : (Q : Int) = qi at *
        generalize hri : (R : Int) = ri at *
        generalize hzj : (z : Int) = zj at *
        have H9' := unhide H9
        have H6' := unhide H6
        have hz7 := unhide H7
        have p1 : 0 ≤ qi := by omega
        have p2 : 0 ≤ ri := by omega
        have p4 : ri < zj := by omega
        have p5 : zj < 18446744073709551616 := by omega
        have p3 : qi ≤ 9000000000000000000 := by omega
        have p6 : ri < zj - ri := by omega
        have G1 := hide hqi
        have G2 := hide hri
        have G3 := hide hzj
        clear hqi hri hzj H9' H6' t hz7
        go_wp2
        go_ret2
        exact ⟨by rw [Int.natCast_add, unhide G1]; exact congrArg (fun t => Ending.returned (.tuple #[.int .u64 t, .bool true])) (by omega), hb⟩
    · rw [decide_eq_false hq]
      have hr : True := trivial
      go_enter Tryz.func132, Tryz.ntmps132
      go_wp2_with fail
      refine (Tryz.bits_Mul64 x y hx hy _).mono ?_
      rintro e w' ⟨rfl, rfl⟩
      generalize hhi : ((x * y / 18446744073709551616 : Nat) : Int) = hii at *
      generalize hll : ((x * y % 18446744073709551616 : Nat) : Int) = loi at *
      generalize hzi : (z : Int) = zi at *
      have t : hii < zi := by omega
      have H1 := hide hhi
      have H2 := hide hzi
      have H3 := hide hll
      have H4 := hide hc
      have H5 := hide hlo
      have H6 := hide hR
      have H7 := hide hz
      have H8 := hide hz0
      have H9 := hide (And.intro hq hr)
      clear hhi hzi hll hc hlo hR hz hz0 hq hr
      go_wp2_with fail
      rw [← unhide H1, ← unhide H2, ← unhide H3]
      refine (div64_any _ _ _ _ (by have := unhide H4; omega) (unhide H5) (unhide H7)).mono ?_
      rintro e w2 ⟨rfl, hb⟩
      rw [unhide HN, unhide HQ, unhide HR]
      generalize hqi : (Q : Int) = qi at *
      generalize hri : (R : Int) = ri at *
      generalize hzj : (z : Int) = zj at *
      have H9' := unhide H9
      have H6' := unhide H6
      have hz7 := unhide H7
      have p1 : 0 ≤ qi := by omega
      have p2 : 0 ≤ ri := by omega
      have p4 : ri < zj := by omega
      have p5 : zj < 18446744073709551616 := by omega
      have p3 : 9000000000000000000 < qi := by omega
      have G1 := hide hqi
      have G2 := hide hri
      have G3 := hide hzj
      clear hqi hri hzj H9' H6' t hz7
      go_wp2
      go_ret2
      exact ⟨rfl, hb⟩

end Go.Proofs.YtbeijnflfmjgfaaGreatDoor

namespace Go.Proofs.YtbeijnflfmjgfaaGreatDoor
open Go.RowKit

theorem nrV_le (x y z : Nat) : nrV x y z ≤ 9000000000000000001 := by
  unfold nrV nrOk
  split
  · rename_i h
    have h := of_decide_eq_true h
    split <;> omega
  · omega

def scR (b : Bool) (x y z : Nat) : Int × Int := if nrOk x y z = true then (sgnN b (nrV x y z : Nat), sgnE (nrV x y z : Nat)) else (0, 5)

set_option maxHeartbeats 400000 in
theorem scaled_any (b : Bool) (x y z : Nat) (w : World) (hx : x < 18446744073709551616) (hy : y < 18446744073709551616) (hz0 : 0 < z) (hz : z < 18446744073709551616) :
    Calls Tryz.prog 89 #[.bool b, .int .u64 (x : Int), .int .u64 (y : Int), .int .u64 (z : Int)] w fun e w' => e = .returned (.tuple #[.int .i64 (scR b x y z).1, .int .i64 (scR b x y z).2]) ∧ Below w.heap.size w w' := by
  have hle := nrV_le x y z
  cases ho : nrOk x y z
  · have hs : scR b x y z = (0, 5) := by unfold scR; rw [ho]; rfl
    have HO := hide ho
    rw [hs]
    clear ho hs
    go_enter Tryz.func89, Tryz.ntmps89
    go_wp2_with fail
    refine (nearest_any x y z _ hx hy hz0 hz).mono ?_
    rintro e w' ⟨rfl, hb⟩
    rw [unhide HO]
    go_wp2
    go_ret2
    exact ⟨rfl, hb⟩
  · have hs : scR b x y z = (sgnN b (nrV x y z : Nat), sgnE (nrV x y z : Nat)) := by unfold scR; rw [ho]; rfl
    have HO := hide ho
    rw [hs]
    clear ho hs
    go_enter Tryz.func89, Tryz.ntmps89
    go_wp2_with fail
    refine (nearest_any x y z _ hx hy hz0 hz).mono ?_
    rintro e w' ⟨rfl, hb⟩
    rw [unhide HO]
    go_wp2_with fail
    refine (signed_any b _ _ (by omega) (by omega)).mono ?_
    rintro e w2 ⟨rfl, rfl⟩
    go_wp2
    go_ret2
    exact ⟨rfl, hb⟩

def mulR (a b : Int) : Int × Int := if (goodB a && goodB b) = true then scR (decide (a < 0) != decide (b < 0)) a.natAbs b.natAbs 10000 else (0, 5)

theorem below_tr {w a b : World} {o : Obj} (ha : a = w.alloc o) (hb : Below a.heap.size a b) : Below w.heap.size w b := by
  subst ha
  exact (below_alloc w o).trans (hb.mono (by simp))

set_option maxHeartbeats 400000 in
theorem mul_any (a b : Int) (w : World) :
    Calls Tryz.prog 61 #[.int .i64 a, .int .i64 b] w fun e w' => e = .returned (.tuple #[.int .i64 (mulR a b).1, .int .i64 (mulR a b).2]) ∧ Below w.heap.size w w' := by
  cases hg : (goodB a && goodB b)
  · have hs : mulR a b = (0, 5) := by unfold mulR; rw [hg]; rfl
    have HG := hide hg
    rw [hs]
    clear hg hs
    go_enter Tryz.func61, Tryz.ntmps61
    go_wp2_with fail
    refine (good2_any _ _ _ _).mono ?_
    rintro e w' ⟨rfl, rfl⟩
    rw [unhide HG]
    go_wp2
    go_ret2
    exact ⟨rfl, below_alloc _ _⟩
  · have hs : mulR a b = scR (decide (a < 0) != decide (b < 0)) a.natAbs b.natAbs 10000 := by unfold mulR; rw [hg]; rfl
    have HG := hide hg
    rw [Bool.and_eq_true, goodB_iff, goodB_iff] at hg
    obtain ⟨⟨a1, a2⟩, b1, b2⟩ := hg
    rw [hs]
    clear hs
    go_enter Tryz.func61, Tryz.ntmps61
    go_wp2_with fail
    refine (good2_any _ _ _ _).mono ?_
    rintro e w' ⟨rfl, rfl⟩
    rw [unhide HG]
    go_wp2_with fail
    refine (size_any a _ a1 a2).mono ?_
    rintro e w2 ⟨rfl, rfl⟩
    go_wp2_with fail
    refine (size_any b _ b1 b2).mono ?_
    rintro e w3 ⟨rfl, rfl⟩
    go_wp2_with fail
    refine (scaled_any _ a.natAbs b.natAbs 10000 _ (by omega) (by omega) (by omega) (by omega)).mono ?_
    rintro e w4 ⟨rfl, hb⟩
    go_wp2
    go_ret2
    exact ⟨rfl, below_tr rfl hb⟩
def divR (a b : Int) : Int × Int := if (goodB a && goodB b) = true then (if b = 0 then (0, 6) else scR (decide (a < 0) != decide (b < 0)) a.natAbs 10000 b.natAbs) else (0, 5)

set_option maxHeartbeats 400000 in
theorem div_any (a b : Int) (w : World) :
    Calls Tryz.prog 52 #[.int .i64 a, .int .i64 b] w fun e w' => e = .returned (.tuple #[.int .i64 (divR a b).1, .int .i64 (divR a b).2]) ∧ Below w.heap.size w w' := by
  cases hg : (goodB a && goodB b)
  · have hs : divR a b = (0, 5) := by unfold divR; rw [hg]; rfl
    have HG := hide hg
    rw [hs]
    clear hg hs
    go_enter Tryz.func52, Tryz.ntmps52
    go_wp2_with fail
    refine (good2_any _ _ _ _).mono ?_
    rintro e w' ⟨rfl, rfl⟩
    rw [unhide HG]
    go_wp2
    go_ret2
    exact ⟨rfl, below_alloc _ _⟩
  · have hs : divR a b = (if b = 0 then (0, 6) else scR (decide (a < 0) != decide (b < 0)) a.natAbs 10000 b.natAbs) := by unfold divR; rw [hg]; rfl
    have HG := hide hg
    rw [Bool.and_eq_true, goodB_iff, goodB_iff] at hg
    obtain ⟨⟨a1, a2⟩, b1, b2⟩ := hg
    rw [hs]
    clear hs
    by_cases hb0 : b = 0
    · rw [if_pos hb0]
      have hbb : (b == 0) = true := by rw [beq_iff_eq]; exact hb0
      have HB0 := hide hb0
      clear hb0
      go_enter Tryz.func52, Tryz.ntmps52
      go_wp2_with fail
      refine (good2_any _ _ _ _).mono ?_
      rintro e w' ⟨rfl, rfl⟩
      rw [unhide HG]
      go_wp2
      go_ret2
      exact ⟨rfl, below_alloc _ _⟩
    · rw [if_neg hb0]
      have hbb : (b == 0) = false := by rw [beq_eq_false_iff_ne]; exact hb0
      have HB0 := hide hb0
      clear hb0
      go_enter Tryz.func52, Tryz.ntmps52
      go_wp2_with fail
      refine (good2_any _ _ _ _).mono ?_
      rintro e w' ⟨rfl, rfl⟩
      rw [unhide HG]
      go_wp2_with fail
      refine (size_any a _ a1 a2).mono ?_
      rintro e w2 ⟨rfl, rfl⟩
      go_wp2_with fail
      refine (size_any b _ b1 b2).mono ?_
      rintro e w3 ⟨rfl, rfl⟩
      go_wp2_with fail
      refine (scaled_any _ a.natAbs 10000 b.natAbs _ (by omega) (by omega) (by have := unhide HB0; omega) (by omega)).mono ?_
      rintro e w4 ⟨rfl, hb⟩
      go_wp2
      go_ret2
      exact ⟨rfl, below_tr rfl hb⟩

def modV (a b : Int) : Int := if a.tmod b ≠ 0 ∧ (decide (a.tmod b < 0) != decide (b < 0)) = true then a.tmod b + b else a.tmod b
def modR (a b : Int) : Int × Int := if (goodB a && goodB b) = true then (if b = 0 then (0, 6) else (modV a b, 0)) else (0, 5)

theorem tmod_bounds (a b : Int) (ha1 : -9000000000000000000 ≤ a) (ha2 : a ≤ 9000000000000000000) (hb : b ≠ 0) :
    -9000000000000000000 ≤ a.tmod b ∧ a.tmod b ≤ 9000000000000000000 ∧ (a.tmod b).natAbs < b.natAbs := by
  have h1 : (a.tmod b).natAbs = a.natAbs % b.natAbs := Int.natAbs_tmod a b
  have h2 : a.natAbs % b.natAbs < b.natAbs := Nat.mod_lt _ (by omega)
  have h3 : a.natAbs % b.natAbs ≤ a.natAbs := Nat.mod_le _ _
  omega

set_option maxHeartbeats 400000 in
theorem mod_any (a b : Int) (w : World) :
    Calls Tryz.prog 98 #[.int .i64 a, .int .i64 b] w fun e w' => e = .returned (.tuple #[.int .i64 (modR a b).1, .int .i64 (modR a b).2]) ∧ Below w.heap.size w w' := by
  cases hg : (goodB a && goodB b)
  · have hs : modR a b = (0, 5) := by unfold modR; rw [hg]; rfl
    have HG := hide hg
    rw [hs]
    clear hg hs
    go_enter Tryz.func98, Tryz.ntmps98
    go_wp2_with fail
    refine (good2_any _ _ _ _).mono ?_
    rintro e w' ⟨rfl, rfl⟩
    rw [unhide HG]
    go_wp2
    go_ret2
    exact ⟨rfl, below_alloc _ _⟩
  · have hs : modR a b = (if b = 0 then (0, 6) else (modV a b, 0)) := by unfold modR; rw [hg]; rfl
    have HG := hide hg
    rw [Bool.and_eq_true, goodB_iff, goodB_iff] at hg
    obtain ⟨⟨a1, a2⟩, b1, b2⟩ := hg
    rw [hs]
    clear hs
    by_cases hb0 : b = 0
    · rw [if_pos hb0]
      have hbb : (b == 0) = true := by rw [beq_iff_eq]; exact hb0
      have HB0 := hide hb0
      clear hb0
      go_enter Tryz.func98, Tryz.ntmps98
      go_wp2_with fail
      refine (good2_any _ _ _ _).mono ?_
      rintro e w' ⟨rfl, rfl⟩
      rw [unhide HG]
      go_wp2
      go_ret2
      exact ⟨rfl, below_alloc _ _⟩
    · rw [if_neg hb0]
      have hbb : (b == 0) = false := by rw [beq_eq_false_iff_ne]; exact hb0
      obtain ⟨m1, m2, m3⟩ := tmod_bounds a b a1 a2 hb0
      have HB0 := hide hb0
      clear hb0
      unfold modV
      by_cases hr0 : a.tmod b = 0
      · rw [if_neg (fun h => h.1 hr0), hr0]
        have hrr : (a.tmod b == 0) = true := by rw [beq_iff_eq]; exact hr0
        have HR0 := hide hr0
        go_enter Tryz.func98, Tryz.ntmps98
        go_wp2_with fail
        refine (good2_any _ _ _ _).mono ?_
        rintro e w' ⟨rfl, rfl⟩
        rw [unhide HG]
        go_wp2
        go_ret2
        exact ⟨rfl, below_alloc _ _⟩
      · have hrr : (a.tmod b == 0) = false := by rw [beq_eq_false_iff_ne]; exact hr0
        have hrn : (a.tmod b != 0) = true := by rw [bne_iff_ne]; exact hr0
        by_cases s1 : a.tmod b < 0 <;> by_cases s2 : b < 0
        · rw [if_neg (fun h => by simp [s1, s2] at h)]
          have HR0 := hide hr0
          clear hr0
          have d1 : decide (a.tmod b < 0) = true := by simpa using s1
          have d2 : decide (b < 0) = true := by simpa using s2
          go_enter Tryz.func98, Tryz.ntmps98
          go_wp2_with fail
          refine (good2_any _ _ _ _).mono ?_
          rintro e w' ⟨rfl, rfl⟩
          rw [unhide HG]
          go_wp2
          go_ret2
          exact ⟨rfl, below_alloc _ _⟩
        · rw [if_pos ⟨hr0, by simp [s1, s2]⟩]
          have HR0 := hide hr0
          clear hr0
          have d1 : decide (a.tmod b < 0) = true := by simpa using s1
          have d2 : decide (b < 0) = false := by simpa using s2
          obtain ⟨n1, n2⟩ : -9000000000000000000 ≤ a.tmod b + b ∧ a.tmod b + b ≤ 9000000000000000000 := by omega
          go_enter Tryz.func98, Tryz.ntmps98
          go_wp2_with fail
          refine (good2_any _ _ _ _).mono ?_
          rintro e w' ⟨rfl, rfl⟩
          rw [unhide HG]
          go_wp2
          go_ret2
          exact ⟨rfl, below_alloc _ _⟩
        · rw [if_pos ⟨hr0, by simp [s1, s2]⟩]
          have HR0 := hide hr0
          clear hr0
          have d1 : decide (a.tmod b < 0) = false := by simpa using s1
          have d2 : decide (b < 0) = true := by simpa using s2
          obtain ⟨n1, n2⟩ : -9000000000000000000 ≤ a.tmod b + b ∧ a.tmod b + b ≤ 9000000000000000000 := by omega
          go_enter Tryz.func98, Tryz.ntmps98
          go_wp2_with fail
          refine (good2_any _ _ _ _).mono ?_
          rintro e w' ⟨rfl, rfl⟩
          rw [unhide HG]
          go_wp2
          go_ret2
          exact ⟨rfl, below_alloc _ _⟩
        · rw [if_neg (fun h => by simp [s1, s2] at h)]
          have HR0 := hide hr0
          clear hr0
          have d1 : decide (a.tmod b < 0) = false := by simpa using s1
          have d2 : decide (b < 0) = false := by simpa using s2
          go_enter Tryz.func98, Tryz.ntmps98
          go_wp2_with fail
          refine (good2_any _ _ _ _).mono ?_
          rintro e w' ⟨rfl, rfl⟩
          rw [unhide HG]
          go_wp2
          go_ret2
          exact ⟨rfl, below_alloc _ _⟩
end Go.Proofs.YtbeijnflfmjgfaaGreatDoor

namespace Go.Proofs.YtbeijnflfmjgfaaGreatDoor
open Go.RowKit

theorem modV_pos (a b : Int) (hb : 0 < b) : 0 ≤ modV a b ∧ modV a b < b ∧ (∃ k, a = k * b + modV a b) := by
  unfold modV
  have h0 : a.tdiv b * b + a.tmod b = a := Int.tdiv_mul_add_tmod a b
  have h1 : (a.tmod b).natAbs = a.natAbs % b.natAbs := Int.natAbs_tmod a b
  have h2 : a.natAbs % b.natAbs < b.natAbs := Nat.mod_lt _ (by omega)
  have d2 : decide (b < 0) = false := by rw [decide_eq_false_iff_not]; omega
  rw [d2]
  split
  · rename_i h
    have h3 : a.tmod b < 0 := by have := h.2; simpa using this
    refine ⟨by omega, by omega, a.tdiv b - 1, ?_⟩
    rw [Int.sub_mul]; omega
  · rename_i h
    have h3 : 0 ≤ a.tmod b := by
      rw [← Int.not_lt]
      intro hc
      exact h ⟨by omega, by simpa using hc⟩
    exact ⟨h3, by omega, a.tdiv b, by omega⟩

def floorV (a : Int) : Int := if goodB a = true then a - modV a 10000 else 0
def wholeV (a : Int) : Int := if goodB a = true then a.tdiv 10000 else 0

set_option maxHeartbeats 400000 in
theorem floor_any (a : Int) (w : World) :
    Calls Tryz.prog 136 #[.int .i64 a] w fun e w' => e = .returned (.int .i64 (floorV a)) ∧ Below w.heap.size w w' := by
  cases hg : goodB a
  · have hs : floorV a = 0 := by unfold floorV; rw [hg]; rfl
    have HG := hide hg
    rw [hs]
    clear hg hs
    go_enter Tryz.func136, Tryz.ntmps136
    go_wp2_with fail
    refine (good1_any _ _ _).mono ?_
    rintro e w' ⟨rfl, rfl⟩
    rw [unhide HG]
    go_wp2
    go_ret
    exact ⟨rfl, below_alloc _ _⟩
  · have hs : floorV a = a - modV a 10000 := by unfold floorV; rw [hg]; rfl
    have hm : modR a 10000 = (modV a 10000, 0) := by
      unfold modR
      have : (goodB a && goodB 10000) = true := by rw [hg]; decide
      rw [this]; rfl
    have HM := hide hm
    have HG := hide hg
    rw [goodB_iff] at hg
    obtain ⟨a1, a2⟩ := hg
    obtain ⟨p1, p2, _⟩ := modV_pos a 10000 (by omega)
    rw [hs]
    clear hs hm
    go_enter Tryz.func136, Tryz.ntmps136
    go_wp2_with fail
    refine (good1_any _ _ _).mono ?_
    rintro e w' ⟨rfl, rfl⟩
    rw [unhide HG]
    go_wp2_with fail
    refine (mod_any a 10000 _).mono ?_
    rintro e w2 ⟨rfl, hb⟩
    rw [unhide HM]
    go_wp2
    go_ret
    exact ⟨rfl, below_tr rfl hb⟩

set_option maxHeartbeats 400000 in
theorem whole_any (a : Int) (w : World) :
    Calls Tryz.prog 115 #[.int .i64 a] w fun e w' => e = .returned (.int .i64 (wholeV a)) ∧ Below w.heap.size w w' := by
  cases hg : goodB a
  · have hs : wholeV a = 0 := by unfold wholeV; rw [hg]; rfl
    have HG := hide hg
    rw [hs]
    clear hg hs
    go_enter Tryz.func115, Tryz.ntmps115
    go_wp2_with fail
    refine (good1_any _ _ _).mono ?_
    rintro e w' ⟨rfl, rfl⟩
    rw [unhide HG]
    go_wp2
    go_ret
    exact ⟨rfl, below_alloc _ _⟩
  · have hs : wholeV a = a.tdiv 10000 := by unfold wholeV; rw [hg]; rfl
    have HG := hide hg
    rw [goodB_iff] at hg
    obtain ⟨a1, a2⟩ := hg
    have hn : (a.tdiv 10000).natAbs = a.natAbs / 10000 := Int.natAbs_tdiv a 10000
    obtain ⟨t1, t2⟩ : -9000000000000000000 ≤ a.tdiv 10000 ∧ a.tdiv 10000 ≤ 9000000000000000000 := by omega
    rw [hs]
    clear hs hn
    go_enter Tryz.func115, Tryz.ntmps115
    go_wp2_with fail
    refine (good1_any _ _ _).mono ?_
    rintro e w' ⟨rfl, rfl⟩
    rw [unhide HG]
    go_wp2
    go_ret
    exact ⟨rfl, below_alloc _ _⟩

def rndS (a : Int) (n : Int) : Nat := nrV a.natAbs 1 (10 ^ (4 - n).toNat) * 10 ^ (4 - n).toNat
def roundR (a n : Int) : Int × Int :=
  if goodB a = true then (if n < -15 ∨ 15 < n then (0, 2) else if 4 ≤ n then (a, 0) else (sgnN (decide (a < 0)) (rndS a n : Nat), sgnE (rndS a n : Nat))) else (0, 5)

theorem nr_one (x z : Nat) (_hz : 0 < z) (hx : x ≤ 9000000000000000000) : nrOk x 1 z = true ∧ nrV x 1 z * z ≤ x + z / 2 := by
  have h : x / z ≤ x := Nat.div_le_self _ _
  have ho : nrOk x 1 z = true := by unfold nrOk; rw [Nat.mul_one]; exact decide_eq_true (by omega)
  refine ⟨ho, ?_⟩
  unfold nrV
  rw [ho, if_pos rfl, Nat.mul_one, Nat.add_mul]
  have h2 : x / z * z + x % z = x := Nat.div_add_mod' x z
  split
  · omega
  · omega

set_option maxHeartbeats 400000 in
theorem round_any (a n : Int) (w : World) :
    Calls Tryz.prog 138 #[.int .i64 a, .int .i64 n] w fun e w' => e = .returned (.tuple #[.int .i64 (roundR a n).1, .int .i64 (roundR a n).2]) ∧ Below w.heap.size w w' := by
  cases hg : goodB a
  · have hs : roundR a n = (0, 5) := by unfold roundR; rw [hg]; rfl
    have HG := hide hg
    rw [hs]
    clear hg hs
    go_enter Tryz.func138, Tryz.ntmps138
    go_wp2_with fail
    refine (good1_any _ _ _).mono ?_
    rintro e w' ⟨rfl, rfl⟩
    rw [unhide HG]
    go_wp2
    go_ret2
    exact ⟨rfl, below_alloc _ _⟩
  · have HG := hide hg
    unfold roundR
    rw [if_pos hg]
    rw [goodB_iff] at hg
    obtain ⟨a1, a2⟩ := hg
    by_cases h1 : n < -15
    · rw [if_pos (Or.inl h1)]
      go_enter Tryz.func138, Tryz.ntmps138
      go_wp2_with fail
      refine (good1_any _ _ _).mono ?_
      rintro e w' ⟨rfl, rfl⟩
      rw [unhide HG]
      go_wp2
      go_ret2
      exact ⟨rfl, below_alloc _ _⟩
    by_cases h2 : 15 < n
    · rw [if_pos (Or.inr h2)]
      go_enter Tryz.func138, Tryz.ntmps138
      go_wp2_with fail
      refine (good1_any _ _ _).mono ?_
      rintro e w' ⟨rfl, rfl⟩
      rw [unhide HG]
      go_wp2
      go_ret2
      exact ⟨rfl, below_alloc _ _⟩
    rw [if_neg (by omega)]
    by_cases h3 : 4 ≤ n
    · rw [if_pos h3]
      go_enter Tryz.func138, Tryz.ntmps138
      go_wp2_with fail
      refine (good1_any _ _ _).mono ?_
      rintro e w' ⟨rfl, rfl⟩
      rw [unhide HG]
      go_wp2
      go_ret2
      exact ⟨rfl, below_alloc _ _⟩
    rw [if_neg h3]
    obtain ⟨k, hk⟩ : ∃ k : Nat, 4 - n = (k : Int) := ⟨(4 - n).toNat, by omega⟩
    have hk19 : k ≤ 19 := by omega
    unfold rndS
    rw [hk, Int.toNat_natCast]
    have hp0 : 0 < 10 ^ k := Nat.pow_pos (by omega)
    have hp : 10 ^ k ≤ 10 ^ 19 := Nat.pow_le_pow_right (by omega) hk19
    have hx : (10 ^ 19 : Nat) = 10000000000000000000 := by decide
    rw [hx] at hp
    have ho := hide (nr_one a.natAbs (10 ^ k) hp0 (by omega)).1
    have hle := (nr_one a.natAbs (10 ^ k) hp0 (by omega)).2
    have HK := hide hk
    have HP := hide hp
    have HP0 := hide hp0
    clear hx
    obtain ⟨S, hS⟩ : ∃ S : Nat, 10 ^ k = S := ⟨_, rfl⟩
    rw [hS] at hle hp hp0
    have rS : ((nrV a.natAbs 1 S : Nat) : Int) * (S : Int) = ((nrV a.natAbs 1 S * S : Nat) : Int) := (Int.natCast_mul _ _).symm
    rw [hS] at ho
    rw [hS]
    obtain ⟨T, hT⟩ : ∃ T : Nat, nrV a.natAbs 1 S * S = T := ⟨_, rfl⟩
    rw [hT] at rS hle
    rw [hT]
    have HS := hide hS
    have HT := hide hT
    have RS := hide rS
    clear hk hS hT rS
    go_enter Tryz.func138, Tryz.ntmps138
    go_wp2_with fail
    refine (good1_any _ _ _).mono ?_
    rintro e w' ⟨rfl, rfl⟩
    rw [unhide HG]
    go_wp2_with fail
    rw [unhide HK]
    refine (power_any k _ hk19).mono ?_
    rintro e w2 ⟨rfl, rfl⟩
    rw [unhide HS]
    go_wp2_with fail
    refine (size_any a _ a1 a2).mono ?_
    rintro e w3 ⟨rfl, rfl⟩
    go_wp2_with fail
    refine (nearest_any a.natAbs 1 S _ (by omega) (by omega) hp0 (by omega)).mono ?_
    rintro e w4 ⟨rfl, hb⟩
    rw [unhide ho]
    have rS := unhide RS
    have hT2 : (T : Int) < 18446744073709551616 := by omega
    generalize nrV a.natAbs 1 S = Q at *
    go_wp2_with fail
    refine (signed_any _ _ _ (by omega) (by omega)).mono ?_
    rintro e w5 ⟨rfl, rfl⟩
    go_wp2
    go_ret2
    exact ⟨rfl, below_tr rfl hb⟩
end Go.Proofs.YtbeijnflfmjgfaaGreatDoor
