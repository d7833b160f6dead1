/- The contract of math/bits.Div64. -/
import Derived.Test.YtloamahbghjjgaaGreatDoorFxB
import Derived.Test.YtloamahbghjjgaaGreatDoorFxM
import Derived.Test.YtloamahbghjjgaaGreatDoorShelf
import Derived.Laws.Bits64b
import Derived.Deep.QuietTactic
import Derived.BigQuiet
import Derived.Deep.CutRange
import Derived.Deep.CutBlock
import Derived.WalkSmall
namespace Go.Proofs.YtloamahbghjjgaaGreatDoor
open Go.RowKit

set_option maxHeartbeats 400000 in
theorem div64_low (lo y : Nat) (w : World) (h1 : lo < 18446744073709551616) (hy0 : 0 < y) (hy1 : y < 18446744073709551616) :
    Calls Tryz.prog 214 #[.int .u64 0, .int .u64 (lo : Int), .int .u64 (y : Int)] w fun e w' => e = .returned (.tuple #[.int .u64 ((lo / y : Nat) : Int), .int .u64 ((lo % y : Nat) : Int)]) ∧ Below w.heap.size w w' := by
  have hne : ((y : Int) == 0) = false := by rw [beq_eq_false_iff_ne]; omega
  go_enter Tryz.func214, Tryz.ntmps214
  go_wp2
  go_quiet (fail)
  go_wp2
  go_ret2
  refine ⟨ret_ne ?_ rfl, below_drewN (Below.refl _ _) _⟩
  have : lo / y ≤ lo := Nat.div_le_self _ _
  exact Mul64.wrapN (lo / y) (by omega)

theorem int_eq {k : IntKind} {a b : Int} (h : a = b) : Value.int k a = Value.int k b := by rw [h]

set_option maxRecDepth 100000 in
set_option maxHeartbeats 1000000 in
theorem div64_high (hi lo y : Nat) (w : World) (hh : 0 < hi) (hhy : hi < y) (h1 : lo < 18446744073709551616) (hy1 : y < 18446744073709551616) :
    Calls Tryz.prog 214 #[.int .u64 (hi : Int), .int .u64 (lo : Int), .int .u64 (y : Int)] w fun e w' => e = .returned (.tuple #[.int .u64 (((hi * 18446744073709551616 + lo) / y : Nat) : Int), .int .u64 (((hi * 18446744073709551616 + lo) % y : Nat) : Int)]) ∧ Below w.heap.size w w' := by
  have hne : ((y : Int) == 0) = false := by rw [beq_eq_false_iff_ne]; omega
  have hnh : ((hi : Int) == 0) = false := by rw [beq_eq_false_iff_ne]; omega
  have hnle : ¬ (y : Int) ≤ (hi : Int) := by omega
  obtain ⟨s, Y, H, L, u, v, hs, hs2, hY, hY1, hY2, hH, hH2, hL, hL2, hu, hu2, hv, hv2, heq⟩ := Dv.norm hi lo y hhy h1 hy1
  have HEQ := hide heq
  have HY := hide hY
  clear heq
  have rs : (64 - ((Lib.bitLen (y : Int).toNat : Nat) : Int)) = (s : Int) := by rw [Int.toNat_natCast]; omega
  have RS := hide rs
  clear rs
  have HS := hide hs
  clear hs
  have m1 : min s 64 = s := by omega
  have m2 : (64 - (s : Int)).toNat = 64 - s := by omega
  have m3 : min (64 - s) 64 = 64 - s := by omega
  have r1 : (y : Int) * 2 ^ s = (Y : Int) := by rw [← hY]; simp
  have r2 : (hi : Int) * 2 ^ s = (H : Int) := by rw [← hH]; simp
  have r3 : (lo : Int) / 2 ^ (64 - s) = (L : Int) := by rw [← hL]; simp
  have r4 : bits BinOp.or IntKind.u64 (H : Int) (L : Int) = (u : Int) := by rw [← hu]; exact bits_or_u64_nat H L hH2 hL2
  have r5 : IntKind.u64.wrap ((lo : Int) * 2 ^ s) = (v : Int) := by rw [IntKind.wrap_u64, ← hv]; simp
  obtain ⟨y1, y0, hy10, hy0, ry1, ry0⟩ : ∃ y1 y0 : Nat, Y = y1 * 4294967296 + y0 ∧ y0 < 4294967296 ∧ (Y : Int) / 4294967296 = (y1 : Int) ∧ bits BinOp.and IntKind.u64 (Y : Int) 4294967295 = (y0 : Int) :=
    ⟨Y / 4294967296, Y % 4294967296, by omega, by omega, by omega, Mul64.maskN Y hY2⟩
  obtain ⟨v1, v0, hv10, hv0, rv1, rv0⟩ : ∃ v1 v0 : Nat, v = v1 * 4294967296 + v0 ∧ v0 < 4294967296 ∧ (v : Int) / 4294967296 = (v1 : Int) ∧ bits BinOp.and IntKind.u64 (v : Int) 4294967295 = (v0 : Int) :=
    ⟨v / 4294967296, v % 4294967296, by omega, by omega, by omega, Mul64.maskN v hv2⟩
  have hy1b : 2147483648 ≤ y1 := by omega
  have hv1b : v1 < 4294967296 := by omega
  have hy1c : y1 < 4294967296 := by omega
  have HY10 := hide hy10
  have HV10 := hide hv10
  clear hy10 hv10 hY hH hL hu hv
  obtain ⟨f1, f2, f3, f4⟩ := Dv.first y1 y0 u v1 (by rw [← unhide HY10]; exact hu2) hv1b hy0 hy1b
  have F1 := hide f1
  have F3 := hide f3
  clear f1 f3
  obtain ⟨q, r, hq, hr⟩ : ∃ q r : Nat, u / y1 = q ∧ u % y1 = r := ⟨_, _, rfl, rfl⟩
  have rq : (u : Int).tdiv (y1 : Int) = (q : Int) := by rw [← hq]; rfl
  have rq' : (u : Int) / (y1 : Int) = (q : Int) := by rw [← hq]; rfl
  have HQ := hide hq
  have HR := hide hr
  have rqy : (q : Int) * (y1 : Int) = (u : Int) - (r : Int) := by
    have h := unhide F3
    rw [hq, hr] at h
    have h2 : ((q * y1 : Nat) : Int) + (r : Int) = (u : Int) := by rw [← Int.natCast_add, h]
    rw [Int.natCast_mul] at h2; omega
  have hru : r ≤ u := by rw [← hr]; exact Nat.mod_le _ _
  rw [hq] at f2
  rw [hr] at f4
  clear hq hr
  have rr : (u : Int) - ((u : Int) - (r : Int)) = (r : Int) := by omega
  obtain ⟨Q1, hQ1⟩ : ∃ Q1 : Nat, Dv.dig (y1 * 4294967296 + y0) u v1 = Q1 := ⟨_, rfl⟩
  have HQ1 := hide hQ1
  rw [hQ1] at F1
  have hQ1b : Q1 < 4294967296 := by rw [← hQ1]; exact Dv.dig_lt _ u v1 (by rw [← unhide HY10]; exact hu2) hv1b
  clear hQ1
  go_enter Tryz.func214, Tryz.ntmps214
  go_wp2_with fail
  refine (Tryz.bits_LeadingZeros64 _ _ (by omega) (by omega)).mono ?_
  rintro e w' ⟨rfl, rfl⟩
  rw [unhide RS]
  go_upto_block 0 with fail
  go_cut [15, 16] from 67 to 85 (fun a b wx => a = .int .u64 (Q1 : Int) ∧ wx = w')
  case first =>
    go_wp2_with fail
    go_loop [15, 16] (fun a b => ∃ q r : Nat, a = .int .u64 (q : Int) ∧ b = .int .u64 (r : Int) ∧ Hid (q * y1 + r = u) ∧ Hid (Q1 ≤ q) ∧ q ≤ 4294967297 ∧ r < 4294967296) (fun a _ => (intOf a).toNat)
    case atStart => exact ⟨q, r, rfl, rfl, hide (by rw [← unhide HQ, ← unhide HR]; exact unhide F3), hide (by rw [← unhide HQ]; exact unhide F1), f2, by omega⟩
    case round =>
      clear rq rq' rqy rr r1 r2 r3 r4 r5 ry1 ry0 rv1 rv0 m1 m2 m3 HQ HR F1 F3 f2 f4 hru
      obtain ⟨q, r, rfl, rfl, H1, H2, hq, hr⟩ := hrel
      by_cases c1 : 4294967296 ≤ q
      · have tb := Dv.too_big y1 y0 u v1 q r (by rw [← unhide HY10]; exact hu2) hv1b (unhide H1) (Or.inl c1)
        by_cases c2 : 4294967296 ≤ r + y1
        · have hfin := hide (Dv.brk y1 y0 u v1 (q - 1) (r + y1) (by rw [← unhide HY10]; exact hu2) hy0 (Dv.next (unhide H1) (by omega)) (by omega) c2 (by omega))
          have TB := hide tb
          clear tb
          have iq : (q : Int) ≤ 4294967297 := by omega
          have ir : (r : Int) < 4294967296 := by omega
          have iy : (y1 : Int) < 4294967296 := by omega
          have iv : (v1 : Int) < 4294967296 := by omega
          have i1 : (4294967296 : Int) ≤ (q : Int) := by omega
          have i2 : (4294967296 : Int) ≤ (r : Int) + (y1 : Int) := by omega
          clear hq hr c1 c2
          generalize hqi : (q : Int) = qi at *
          have Hqi := hide hqi
          clear hqi
          generalize hri : (r : Int) = ri at *
          have Hri := hide hri
          clear hri
          generalize hy1i : (y1 : Int) = y1i at *
          have Hy1i := hide hy1i
          clear hy1i
          generalize hvi : (v1 : Int) = vi at *
          have Hvi := hide hvi
          clear hvi
          have pqi : 0 ≤ qi := by rw [← unhide Hqi]; omega
          have pri : 0 ≤ ri := by rw [← unhide Hri]; omega
          have py1i : 0 ≤ y1i := by rw [← unhide Hy1i]; omega
          have pvi : 0 ≤ vi := by rw [← unhide Hvi]; omega
          go_wp2
          have hqi := unhide Hqi
          subst hqi
          have hri := unhide Hri
          subst hri
          have hy1i := unhide Hy1i
          subst hy1i
          have hvi := unhide Hvi
          subst hvi
          go_meet
          case rel => exact ⟨int_eq (by rw [← unhide HQ1, ← unhide hfin]; omega), rfl⟩
        · have TB := hide tb
          clear tb
          have iq : (q : Int) ≤ 4294967297 := by omega
          have ir : (r : Int) < 4294967296 := by omega
          have iy : (y1 : Int) < 4294967296 := by omega
          have iv : (v1 : Int) < 4294967296 := by omega
          have i1 : (4294967296 : Int) ≤ (q : Int) := by omega
          have i2 : (r : Int) + (y1 : Int) < 4294967296 := by omega
          clear hq hr c1 c2
          generalize hqi : (q : Int) = qi at *
          have Hqi := hide hqi
          clear hqi
          generalize hri : (r : Int) = ri at *
          have Hri := hide hri
          clear hri
          generalize hy1i : (y1 : Int) = y1i at *
          have Hy1i := hide hy1i
          clear hy1i
          generalize hvi : (v1 : Int) = vi at *
          have Hvi := hide hvi
          clear hvi
          have pqi : 0 ≤ qi := by rw [← unhide Hqi]; omega
          have pri : 0 ≤ ri := by rw [← unhide Hri]; omega
          have py1i : 0 ≤ y1i := by rw [← unhide Hy1i]; omega
          have pvi : 0 ≤ vi := by rw [← unhide Hvi]; omega
          go_wp2
          have hqi := unhide Hqi
          subst hqi
          have hri := unhide Hri
          subst hri
          have hy1i := unhide Hy1i
          subst hy1i
          have hvi := unhide Hvi
          subst hvi
          go_round
          case rel => exact ⟨q - 1, r + y1, int_eq (by omega), int_eq (by omega), hide (Dv.next (unhide H1) (by omega)), hide (by have := unhide TB; have := unhide HQ1; omega), by omega, by omega⟩
          case measure => simp [intOf]; omega
      · obtain ⟨Z, hZ⟩ : ∃ Z : Nat, q * y0 = Z := ⟨_, rfl⟩
        have hZb : Z < 18446744073709551616 := by
          rw [← hZ]
          have a : q * y0 ≤ 4294967295 * y0 := Nat.mul_le_mul_right _ (by omega)
          omega
        have rz : (q : Int) * (y0 : Int) = (Z : Int) := by rw [← hZ, Int.natCast_mul]
        have HZ := hide hZ
        clear hZ
        by_cases c3 : 4294967296 * r + v1 < Z
        · have tb := Dv.too_big y1 y0 u v1 q r (by rw [← unhide HY10]; exact hu2) hv1b (unhide H1) (Or.inr (by rw [unhide HZ]; exact c3))
          have hq1 : 1 ≤ q := by omega
          by_cases c2 : 4294967296 ≤ r + y1
          · have hfin := hide (Dv.brk y1 y0 u v1 (q - 1) (r + y1) (by rw [← unhide HY10]; exact hu2) hy0 (Dv.next (unhide H1) (by omega)) (by omega) c2 (by omega))
            have TB := hide tb
            clear tb
            have iq : (q : Int) ≤ 4294967297 := by omega
            have ir : (r : Int) < 4294967296 := by omega
            have iy : (y1 : Int) < 4294967296 := by omega
            have iv : (v1 : Int) < 4294967296 := by omega
            have i1 : (q : Int) < 4294967296 := by omega
            have iz : (Z : Int) < 18446744073709551616 := by omega
            have i3 : 4294967296 * (r : Int) + (v1 : Int) < (Z : Int) := by omega
            have i4 : (1 : Int) ≤ (q : Int) := by omega
            have i2 : (4294967296 : Int) ≤ (r : Int) + (y1 : Int) := by omega
            clear hq hr c1 hZb c3 hq1 c2
            generalize hqi : (q : Int) = qi at *
            have Hqi := hide hqi
            clear hqi
            generalize hri : (r : Int) = ri at *
            have Hri := hide hri
            clear hri
            generalize hy1i : (y1 : Int) = y1i at *
            have Hy1i := hide hy1i
            clear hy1i
            generalize hvi : (v1 : Int) = vi at *
            have Hvi := hide hvi
            clear hvi
            generalize hzi : (Z : Int) = zi at *
            have Hzi := hide hzi
            clear hzi
            have pqi : 0 ≤ qi := by rw [← unhide Hqi]; omega
            have pri : 0 ≤ ri := by rw [← unhide Hri]; omega
            have py1i : 0 ≤ y1i := by rw [← unhide Hy1i]; omega
            have pvi : 0 ≤ vi := by rw [← unhide Hvi]; omega
            have pzi : 0 ≤ zi := by rw [← unhide Hzi]; omega
            go_wp2
            have hqi := unhide Hqi
            subst hqi
            have hri := unhide Hri
            subst hri
            have hy1i := unhide Hy1i
            subst hy1i
            have hvi := unhide Hvi
            subst hvi
            have hzi := unhide Hzi
            subst hzi
            go_meet
            case rel => exact ⟨int_eq (by rw [← unhide HQ1, ← unhide hfin]; omega), rfl⟩
          · have TB := hide tb
            clear tb
            have iq : (q : Int) ≤ 4294967297 := by omega
            have ir : (r : Int) < 4294967296 := by omega
            have iy : (y1 : Int) < 4294967296 := by omega
            have iv : (v1 : Int) < 4294967296 := by omega
            have i1 : (q : Int) < 4294967296 := by omega
            have iz : (Z : Int) < 18446744073709551616 := by omega
            have i3 : 4294967296 * (r : Int) + (v1 : Int) < (Z : Int) := by omega
            have i4 : (1 : Int) ≤ (q : Int) := by omega
            have i2 : (r : Int) + (y1 : Int) < 4294967296 := by omega
            clear hq hr c1 hZb c3 hq1 c2
            generalize hqi : (q : Int) = qi at *
            have Hqi := hide hqi
            clear hqi
            generalize hri : (r : Int) = ri at *
            have Hri := hide hri
            clear hri
            generalize hy1i : (y1 : Int) = y1i at *
            have Hy1i := hide hy1i
            clear hy1i
            generalize hvi : (v1 : Int) = vi at *
            have Hvi := hide hvi
            clear hvi
            generalize hzi : (Z : Int) = zi at *
            have Hzi := hide hzi
            clear hzi
            have pqi : 0 ≤ qi := by rw [← unhide Hqi]; omega
            have pri : 0 ≤ ri := by rw [← unhide Hri]; omega
            have py1i : 0 ≤ y1i := by rw [← unhide Hy1i]; omega
            have pvi : 0 ≤ vi := by rw [← unhide Hvi]; omega
            have pzi : 0 ≤ zi := by rw [← unhide Hzi]; omega
            go_wp2
            have hqi := unhide Hqi
            subst hqi
            have hri := unhide Hri
            subst hri
            have hy1i := unhide Hy1i
            subst hy1i
            have hvi := unhide Hvi
            subst hvi
            have hzi := unhide Hzi
            subst hzi
            go_round
            case rel => exact ⟨q - 1, r + y1, int_eq (by omega), int_eq (by omega), hide (Dv.next (unhide H1) (by omega)), hide (by have := unhide TB; have := unhide HQ1; omega), by omega, by omega⟩
            case measure => simp [intOf]; omega
        · have hfin := hide (Dv.small y1 y0 u v1 q r (by rw [← unhide HY10]; exact hu2) (unhide H1) (by rw [unhide HQ1]; exact unhide H2) (by rw [unhide HZ]; omega))
          have iq : (q : Int) ≤ 4294967297 := by omega
          have ir : (r : Int) < 4294967296 := by omega
          have iy : (y1 : Int) < 4294967296 := by omega
          have iv : (v1 : Int) < 4294967296 := by omega
          have i1 : (q : Int) < 4294967296 := by omega
          have iz : (Z : Int) < 18446744073709551616 := by omega
          have i3 : (Z : Int) ≤ 4294967296 * (r : Int) + (v1 : Int) := by omega
          clear hq hr c1 hZb c3
          generalize hqi : (q : Int) = qi at *
          have Hqi := hide hqi
          clear hqi
          generalize hri : (r : Int) = ri at *
          have Hri := hide hri
          clear hri
          generalize hy1i : (y1 : Int) = y1i at *
          have Hy1i := hide hy1i
          clear hy1i
          generalize hvi : (v1 : Int) = vi at *
          have Hvi := hide hvi
          clear hvi
          generalize hzi : (Z : Int) = zi at *
          have Hzi := hide hzi
          clear hzi
          have pqi : 0 ≤ qi := by rw [← unhide Hqi]; omega
          have pri : 0 ≤ ri := by rw [← unhide Hri]; omega
          have py1i : 0 ≤ y1i := by rw [← unhide Hy1i]; omega
          have pvi : 0 ≤ vi := by rw [← unhide Hvi]; omega
          have pzi : 0 ≤ zi := by rw [← unhide Hzi]; omega
          go_wp2
          have hqi := unhide Hqi
          subst hqi
          have hri := unhide Hri
          subst hri
          have hy1i := unhide Hy1i
          subst hy1i
          have hvi := unhide Hvi
          subst hvi
          have hzi := unhide Hzi
          subst hzi
          go_meet
          case rel => exact ⟨int_eq (by rw [← unhide HQ1, ← unhide hfin]), rfl⟩
  case rest =>
  obtain ⟨rfl, rfl⟩ := hcut
  clear rq rq' rqy rr r1 r2 r3 r4 r5 ry1 ry0 rv1 rv0 m2 m3 HQ HR F1 F3 f2 f4 hru
  obtain ⟨l1, l2, l3⟩ := Dv.left Y u v1 (by omega)
  have ed : Dv.dig Y u v1 = Q1 := by rw [unhide HY10]; exact unhide HQ1
  rw [ed] at l1 l2 l3
  obtain ⟨u2, hu2e⟩ : ∃ u2 : Nat, (u * 4294967296 + v1) % Y = u2 := ⟨_, rfl⟩
  have hu2b : u2 < Y := by rw [← hu2e, ← l2]; exact l3
  have r6 : IntKind.u64.wrap (IntKind.u64.wrap (IntKind.u64.wrap ((u : Int) * 4294967296) + (v1 : Int)) - IntKind.u64.wrap ((Q1 : Int) * (Y : Int))) = (u2 : Int) := by
    rw [← hu2e, ← l2, IntKind.wrap_u64, IntKind.wrap_u64, IntKind.wrap_u64, IntKind.wrap_u64, ← Int.natCast_mul]
    generalize Q1 * Y = P at *
    omega
  have HU2E := hide hu2e
  clear hu2e l1 l2 l3 ed
  obtain ⟨g1, g2, g3, g4⟩ := Dv.first y1 y0 u2 v0 (by rw [← unhide HY10]; exact hu2b) hv0 hy0 hy1b
  have G1 := hide g1
  have G3 := hide g3
  clear g1 g3
  obtain ⟨p, t, hp, ht⟩ : ∃ p t : Nat, u2 / y1 = p ∧ u2 % y1 = t := ⟨_, _, rfl, rfl⟩
  have rp : (u2 : Int).tdiv (y1 : Int) = (p : Int) := by rw [← hp]; rfl
  have rp' : (u2 : Int) / (y1 : Int) = (p : Int) := by rw [← hp]; rfl
  have HP := hide hp
  have HT := hide ht
  have rpy : (p : Int) * (y1 : Int) = (u2 : Int) - (t : Int) := by
    have h := unhide G3
    rw [hp, ht] at h
    have h2 : ((p * y1 : Nat) : Int) + (t : Int) = (u2 : Int) := by rw [← Int.natCast_add, h]
    rw [Int.natCast_mul] at h2; omega
  have htu : t ≤ u2 := by rw [← ht]; exact Nat.mod_le _ _
  rw [hp] at g2
  rw [ht] at g4
  clear hp ht
  have rr : (u2 : Int) - ((u2 : Int) - (t : Int)) = (t : Int) := by omega
  obtain ⟨Q0, hQ0⟩ : ∃ Q0 : Nat, Dv.dig (y1 * 4294967296 + y0) u2 v0 = Q0 := ⟨_, rfl⟩
  have HQ0 := hide hQ0
  rw [hQ0] at G1
  have hQ0b : Q0 < 4294967296 := by rw [← hQ0]; exact Dv.dig_lt _ u2 v0 (by rw [← unhide HY10]; exact hu2b) hv0
  clear hQ0
  go_upto_block 2 with fail
  go_cut [18, 16] from 102 to 120 (fun a b wx => a = .int .u64 (Q0 : Int) ∧ wx = wc)
  case first =>
    go_wp2_with fail
    go_loop [18, 16] (fun a b => ∃ q r : Nat, a = .int .u64 (q : Int) ∧ b = .int .u64 (r : Int) ∧ Hid (q * y1 + r = u2) ∧ Hid (Q0 ≤ q) ∧ q ≤ 4294967297 ∧ r < 4294967296) (fun a _ => (intOf a).toNat)
    case atStart => exact ⟨p, t, rfl, rfl, hide (by rw [← unhide HP, ← unhide HT]; exact unhide G3), hide (by rw [← unhide HP]; exact unhide G1), g2, by omega⟩
    case round =>
      clear rp rp' rpy rr r6 m1 HP HT G1 G3 g2 g4 htu
      obtain ⟨q, r, rfl, rfl, H1, H2, hq, hr⟩ := hrel
      by_cases c1 : 4294967296 ≤ q
      · have tb := Dv.too_big y1 y0 u2 v0 q r (by rw [← unhide HY10]; exact hu2b) hv0 (unhide H1) (Or.inl c1)
        by_cases c2 : 4294967296 ≤ r + y1
        · have hfin := hide (Dv.brk y1 y0 u2 v0 (q - 1) (r + y1) (by rw [← unhide HY10]; exact hu2b) hy0 (Dv.next (unhide H1) (by omega)) (by omega) c2 (by omega))
          have TB := hide tb
          clear tb
          have iq : (q : Int) ≤ 4294967297 := by omega
          have ir : (r : Int) < 4294967296 := by omega
          have iy : (y1 : Int) < 4294967296 := by omega
          have iv : (v0 : Int) < 4294967296 := by omega
          have i1 : (4294967296 : Int) ≤ (q : Int) := by omega
          have i2 : (4294967296 : Int) ≤ (r : Int) + (y1 : Int) := by omega
          clear hq hr c1 c2
          generalize hqi : (q : Int) = qi at *
          have Hqi := hide hqi
          clear hqi
          generalize hri : (r : Int) = ri at *
          have Hri := hide hri
          clear hri
          generalize hy1i : (y1 : Int) = y1i at *
          have Hy1i := hide hy1i
          clear hy1i
          generalize hvi : (v0 : Int) = vi at *
          have Hvi := hide hvi
          clear hvi
          have pqi : 0 ≤ qi := by rw [← unhide Hqi]; omega
          have pri : 0 ≤ ri := by rw [← unhide Hri]; omega
          have py1i : 0 ≤ y1i := by rw [← unhide Hy1i]; omega
          have pvi : 0 ≤ vi := by rw [← unhide Hvi]; omega
          go_wp2
          have hqi := unhide Hqi
          subst hqi
          have hri := unhide Hri
          subst hri
          have hy1i := unhide Hy1i
          subst hy1i
          have hvi := unhide Hvi
          subst hvi
          go_meet
          case rel => exact ⟨int_eq (by rw [← unhide HQ0, ← unhide hfin]; omega), rfl⟩
        · have TB := hide tb
          clear tb
          have iq : (q : Int) ≤ 4294967297 := by omega
          have ir : (r : Int) < 4294967296 := by omega
          have iy : (y1 : Int) < 4294967296 := by omega
          have iv : (v0 : Int) < 4294967296 := by omega
          have i1 : (4294967296 : Int) ≤ (q : Int) := by omega
          have i2 : (r : Int) + (y1 : Int) < 4294967296 := by omega
          clear hq hr c1 c2
          generalize hqi : (q : Int) = qi at *
          have Hqi := hide hqi
          clear hqi
          generalize hri : (r : Int) = ri at *
          have Hri := hide hri
          clear hri
          generalize hy1i : (y1 : Int) = y1i at *
          have Hy1i := hide hy1i
          clear hy1i
          generalize hvi : (v0 : Int) = vi at *
          have Hvi := hide hvi
          clear hvi
          have pqi : 0 ≤ qi := by rw [← unhide Hqi]; omega
          have pri : 0 ≤ ri := by rw [← unhide Hri]; omega
          have py1i : 0 ≤ y1i := by rw [← unhide Hy1i]; omega
          have pvi : 0 ≤ vi := by rw [← unhide Hvi]; omega
          go_wp2
          have hqi := unhide Hqi
          subst hqi
          have hri := unhide Hri
          subst hri
          have hy1i := unhide Hy1i
          subst hy1i
          have hvi := unhide Hvi
          subst hvi
          go_round
          case rel => exact ⟨q - 1, r + y1, int_eq (by omega), int_eq (by omega), hide (Dv.next (unhide H1) (by omega)), hide (by have := unhide TB; have := unhide HQ0; omega), by omega, by omega⟩
          case measure => simp [intOf]; omega
      · obtain ⟨Z, hZ⟩ : ∃ Z : Nat, q * y0 = Z := ⟨_, rfl⟩
        have hZb : Z < 18446744073709551616 := by
          rw [← hZ]
          have a : q * y0 ≤ 4294967295 * y0 := Nat.mul_le_mul_right _ (by omega)
          omega
        have rz : (q : Int) * (y0 : Int) = (Z : Int) := by rw [← hZ, Int.natCast_mul]
        have HZ := hide hZ
        clear hZ
        by_cases c3 : 4294967296 * r + v0 < Z
        · have tb := Dv.too_big y1 y0 u2 v0 q r (by rw [← unhide HY10]; exact hu2b) hv0 (unhide H1) (Or.inr (by rw [unhide HZ]; exact c3))
          have hq1 : 1 ≤ q := by omega
          by_cases c2 : 4294967296 ≤ r + y1
          · have hfin := hide (Dv.brk y1 y0 u2 v0 (q - 1) (r + y1) (by rw [← unhide HY10]; exact hu2b) hy0 (Dv.next (unhide H1) (by omega)) (by omega) c2 (by omega))
            have TB := hide tb
            clear tb
            have iq : (q : Int) ≤ 4294967297 := by omega
            have ir : (r : Int) < 4294967296 := by omega
            have iy : (y1 : Int) < 4294967296 := by omega
            have iv : (v0 : Int) < 4294967296 := by omega
            have i1 : (q : Int) < 4294967296 := by omega
            have iz : (Z : Int) < 18446744073709551616 := by omega
            have i3 : 4294967296 * (r : Int) + (v0 : Int) < (Z : Int) := by omega
            have i4 : (1 : Int) ≤ (q : Int) := by omega
            have i2 : (4294967296 : Int) ≤ (r : Int) + (y1 : Int) := by omega
            clear hq hr c1 hZb c3 hq1 c2
            generalize hqi : (q : Int) = qi at *
            have Hqi := hide hqi
            clear hqi
            generalize hri : (r : Int) = ri at *
            have Hri := hide hri
            clear hri
            generalize hy1i : (y1 : Int) = y1i at *
            have Hy1i := hide hy1i
            clear hy1i
            generalize hvi : (v0 : Int) = vi at *
            have Hvi := hide hvi
            clear hvi
            generalize hzi : (Z : Int) = zi at *
            have Hzi := hide hzi
            clear hzi
            have pqi : 0 ≤ qi := by rw [← unhide Hqi]; omega
            have pri : 0 ≤ ri := by rw [← unhide Hri]; omega
            have py1i : 0 ≤ y1i := by rw [← unhide Hy1i]; omega
            have pvi : 0 ≤ vi := by rw [← unhide Hvi]; omega
            have pzi : 0 ≤ zi := by rw [← unhide Hzi]; omega
            go_wp2
            have hqi := unhide Hqi
            subst hqi
            have hri := unhide Hri
            subst hri
            have hy1i := unhide Hy1i
            subst hy1i
            have hvi := unhide Hvi
            subst hvi
            have hzi := unhide Hzi
            subst hzi
            go_meet
            case rel => exact ⟨int_eq (by rw [← unhide HQ0, ← unhide hfin]; omega), rfl⟩
          · have TB := hide tb
            clear tb
            have iq : (q : Int) ≤ 4294967297 := by omega
            have ir : (r : Int) < 4294967296 := by omega
            have iy : (y1 : Int) < 4294967296 := by omega
            have iv : (v0 : Int) < 4294967296 := by omega
            have i1 : (q : Int) < 4294967296 := by omega
            have iz : (Z : Int) < 18446744073709551616 := by omega
            have i3 : 4294967296 * (r : Int) + (v0 : Int) < (Z : Int) := by omega
            have i4 : (1 : Int) ≤ (q : Int) := by omega
            have i2 : (r : Int) + (y1 : Int) < 4294967296 := by omega
            clear hq hr c1 hZb c3 hq1 c2
            generalize hqi : (q : Int) = qi at *
            have Hqi := hide hqi
            clear hqi
            generalize hri : (r : Int) = ri at *
            have Hri := hide hri
            clear hri
            generalize hy1i : (y1 : Int) = y1i at *
            have Hy1i := hide hy1i
            clear hy1i
            generalize hvi : (v0 : Int) = vi at *
            have Hvi := hide hvi
            clear hvi
            generalize hzi : (Z : Int) = zi at *
            have Hzi := hide hzi
            clear hzi
            have pqi : 0 ≤ qi := by rw [← unhide Hqi]; omega
            have pri : 0 ≤ ri := by rw [← unhide Hri]; omega
            have py1i : 0 ≤ y1i := by rw [← unhide Hy1i]; omega
            have pvi : 0 ≤ vi := by rw [← unhide Hvi]; omega
            have pzi : 0 ≤ zi := by rw [← unhide Hzi]; omega
            go_wp2
            have hqi := unhide Hqi
            subst hqi
            have hri := unhide Hri
            subst hri
            have hy1i := unhide Hy1i
            subst hy1i
            have hvi := unhide Hvi
            subst hvi
            have hzi := unhide Hzi
            subst hzi
            go_round
            case rel => exact ⟨q - 1, r + y1, int_eq (by omega), int_eq (by omega), hide (Dv.next (unhide H1) (by omega)), hide (by have := unhide TB; have := unhide HQ0; omega), by omega, by omega⟩
            case measure => simp [intOf]; omega
        · have hfin := hide (Dv.small y1 y0 u2 v0 q r (by rw [← unhide HY10]; exact hu2b) (unhide H1) (by rw [unhide HQ0]; exact unhide H2) (by rw [unhide HZ]; omega))
          have iq : (q : Int) ≤ 4294967297 := by omega
          have ir : (r : Int) < 4294967296 := by omega
          have iy : (y1 : Int) < 4294967296 := by omega
          have iv : (v0 : Int) < 4294967296 := by omega
          have i1 : (q : Int) < 4294967296 := by omega
          have iz : (Z : Int) < 18446744073709551616 := by omega
          have i3 : (Z : Int) ≤ 4294967296 * (r : Int) + (v0 : Int) := by omega
          clear hq hr c1 hZb c3
          generalize hqi : (q : Int) = qi at *
          have Hqi := hide hqi
          clear hqi
          generalize hri : (r : Int) = ri at *
          have Hri := hide hri
          clear hri
          generalize hy1i : (y1 : Int) = y1i at *
          have Hy1i := hide hy1i
          clear hy1i
          generalize hvi : (v0 : Int) = vi at *
          have Hvi := hide hvi
          clear hvi
          generalize hzi : (Z : Int) = zi at *
          have Hzi := hide hzi
          clear hzi
          have pqi : 0 ≤ qi := by rw [← unhide Hqi]; omega
          have pri : 0 ≤ ri := by rw [← unhide Hri]; omega
          have py1i : 0 ≤ y1i := by rw [← unhide Hy1i]; omega
          have pvi : 0 ≤ vi := by rw [← unhide Hvi]; omega
          have pzi : 0 ≤ zi := by rw [← unhide Hzi]; omega
          go_wp2
          have hqi := unhide Hqi
          subst hqi
          have hri := unhide Hri
          subst hri
          have hy1i := unhide Hy1i
          subst hy1i
          have hvi := unhide Hvi
          subst hvi
          have hzi := unhide Hzi
          subst hzi
          go_meet
          case rel => exact ⟨int_eq (by rw [← unhide HQ0, ← unhide hfin]), rfl⟩
  case rest =>
  obtain ⟨rfl, rfl⟩ := hcut
  clear rp rp' rpy rr r6 HP HT G1 G3 g2 g4 htu
  obtain ⟨l1, l2, l3⟩ := Dv.left Y u2 v0 (by omega)
  have ed : Dv.dig Y u2 v0 = Q0 := by rw [unhide HY10]; exact unhide HQ0
  rw [ed] at l1 l2 l3
  have h2 := Dv.two Y u v1 v0 (by omega)
  have hb := Dv.back hi lo y s Y u v (unhide HY) (unhide HEQ)
  rw [unhide HU2E, ed, show Dv.dig Y u v1 = Q1 by rw [unhide HY10]; exact unhide HQ1, ← unhide HV10] at h2
  rw [h2.1, h2.2] at hb
  obtain ⟨u3, hu3e⟩ : ∃ u3 : Nat, (u2 * 4294967296 + v0) % Y = u3 := ⟨_, rfl⟩
  rw [hu3e] at hb
  have hu3b : u3 < Y := by rw [← hu3e, ← l2]; exact l3
  have r7 : IntKind.u64.wrap (IntKind.u64.wrap (IntKind.u64.wrap ((u2 : Int) * 4294967296) + (v0 : Int)) - IntKind.u64.wrap ((Q0 : Int) * (Y : Int))) = (u3 : Int) := by
    rw [← hu3e, ← l2, IntKind.wrap_u64, IntKind.wrap_u64, IntKind.wrap_u64, IntKind.wrap_u64, ← Int.natCast_mul]
    generalize Q0 * Y = P at *
    omega
  have HB := hide hb
  clear hb h2 ed l1 l2 l3 hu3e
  go_wp2
  go_ret2
  refine ⟨ret_ne ?_ ?_, Below.refl _ _⟩
  · rw [← (unhide HB).1]; simp
  · rw [← (unhide HB).2]; simp
end Go.Proofs.YtloamahbghjjgaaGreatDoor
