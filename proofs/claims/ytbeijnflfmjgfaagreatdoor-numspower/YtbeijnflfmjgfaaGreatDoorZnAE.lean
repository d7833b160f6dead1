/- The contracts of nearest, scaled, Mul, Div, Mod, Floor, Whole, Round. -/
import Derived.BigQuiet
import Derived.BigRegion
import Derived.Deep.CutBlock
import Derived.Deep.CutRange
import Derived.Deep.DeepFit
import Derived.Deep.QuietTactic
import Derived.Laws.Bits64b
import Derived.Lib.BitFns
import Derived.Lib.ItoaMem
import Derived.Lib.ItoaNum
import Derived.Lib.Walk
import Derived.Shelf.Bits.Mul64
import Derived.Shelf.LaysM
import Derived.Shelf.Small.Bits
import Derived.Shelf.Small.Strs
import Derived.Shelf.Small.Wraps
import Derived.Shelf.Strconv.Itoa0
import Derived.Shelf.Strconv.Itoa1
import Derived.Shelf.Strconv.Itoa2
import Derived.Shelf.Strings.AsciiSet
import Derived.Shelf.Strings.Cut
import Derived.Shelf.Strings.Prefix
import Derived.Shelf.Strings.Search1
import Derived.Shelf.Strings.Search2
import Derived.Shelf.Strings.Shaped
import Derived.Shelf.Strings.Trim
import Derived.Test.YtbeijnflfmjgfaaGreatDoorProg
import Derived.Test.YtbeijnflfmjgfaaGreatDoorRows
import Derived.WalkKit
import Derived.WalkLawsBesides
import Derived.WalkSmall
import Derived.WalkSpells
import Derived.Test.YtbeijnflfmjgfaaGreatDoorZnAA
import Derived.Test.YtbeijnflfmjgfaaGreatDoorZnAB
import Derived.Test.YtbeijnflfmjgfaaGreatDoorZnAD
import Derived.Test.YtbeijnflfmjgfaaGreatDoorZnAC
namespace Go.Proofs.YtbeijnflfmjgfaaGreatDoor
open Go.RowKit

theorem div64_any (hi lo y : Nat) (w : World) (hhy : hi < y) (h1 : lo < 18446744073709551616) (hy1 : y < 18446744073709551616) :
    Calls Tryz.prog 172 #[.int .u64 (hi : Int), .int .u64 (lo : Int), .int .u64 (y : Int)] w fun e w' => e = .returned (.tuple #[.int .u64 (((hi * 18446744073709551616 + lo) / y : Nat) : Int), .int .u64 (((hi * 18446744073709551616 + lo) % y : Nat) : Int)]) ∧ Below w.heap.size w w' := by
  by_cases h : hi = 0
  · subst h
    rw [Nat.zero_mul, Nat.zero_add]
    exact div64_low lo y w h1 (by omega) hy1
  · exact div64_high hi lo y w (by omega) hhy h1 hy1

def nrOk (x y z : Nat) : Bool := decide (x * y / z ≤ 9000000000000000000)
def nrV (x y z : Nat) : Nat := if nrOk x y z = true then x * y / z + (if z ≤ 2 * (x * y % z) then 1 else 0) else 0

theorem nr_high (x y z : Nat) (hz : 0 < z) (h : z ≤ x * y / 18446744073709551616) : nrOk x y z = false := by
  unfold nrOk
  rw [decide_eq_false_iff_not]
  intro hc
  have : x * y / z < 9000000000000000001 := by omega
  rw [Nat.div_lt_iff_lt_mul hz] at this
  omega

set_option maxHeartbeats 400000 in
theorem nearest_any (x y z : Nat) (w : World) (hx : x < 18446744073709551616) (hy : y < 18446744073709551616) (hz0 : 0 < z) (hz : z < 18446744073709551616) :
    Calls Tryz.prog 132 #[.int .u64 (x : Int), .int .u64 (y : Int), .int .u64 (z : Int)] w fun e w' => e = .returned (.tuple #[.int .u64 ((nrV x y z : Nat) : Int), .bool (nrOk x y z)]) ∧ Below w.heap.size w w' := by
  by_cases hc : z ≤ x * y / 18446744073709551616
  · have ho := hide (nr_high x y z hz0 hc)
    unfold nrV
    rw [unhide ho]
    go_enter Tryz.func132, Tryz.ntmps132
    go_wp2_with fail
    refine (Tryz.bits_Mul64 x y hx hy _).mono ?_
    rintro e w' ⟨rfl, rfl⟩
    generalize x * y / 18446744073709551616 = hi at *
    generalize x * y % 18446744073709551616 = lo at *
    generalize hhi : (hi : Int) = hii at *
    generalize hzi : (z : Int) = zi at *
    have t : zi ≤ hii := by omega
    have H1 := hide hhi
    have H2 := hide hzi
    have H3 := hide hc
    clear hhi hzi hc
    go_wp2
    go_ret2
    exact ⟨rfl, Below.refl _ _⟩
  · have hlo : x * y % 18446744073709551616 < 18446744073709551616 := Nat.mod_lt _ (by omega)
    have hN : x * y / 18446744073709551616 * 18446744073709551616 + x * y % 18446744073709551616 = x * y := Nat.div_add_mod' _ _
    have hR : x * y % z < z := Nat.mod_lt _ hz0
    unfold nrV nrOk
    obtain ⟨Q, hQ⟩ : ∃ Q : Nat, x * y / z = Q := ⟨_, rfl⟩
    obtain ⟨R, hRe⟩ : ∃ R : Nat, x * y % z = R := ⟨_, rfl⟩
    rw [hQ, hRe]
    rw [hRe] at hR
    have HQ := hide hQ
    have HR := hide hRe
    clear hQ hRe
    have HN := hide hN
    clear hN
    by_cases hq : Q ≤ 9000000000000000000
    · rw [decide_eq_true hq, if_pos rfl]
      by_cases hr : z ≤ 2 * R
      · rw [if_pos hr]
        go_enter Tryz.func132, Tryz.ntmps132
        go_wp2_with fail
        refine (Tryz.bits_Mul64 x y hx hy _).mono ?_
        rintro e w' ⟨rfl, rfl⟩
        generalize hhi : ((x * y / 18446744073709551616 : Nat) : Int) = hii at *
        generalize hll : ((x * y % 18446744073709551616 : Nat) : Int) = loi at *
        generalize hzi : (z : Int) = zi at *
        have t : hii < zi := by omega
        have H1 := hide hhi
        have H2 := hide hzi
        have H3 := hide hll
        have H4 := hide hc
        have H5 := hide hlo
        have H6 := hide hR
        have H7 := hide hz
        have H8 := hide hz0
        have H9 := hide (And.intro hq hr)
        clear hhi hzi hll hc hlo hR hz hz0 hq hr
        go_wp2_with fail
        rw [← unhide H1, ← unhide H2, ← unhide H3]
        refine (div64_any _ _ _ _ (by have := unhide H4; omega) (unhide H5) (unhide H7)).mono ?_
        rintro e w2 ⟨rfl, hb⟩
        rw [unhide HN, unhide HQ, unhide HR]
        generalize hqi : (Q : Int) = qi at *
        generalize hri : (R : Int) = ri at *
        generalize hzj : (z : Int) = zj at *
        have H9' := unhide H9
        have H6' := unhide H6
        have hz7 := unhide H7
        have p1 : 0 ≤ qi := by omega
        have p2 : 0 ≤ ri := by omega
        have p4 : ri < zj := by omega
        have p5 : zj < 18446744073709551616 := by omega
        have p3 : qi ≤ 9000000000000000000 := by omega
        have p6 : zj - ri ≤ ri := by omega
        have G1 := hide hqi
        have G2 := hide hri
        have G3 := hide hzj
        clear hqi hri hzj H9' H6' t hz7
        go_wp2
        go_ret2
        exact ⟨by rw [Int.natCast_add, unhide G1]; rfl, hb⟩
      · rw [if_neg hr]
        go_enter Tryz.func132, Tryz.ntmps132
        go_wp2_with fail
        refine (Tryz.bits_Mul64 x y hx hy _).mono ?_
        rintro e w' ⟨rfl, rfl⟩
        generalize hhi : ((x * y / 18446744073709551616 : Nat) : Int) = hii at *
        generalize hll : ((x * y % 18446744073709551616 : Nat) : Int) = loi at *
        generalize hzi : (z : Int) = zi at *
        have t : hii < zi := by omega
        have H1 := hide hhi
        have H2 := hide hzi
        have H3 := hide hll
        have H4 := hide hc
        have H5 := hide hlo
        have H6 := hide hR
        have H7 := hide hz
        have H8 := hide hz0
        have H9 := hide (And.intro hq hr)
        clear hhi hzi hll hc hlo hR hz hz0 hq hr
        go_wp2_with fail
        rw [← unhide H1, ← unhide H2, ← unhide H3]
        refine (div64_any _ _ _ _ (by have := unhide H4; omega) (unhide H5) (unhide H7)).mono ?_
        rintro e w2 ⟨rfl, hb⟩
        rw [unhide HN, unhide HQ, unhide HR]
        generalize hqi : (Q : Int) = qi at *
        generalize hri : (R : Int) = ri at *
        generalize hzj : (z : Int) = zj at *
        have H9' := unhide H9
        have H6' := unhide H6
        have hz7 := unhide H7
        have p1 : 0 ≤ qi := by omega
        have p2 : 0 ≤ ri := by omega
        have p4 : ri < zj := by omega
        have p5 : zj < 18446744073709551616 := by omega
        have p3 : qi ≤ 9000000000000000000 := by omega
        have p6 : ri < zj - ri := by omega
        have G1 := hide hqi
        have G2 := hide hri
        have G3 := hide hzj
        clear hqi hri hzj H9' H6' t hz7
        go_wp2
        go_ret2
        exact ⟨by rw [Int.natCast_add, unhide G1]; exact congrArg (fun t => Ending.returned (.tuple #[.int .u64 t, .bool true])) (by omega), hb⟩
    · rw [decide_eq_false hq]
      have hr : True := trivial
      go_enter Tryz.func132, Tryz.ntmps132
      go_wp2_with fail
      refine (Tryz.bits_Mul64 x y hx hy _).mono ?_
      rintro e w' ⟨rfl, rfl⟩
      generalize hhi : ((x * y / 18446744073709551616 : Nat) : Int) = hii at *
      generalize hll : ((x * y % 18446744073709551616 : Nat) : Int) = loi at *
      generalize hzi : (z : Int) = zi at *
      have t : hii < zi := by omega
      have H1 := hide hhi
      have H2 := hide hzi
      have H3 := hide hll
      have H4 := hide hc
      have H5 := hide hlo
      have H6 := hide hR
      have H7 := hide hz
      have H8 := hide hz0
      have H9 := hide (And.intro hq hr)
      clear hhi hzi hll hc hlo hR hz hz0 hq hr
      go_wp2_with fail
      rw [← unhide H1, ← unhide H2, ← unhide H3]
      refine (div64_any _ _ _ _ (by have := unhide H4; omega) (unhide H5) (unhide H7)).mono ?_
      rintro e w2 ⟨rfl, hb⟩
      rw [unhide HN, unhide HQ, unhide HR]
      generalize hqi : (Q : Int) = qi at *
      generalize hri : (R : Int) = ri at *
      generalize hzj : (z : Int) = zj at *
      have H9' := unhide H9
      have H6' := unhide H6
      have hz7 := unhide H7
      have p1 : 0 ≤ qi := by omega
      have p2 : 0 ≤ ri := by omega
      have p4 : ri < zj := by omega
      have p5 : zj < 18446744073709551616 := by omega
      have p3 : 9000000000000000000 < qi := by omega
      have G1 := hide hqi
      have G2 := hide hri
      have G3 := hide hzj
      clear hqi hri hzj H9' H6' t hz7
      go_wp2
      go_ret2
      exact ⟨rfl, hb⟩

end Go.Proofs.YtbeijnflfmjgfaaGreatDoor

namespace Go.Proofs.YtbeijnflfmjgfaaGreatDoor
open Go.RowKit

theorem nrV_le (x y z : Nat) : nrV x y z ≤ 9000000000000000001 := by
  unfold nrV nrOk
  split
  · rename_i h
    have h := of_decide_eq_true h
    split <;> omega
  · omega

def scR (b : Bool) (x y z : Nat) : Int × Int := if nrOk x y z = true then (sgnN b (nrV x y z : Nat), sgnE (nrV x y z : Nat)) else (0, 5)

set_option maxHeartbeats 400000 in
theorem scaled_any (b : Bool) (x y z : Nat) (w : World) (hx : x < 18446744073709551616) (hy : y < 18446744073709551616) (hz0 : 0 < z) (hz : z < 18446744073709551616) :
    Calls Tryz.prog 89 #[.bool b, .int .u64 (x : Int), .int .u64 (y : Int), .int .u64 (z : Int)] w fun e w' => e = .returned (.tuple #[.int .i64 (scR b x y z).1, .int .i64 (scR b x y z).2]) ∧ Below w.heap.size w w' := by
  have hle := nrV_le x y z
  cases ho : nrOk x y z
  · have hs : scR b x y z = (0, 5) := by unfold scR; rw [ho]; rfl
    have HO := hide ho
    rw [hs]
    clear ho hs
    go_enter Tryz.func89, Tryz.ntmps89
    go_wp2_with fail
    refine (nearest_any x y z _ hx hy hz0 hz).mono ?_
    rintro e w' ⟨rfl, hb⟩
    rw [unhide HO]
    go_wp2
    go_ret2
    exact ⟨rfl, hb⟩
  · have hs : scR b x y z = (sgnN b (nrV x y z : Nat), sgnE (nrV x y z : Nat)) := by unfold scR; rw [ho]; rfl
    have HO := hide ho
    rw [hs]
    clear ho hs
    go_enter Tryz.func89, Tryz.ntmps89
    go_wp2_with fail
    refine (nearest_any x y z _ hx hy hz0 hz).mono ?_
    rintro e w' ⟨rfl, hb⟩
    rw [unhide HO]
    go_wp2_with fail
    refine (signed_any b _ _ (by omega) (by omega)).mono ?_
    rintro e w2 ⟨rfl, rfl⟩
    go_wp2
    go_ret2
    exact ⟨rfl, hb⟩

def mulR (a b : Int) : Int × Int := if (goodB a && goodB b) = true then scR (decide (a < 0) != decide (b < 0)) a.natAbs b.natAbs 10000 else (0, 5)

theorem below_tr {w a b : World} {o : Obj} (ha : a = w.alloc o) (hb : Below a.heap.size a b) : Below w.heap.size w b := by
  subst ha
  exact (below_alloc w o).trans (hb.mono (by simp))

set_option maxHeartbeats 400000 in
theorem mul_any (a b : Int) (w : World) :
    Calls Tryz.prog 61 #[.int .i64 a, .int .i64 b] w fun e w' => e = .returned (.tuple #[.int .i64 (mulR a b).1, .int .i64 (mulR a b).2]) ∧ Below w.heap.size w w' := by
  cases hg : (goodB a && goodB b)
  · have hs : mulR a b = (0, 5) := by unfold mulR; rw [hg]; rfl
    have HG := hide hg
    rw [hs]
    clear hg hs
    go_enter Tryz.func61, Tryz.ntmps61
    go_wp2_with fail
    refine (good2_any _ _ _ _).mono ?_
    rintro e w' ⟨rfl, rfl⟩
    rw [unhide HG]
    go_wp2
    go_ret2
    exact ⟨rfl, below_alloc _ _⟩
  · have hs : mulR a b = scR (decide (a < 0) != decide (b < 0)) a.natAbs b.natAbs 10000 := by unfold mulR; rw [hg]; rfl
    have HG := hide hg
    rw [Bool.and_eq_true, goodB_iff, goodB_iff] at hg
    obtain ⟨⟨a1, a2⟩, b1, b2⟩ := hg
    rw [hs]
    clear hs
    go_enter Tryz.func61, Tryz.ntmps61
    go_wp2_with fail
    refine (good2_any _ _ _ _).mono ?_
    rintro e w' ⟨rfl, rfl⟩
    rw [unhide HG]
    go_wp2_with fail
    refine (size_any a _ a1 a2).mono ?_
    rintro e w2 ⟨rfl, rfl⟩
    go_wp2_with fail
    refine (size_any b _ b1 b2).mono ?_
    rintro e w3 ⟨rfl, rfl⟩
    go_wp2_with fail
    refine (scaled_any _ a.natAbs b.natAbs 10000 _ (by omega) (by omega) (by omega) (by omega)).mono ?_
    rintro e w4 ⟨rfl, hb⟩
    go_wp2
    go_ret2
    exact ⟨rfl, below_tr rfl hb⟩
def divR (a b : Int) : Int × Int := if (goodB a && goodB b) = true then (if b = 0 then (0, 6) else scR (decide (a < 0) != decide (b < 0)) a.natAbs 10000 b.natAbs) else (0, 5)

set_option maxHeartbeats 400000 in
theorem div_any (a b : Int) (w : World) :
    Calls Tryz.prog 52 #[.int .i64 a, .int .i64 b] w fun e w' => e = .returned (.tuple #[.int .i64 (divR a b).1, .int .i64 (divR a b).2]) ∧ Below w.heap.size w w' := by
  cases hg : (goodB a && goodB b)
  · have hs : divR a b = (0, 5) := by unfold divR; rw [hg]; rfl
    have HG := hide hg
    rw [hs]
    clear hg hs
    go_enter Tryz.func52, Tryz.ntmps52
    go_wp2_with fail
    refine (good2_any _ _ _ _).mono ?_
    rintro e w' ⟨rfl, rfl⟩
    rw [unhide HG]
    go_wp2
    go_ret2
    exact ⟨rfl, below_alloc _ _⟩
  · have hs : divR a b = (if b = 0 then (0, 6) else scR (decide (a < 0) != decide (b < 0)) a.natAbs 10000 b.natAbs) := by unfold divR; rw [hg]; rfl
    have HG := hide hg
    rw [Bool.and_eq_true, goodB_iff, goodB_iff] at hg
    obtain ⟨⟨a1, a2⟩, b1, b2⟩ := hg
    rw [hs]
    clear hs
    by_cases hb0 : b = 0
    · rw [if_pos hb0]
      have hbb : (b == 0) = true := by rw [beq_iff_eq]; exact hb0
      have HB0 := hide hb0
      clear hb0
      go_enter Tryz.func52, Tryz.ntmps52
      go_wp2_with fail
      refine (good2_any _ _ _ _).mono ?_
      rintro e w' ⟨rfl, rfl⟩
      rw [unhide HG]
      go_wp2
      go_ret2
      exact ⟨rfl, below_alloc _ _⟩
    · rw [if_neg hb0]
      have hbb : (b == 0) = false := by rw [beq_eq_false_iff_ne]; exact hb0
      have HB0 := hide hb0
      clear hb0
      go_enter Tryz.func52, Tryz.ntmps52
      go_wp2_with fail
      refine (good2_any _ _ _ _).mono ?_
      rintro e w' ⟨rfl, rfl⟩
      rw [unhide HG]
      go_wp2_with fail
      refine (size_any a _ a1 a2).mono ?_
      rintro e w2 ⟨rfl, rfl⟩
      go_wp2_with fail
      refine (size_any b _ b1 b2).mono ?_
      rintro e w3 ⟨rfl, rfl⟩
      go_wp2_with fail
      refine (scaled_any _ a.natAbs 10000 b.natAbs _ (by omega) (by omega) (by have := unhide HB0; omega) (by omega)).mono ?_
      rintro e w4 ⟨rfl, hb⟩
      go_wp2
      go_ret2
      exact ⟨rfl, below_tr rfl hb⟩

def modV (a b : Int) : Int := if a.tmod b ≠ 0 ∧ (decide (a.tmod b < 0) != decide (b < 0)) = true then a.tmod b + b else a.tmod b
def modR (a b : Int) : Int × Int := if (goodB a && goodB b) = true then (if b = 0 then (0, 6) else (modV a b, 0)) else (0, 5)

theorem tmod_bounds (a b : Int) (ha1 : -9000000000000000000 ≤ a) (ha2 : a ≤ 9000000000000000000) (hb : b ≠ 0) :
    -9000000000000000000 ≤ a.tmod b ∧ a.tmod b ≤ 9000000000000000000 ∧ (a.tmod b).natAbs < b.natAbs := by
  have h1 : (a.tmod b).natAbs = a.natAbs % b.natAbs := Int.natAbs_tmod a b
  have h2 : a.natAbs % b.natAbs < b.natAbs := Nat.mod_lt _ (by omega)
  have h3 : a.natAbs % b.natAbs ≤ a.natAbs := Nat.mod_le _ _
  omega

set_option maxHeartbeats 400000 in
theorem mod_any (a b : Int) (w : World) :
    Calls Tryz.prog 98 #[.int .i64 a, .int .i64 b] w fun e w' => e = .returned (.tuple #[.int .i64 (modR a b).1, .int .i64 (modR a b).2]) ∧ Below w.heap.size w w' := by
  cases hg : (goodB a && goodB b)
  · have hs : modR a b = (0, 5) := by unfold modR; rw [hg]; rfl
    have HG := hide hg
    rw [hs]
    clear hg hs
    go_enter Tryz.func98, Tryz.ntmps98
    go_wp2_with fail
    refine (good2_any _ _ _ _).mono ?_
    rintro e w' ⟨rfl, rfl⟩
    rw [unhide HG]
    go_wp2
    go_ret2
    exact ⟨rfl, below_alloc _ _⟩
  · have hs : modR a b = (if b = 0 then (0, 6) else (modV a b, 0)) := by unfold modR; rw [hg]; rfl
    have HG := hide hg
    rw [Bool.and_eq_true, goodB_iff, goodB_iff] at hg
    obtain ⟨⟨a1, a2⟩, b1, b2⟩ := hg
    rw [hs]
    clear hs
    by_cases hb0 : b = 0
    · rw [if_pos hb0]
      have hbb : (b == 0) = true := by rw [beq_iff_eq]; exact hb0
      have HB0 := hide hb0
      clear hb0
      go_enter Tryz.func98, Tryz.ntmps98
      go_wp2_with fail
      refine (good2_any _ _ _ _).mono ?_
      rintro e w' ⟨rfl, rfl⟩
      rw [unhide HG]
      go_wp2
      go_ret2
      exact ⟨rfl, below_alloc _ _⟩
    · rw [if_neg hb0]
      have hbb : (b == 0) = false := by rw [beq_eq_false_iff_ne]; exact hb0
      obtain ⟨m1, m2, m3⟩ := tmod_bounds a b a1 a2 hb0
      have HB0 := hide hb0
      clear hb0
      unfold modV
      by_cases hr0 : a.tmod b = 0
      · rw [if_neg (fun h => h.1 hr0), hr0]
        have hrr : (a.tmod b == 0) = true := by rw [beq_iff_eq]; exact hr0
        have HR0 := hide hr0
        go_enter Tryz.func98, Tryz.ntmps98
        go_wp2_with fail
        refine (good2_any _ _ _ _).mono ?_
        rintro e w' ⟨rfl, rfl⟩
        rw [unhide HG]
        go_wp2
        go_ret2
        exact ⟨rfl, below_alloc _ _⟩
      · have hrr : (a.tmod b == 0) = false := by rw [beq_eq_false_iff_ne]; exact hr0
        have hrn : (a.tmod b != 0) = true := by rw [bne_iff_ne]; exact hr0
        by_cases s1 : a.tmod b < 0 <;> by_cases s2 : b < 0
        · rw [if_neg (fun h => by simp [s1, s2] at h)]
          have HR0 := hide hr0
          clear hr0
          have d1 : decide (a.tmod b < 0) = true := by simpa using s1
          have d2 : decide (b < 0) = true := by simpa using s2
          go_enter Tryz.func98, Tryz.ntmps98
          go_wp2_with fail
          refine (good2_any _ _ _ _).mono ?_
          rintro e w' ⟨rfl, rfl⟩
          rw [unhide HG]
          go_wp2
          go_ret2
          exact ⟨rfl, below_alloc _ _⟩
        · rw [if_pos ⟨hr0, by simp [s1, s2]⟩]
          have HR0 := hide hr0
          clear hr0
          have d1 : decide (a.tmod b < 0) = true := by simpa using s1
          have d2 : decide (b < 0) = false := by simpa using s2
          obtain ⟨n1, n2⟩ : -9000000000000000000 ≤ a.tmod b + b ∧ a.tmod b + b ≤ 9000000000000000000 := by omega
          go_enter Tryz.func98, Tryz.ntmps98
          go_wp2_with fail
          refine (good2_any _ _ _ _).mono ?_
          rintro e w' ⟨rfl, rfl⟩
          rw [unhide HG]
          go_wp2
          go_ret2
          exact ⟨rfl, below_alloc _ _⟩
        · rw [if_pos ⟨hr0, by simp [s1, s2]⟩]
          have HR0 := hide hr0
          clear hr0
          have d1 : decide (a.tmod b < 0) = false := by simpa using s1
          have d2 : decide (b < 0) = true := by simpa using s2
          obtain ⟨n1, n2⟩ : -9000000000000000000 ≤ a.tmod b + b ∧ a.tmod b + b ≤ 9000000000000000000 := by omega
          go_enter Tryz.func98, Tryz.ntmps98
          go_wp2_with fail
          refine (good2_any _ _ _ _).mono ?_
          rintro e w' ⟨rfl, rfl⟩
          rw [unhide HG]
          go_wp2
          go_ret2
          exact ⟨rfl, below_alloc _ _⟩
        · rw [if_neg (fun h => by simp [s1, s2] at h)]
          have HR0 := hide hr0
          clear hr0
          have d1 : decide (a.tmod b < 0) = false := by simpa using s1
          have d2 : decide (b < 0) = false := by simpa using s2
          go_enter Tryz.func98, Tryz.ntmps98
          go_wp2_with fail
          refine (good2_any _ _ _ _).mono ?_
          rintro e w' ⟨rfl, rfl⟩
          rw [unhide HG]
          go_wp2
          go_ret2
          exact ⟨rfl, below_alloc _ _⟩
end Go.Proofs.YtbeijnflfmjgfaaGreatDoor

namespace Go.Proofs.YtbeijnflfmjgfaaGreatDoor
open Go.RowKit

theorem modV_pos (a b : Int) (hb : 0 < b) : 0 ≤ modV a b ∧ modV a b < b ∧ (∃ k, a = k * b + modV a b) := by
  unfold modV
  have h0 : a.tdiv b * b + a.tmod b = a := Int.tdiv_mul_add_tmod a b
  have h1 : (a.tmod b).natAbs = a.natAbs % b.natAbs := Int.natAbs_tmod a b
  have h2 : a.natAbs % b.natAbs < b.natAbs := Nat.mod_lt _ (by omega)
  have d2 : decide (b < 0) = false := by rw [decide_eq_false_iff_not]; omega
  rw [d2]
  split
  · rename_i h
    have h3 : a.tmod b < 0 := by have := h.2; simpa using this
    refine ⟨by omega, by omega, a.tdiv b - 1, ?_⟩
    rw [Int.sub_mul]; omega
  · rename_i h
    have h3 : 0 ≤ a.tmod b := by
      rw [← Int.not_lt]
      intro hc
      exact h ⟨by omega, by simpa using hc⟩
    exact ⟨h3, by omega, a.tdiv b, by omega⟩

def floorV (a : Int) : Int := if goodB a = true then a - modV a 10000 else 0
def wholeV (a : Int) : Int := if goodB a = true then a.tdiv 10000 else 0

set_option maxHeartbeats 400000 in
theorem floor_any (a : Int) (w : World) :
    Calls Tryz.prog 136 #[.int .i64 a] w fun e w' => e = .returned (.int .i64 (floorV a)) ∧ Below w.heap.size w w' := by
  cases hg : goodB a
  · have hs : floorV a = 0 := by unfold floorV; rw [hg]; rfl
    have HG := hide hg
    rw [hs]
    clear hg hs
    go_enter Tryz.func136, Tryz.ntmps136
    go_wp2_with fail
    refine (good1_any _ _ _).mono ?_
    rintro e w' ⟨rfl, rfl⟩
    rw [unhide HG]
    go_wp2
    go_ret
    exact ⟨rfl, below_alloc _ _⟩
  · have hs : floorV a = a - modV a 10000 := by unfold floorV; rw [hg]; rfl
    have hm : modR a 10000 = (modV a 10000, 0) := by
      unfold modR
      have : (goodB a && goodB 10000) = true := by rw [hg]; decide
      rw [this]; rfl
    have HM := hide hm
    have HG := hide hg
    rw [goodB_iff] at hg
    obtain ⟨a1, a2⟩ := hg
    obtain ⟨p1, p2, _⟩ := modV_pos a 10000 (by omega)
    rw [hs]
    clear hs hm
    go_enter Tryz.func136, Tryz.ntmps136
    go_wp2_with fail
    refine (good1_any _ _ _).mono ?_
    rintro e w' ⟨rfl, rfl⟩
    rw [unhide HG]
    go_wp2_with fail
    refine (mod_any a 10000 _).mono ?_
    rintro e w2 ⟨rfl, hb⟩
    rw [unhide HM]
    go_wp2
    go_ret
    exact ⟨rfl, below_tr rfl hb⟩

set_option maxHeartbeats 400000 in
theorem whole_any (a : Int) (w : World) :
    Calls Tryz.prog 115 #[.int .i64 a] w fun e w' => e = .returned (.int .i64 (wholeV a)) ∧ Below w.heap.size w w' := by
  cases hg : goodB a
  · have hs : wholeV a = 0 := by unfold wholeV; rw [hg]; rfl
    have HG := hide hg
    rw [hs]
    clear hg hs
    go_enter Tryz.func115, Tryz.ntmps115
    go_wp2_with fail
    refine (good1_any _ _ _).mono ?_
    rintro e w' ⟨rfl, rfl⟩
    rw [unhide HG]
    go_wp2
    go_ret
    exact ⟨rfl, below_alloc _ _⟩
  · have hs : wholeV a = a.tdiv 10000 := by unfold wholeV; rw [hg]; rfl
    have HG := hide hg
    rw [goodB_iff] at hg
    obtain ⟨a1, a2⟩ := hg
    have hn : (a.tdiv 10000).natAbs = a.natAbs / 10000 := Int.natAbs_tdiv a 10000
    obtain ⟨t1, t2⟩ : -9000000000000000000 ≤ a.tdiv 10000 ∧ a.tdiv 10000 ≤ 9000000000000000000 := by omega
    rw [hs]
    clear hs hn
    go_enter Tryz.func115, Tryz.ntmps115
    go_wp2_with fail
    refine (good1_any _ _ _).mono ?_
    rintro e w' ⟨rfl, rfl⟩
    rw [unhide HG]
    go_wp2
    go_ret
    exact ⟨rfl, below_alloc _ _⟩

def rndS (a : Int) (n : Int) : Nat := nrV a.natAbs 1 (10 ^ (4 - n).toNat) * 10 ^ (4 - n).toNat
def roundR (a n : Int) : Int × Int :=
  if goodB a = true then (if n < -15 ∨ 15 < n then (0, 2) else if 4 ≤ n then (a, 0) else (sgnN (decide (a < 0)) (rndS a n : Nat), sgnE (rndS a n : Nat))) else (0, 5)

theorem nr_one (x z : Nat) (_hz : 0 < z) (hx : x ≤ 9000000000000000000) : nrOk x 1 z = true ∧ nrV x 1 z * z ≤ x + z / 2 := by
  have h : x / z ≤ x := Nat.div_le_self _ _
  have ho : nrOk x 1 z = true := by unfold nrOk; rw [Nat.mul_one]; exact decide_eq_true (by omega)
  refine ⟨ho, ?_⟩
  unfold nrV
  rw [ho, if_pos rfl, Nat.mul_one, Nat.add_mul]
  have h2 : x / z * z + x % z = x := Nat.div_add_mod' x z
  split
  · omega
  · omega

set_option maxHeartbeats 400000 in
theorem round_any (a n : Int) (w : World) :
    Calls Tryz.prog 138 #[.int .i64 a, .int .i64 n] w fun e w' => e = .returned (.tuple #[.int .i64 (roundR a n).1, .int .i64 (roundR a n).2]) ∧ Below w.heap.size w w' := by
  cases hg : goodB a
  · have hs : roundR a n = (0, 5) := by unfold roundR; rw [hg]; rfl
    have HG := hide hg
    rw [hs]
    clear hg hs
    go_enter Tryz.func138, Tryz.ntmps138
    go_wp2_with fail
    refine (good1_any _ _ _).mono ?_
    rintro e w' ⟨rfl, rfl⟩
    rw [unhide HG]
    go_wp2
    go_ret2
    exact ⟨rfl, below_alloc _ _⟩
  · have HG := hide hg
    unfold roundR
    rw [if_pos hg]
    rw [goodB_iff] at hg
    obtain ⟨a1, a2⟩ := hg
    by_cases h1 : n < -15
    · rw [if_pos (Or.inl h1)]
      go_enter Tryz.func138, Tryz.ntmps138
      go_wp2_with fail
      refine (good1_any _ _ _).mono ?_
      rintro e w' ⟨rfl, rfl⟩
      rw [unhide HG]
      go_wp2
      go_ret2
      exact ⟨rfl, below_alloc _ _⟩
    by_cases h2 : 15 < n
    · rw [if_pos (Or.inr h2)]
      go_enter Tryz.func138, Tryz.ntmps138
      go_wp2_with fail
      refine (good1_any _ _ _).mono ?_
      rintro e w' ⟨rfl, rfl⟩
      rw [unhide HG]
      go_wp2
      go_ret2
      exact ⟨rfl, below_alloc _ _⟩
    rw [if_neg (by omega)]
    by_cases h3 : 4 ≤ n
    · rw [if_pos h3]
      go_enter Tryz.func138, Tryz.ntmps138
      go_wp2_with fail
      refine (good1_any _ _ _).mono ?_
      rintro e w' ⟨rfl, rfl⟩
      rw [unhide HG]
      go_wp2
      go_ret2
      exact ⟨rfl, below_alloc _ _⟩
    rw [if_neg h3]
    obtain ⟨k, hk⟩ : ∃ k : Nat, 4 - n = (k : Int) := ⟨(4 - n).toNat, by omega⟩
    have hk19 : k ≤ 19 := by omega
    unfold rndS
    rw [hk, Int.toNat_natCast]
    have hp0 : 0 < 10 ^ k := Nat.pow_pos (by omega)
    have hp : 10 ^ k ≤ 10 ^ 19 := Nat.pow_le_pow_right (by omega) hk19
    have hx : (10 ^ 19 : Nat) = 10000000000000000000 := by decide
    rw [hx] at hp
    have ho := hide (nr_one a.natAbs (10 ^ k) hp0 (by omega)).1
    have hle := (nr_one a.natAbs (10 ^ k) hp0 (by omega)).2
    have HK := hide hk
    have HP := hide hp
    have HP0 := hide hp0
    clear hx
    obtain ⟨S, hS⟩ : ∃ S : Nat, 10 ^ k = S := ⟨_, rfl⟩
    rw [hS] at hle hp hp0
    have rS : ((nrV a.natAbs 1 S : Nat) : Int) * (S : Int) = ((nrV a.natAbs 1 S * S : Nat) : Int) := (Int.natCast_mul _ _).symm
    rw [hS] at ho
    rw [hS]
    obtain ⟨T, hT⟩ : ∃ T : Nat, nrV a.natAbs 1 S * S = T := ⟨_, rfl⟩
    rw [hT] at rS hle
    rw [hT]
    have HS := hide hS
    have HT := hide hT
    have RS := hide rS
    clear hk hS hT rS
    go_enter Tryz.func138, Tryz.ntmps138
    go_wp2_with fail
    refine (good1_any _ _ _).mono ?_
    rintro e w' ⟨rfl, rfl⟩
    rw [unhide HG]
    go_wp2_with fail
    rw [unhide HK]
    refine (power_any k _ hk19).mono ?_
    rintro e w2 ⟨rfl, rfl⟩
    rw [unhide HS]
    go_wp2_with fail
    refine (size_any a _ a1 a2).mono ?_
    rintro e w3 ⟨rfl, rfl⟩
    go_wp2_with fail
    refine (nearest_any a.natAbs 1 S _ (by omega) (by omega) hp0 (by omega)).mono ?_
    rintro e w4 ⟨rfl, hb⟩
    rw [unhide ho]
    have rS := unhide RS
    have hT2 : (T : Int) < 18446744073709551616 := by omega
    generalize nrV a.natAbs 1 S = Q at *
    go_wp2_with fail
    refine (signed_any _ _ _ (by omega) (by omega)).mono ?_
    rintro e w5 ⟨rfl, rfl⟩
    go_wp2
    go_ret2
    exact ⟨rfl, below_tr rfl hb⟩
end Go.Proofs.YtbeijnflfmjgfaaGreatDoor

namespace Go.Proofs.YtbeijnflfmjgfaaGreatDoor
open Go.RowKit

def nrI (a b : Int) : Int := a / b + (if b ≤ 2 * (a % b) then 1 else 0)
theorem divmod_of {a q b r : Int} (h : a = q * b + r) (h0 : 0 ≤ r) (h1 : r < b) : a / b = q ∧ a % b = r := by
  have hb : 0 < b := by omega
  constructor
  · rw [h, Int.add_comm, Int.add_mul_ediv_right _ _ (by omega), Int.ediv_eq_zero_of_lt h0 h1]; omega
  · rw [h, Int.add_comm, Int.add_mul_emod_self_right, Int.emod_eq_of_lt h0 h1]
theorem one_arr (w : World) (t : TypeId) (k : Int) : Arr (w.alloc (.cells #[.int .i64 k] t)) (.slice (some ⟨w.heap.size, 0, none⟩) 1 1) [k] := by
  refine Or.inr ⟨w.heap.size, 0, 1, rfl, by simp, by simp, fun i hi => ?_⟩
  have : i = 0 := by simpa using hi
  subst this
  simp
theorem dig_one : Dc.Dig [1] := by intro x hx; simp at hx; subst hx; omega

set_option maxRecDepth 100000 in
set_option maxHeartbeats 4000000 in
theorem nearest_ref (va vb : Value) (xs ys : List Int) (w : World) (hx : xs.length ≤ 200) (hy : ys.length ≤ 200) (hva : Arr w va xs) (hvb : Arr w vb ys) (dx : Dc.Dig xs) (dy : Dc.Dig ys) (cy : Dc.Cn ys) (hpos : 0 < Dc.val ys) :
    Calls Tryz.prog 85 #[va, vb] w fun e w' => NumPost (nrI (Dc.val xs) (Dc.val ys)) (max xs.length 1 + 1) w e w' := by
  have HVA := hide hva
  have HVB := hide hvb
  have HD := hide (And.intro dx (And.intro dy (And.intro cy hpos)))
  clear hva hvb dx dy cy hpos
  go_enter Tryz.func85, Tryz.ntmps85
  go_wp2_with fail
  refine (over_ref va vb xs ys _ hx hy (unhide HVA) (unhide HVB) (unhide HD).1 (unhide HD).2.1 (unhide HD).2.2.1 (unhide HD).2.2.2).mono ?_
  rintro e w1 ⟨b1, vq, vr, qs, rs, rfl, q1, r1, q2, q3, r2, r3, es, rl, ql, rlen, fq⟩
  have Q := hide (And.intro q1 (And.intro q2 (And.intro q3 (And.intro ql fq))))
  have R := hide (And.intro r1 (And.intro r2 (And.intro r3 (And.intro rl rlen))))
  obtain ⟨d1, d2⟩ := divmod_of es (Dc.val_nonneg rs r2) rl
  have ED := hide (And.intro d1 d2)
  clear q1 r1 q2 q3 r2 r3 es rl ql rlen d1 d2 fq
  go_wp2_with fail
  refine (plus_ref vr vr rs rs _ (by have := (unhide R).2.2.2.2; omega) (by have := (unhide R).2.2.2.2; omega) (unhide R).1 (unhide R).1 (unhide R).2.1 (unhide R).2.1).mono ?_
  rintro e w2 ⟨b2, vt, ts, rfl, t1, t2, t3, t4, t5⟩
  have T := hide (And.intro t1 (And.intro t2 (And.intro t3 (And.intro t4 t5))))
  have b12 := below_next b1 b2
  clear t1 t2 t3 t4 t5
  go_wp2_with fail
  refine (below_any vt vb ts ys _ (by have := (unhide T).2.2.2.2; have := (unhide R).2.2.2.2; omega) (by omega) (unhide T).1 ((unhide HVB).below (Nat.le_refl _) b12) (unhide T).2.1 (unhide HD).2.1 (unhide T).2.2.1 (unhide HD).2.2.1).mono ?_
  rintro e w3 ⟨rfl, b3⟩
  have b13 := below_next b12 b3
  rw [(unhide T).2.2.2.1]
  by_cases hl : Dc.val rs + Dc.val rs < Dc.val ys
  · rw [decide_eq_true hl]
    have HN : Hid (Dc.val qs = nrI (Dc.val xs) (Dc.val ys)) := hide (by unfold nrI; rw [(unhide ED).1, (unhide ED).2, if_neg (by omega)]; omega)
    have b23 := below_next b2 b3
    clear hl
    go_wp2
    go_ret
    exact ⟨b13, vq, qs, rfl, (unhide Q).1.below (Nat.le_refl _) b23, (unhide Q).2.1, (unhide Q).2.2.1, unhide HN, by have := (unhide Q).2.2.2; omega, (unhide Q).2.2.2.2⟩
  · rw [decide_eq_false hl]
    have HN : Hid (Dc.val qs + Dc.val [1] = nrI (Dc.val xs) (Dc.val ys)) := hide (by unfold nrI; rw [(unhide ED).1, (unhide ED).2, if_pos (by omega)]; simp [Dc.val])
    have b23 := below_next b2 b3
    have Q3 := hide ((unhide Q).1.below (Nat.le_refl _) b23)
    clear hl
    go_wp2_with fail
    refine (plus_ref vq _ qs [1] _ (by have := (unhide Q).2.2.2; omega) (by simp) ((unhide Q3).below (Nat.le_refl _) ((Below.refl _ _).alloc (Nat.le_refl _) _)) (one_arr _ _ _) (unhide Q).2.1 dig_one).mono ?_
    rintro e w4 ⟨b4, vs, ss, rfl, s1, s2, s3, s4, s5⟩
    have S := hide (And.intro s1 (And.intro s2 (And.intro s3 (And.intro s4 s5))))
    clear s1 s2 s3 s4 s5
    go_wp2
    go_ret
    obtain ⟨s1, s2, s3, s4, s5, s6⟩ := unhide S
    exact ⟨below_next (b13.alloc (by have := b13.size; omega) _) b4, vs, ss, rfl, s1, s2, s3, by rw [s4]; exact unhide HN, by have := (unhide Q).2.2.2; simp at s5; omega, fr_mono s6 (by have := b13.size; simp; omega)⟩

theorem sc_ref (neg : Bool) (x y z : Nat) (_hz : 0 < z) : (sgnN neg (nrI ((x : Int) * (y : Int)) (z : Int)), sgnE (nrI ((x : Int) * (y : Int)) (z : Int))) = scR neg x y z := by
  have e : nrI ((x : Int) * (y : Int)) (z : Int) = ((x * y / z + (if z ≤ 2 * (x * y % z) then 1 else 0) : Nat) : Int) := by
    unfold nrI
    rw [← Int.natCast_mul, ← Int.natCast_ediv, ← Int.natCast_emod]
    by_cases h : z ≤ 2 * (x * y % z)
    · rw [if_pos h, if_pos (by omega)]; simp
    · rw [if_neg h, if_neg (by omega)]; simp
  rw [e]
  unfold scR
  by_cases h : x * y / z ≤ 9000000000000000000
  · have hk : nrOk x y z = true := decide_eq_true h
    have hv : nrV x y z = x * y / z + (if z ≤ 2 * (x * y % z) then 1 else 0) := by unfold nrV; rw [if_pos hk]
    rw [if_pos hk, hv]
  · have hk : ¬ nrOk x y z = true := by unfold nrOk; rw [decide_eq_true_iff]; exact h
    rw [if_neg hk]
    have hgt : (9000000000000000000 : Int) < ((x * y / z + (if z ≤ 2 * (x * y % z) then 1 else 0) : Nat) : Int) := by
      rw [Int.natCast_add]
      have : (9000000000000000000 : Int) < ((x * y / z : Nat) : Int) := by
        have := Nat.lt_of_not_le h
        exact Int.ofNat_lt.2 this
      omega
    unfold sgnN sgnE
    rw [if_pos hgt, if_pos hgt]

theorem val_pos {ys : List Int} {b : Int} (h : Dc.val ys = (b.natAbs : Int)) (hb : b ≠ 0) : 0 < Dc.val ys := by rw [h]; omega

set_option maxRecDepth 100000 in
set_option maxHeartbeats 4000000 in
theorem mul_ref (a b : Int) (w : World) : Calls Tryz.prog 45 #[.int .i64 a, .int .i64 b] w fun e w' => PairPost (mulR a b) w e w' := by
  cases hg : (goodB a && goodB b)
  · have hs : mulR a b = (0, 5) := by unfold mulR; rw [hg]; rfl
    rw [hs]
    clear hs
    cases ha : goodB a
    · have HA := hide ha
      clear ha hg
      go_enter Tryz.func45, Tryz.ntmps45
      go_wp2_with fail
      refine (good_ref a _).mono ?_
      rintro e w1 ⟨rfl, rfl⟩
      rw [unhide HA]
      go_wp2_with fail
      refine (good_ref b _).mono ?_
      rintro e w2 ⟨rfl, rfl⟩
      go_wp2
      go_ret2
      exact ⟨rfl, Below.refl _ _⟩
    · have hb : goodB b = false := by rw [ha] at hg; exact hg
      have HA := hide ha
      have HB := hide hb
      clear ha hb hg
      go_enter Tryz.func45, Tryz.ntmps45
      go_wp2_with fail
      refine (good_ref a _).mono ?_
      rintro e w1 ⟨rfl, rfl⟩
      rw [unhide HA]
      go_wp2_with fail
      refine (good_ref b _).mono ?_
      rintro e w2 ⟨rfl, rfl⟩
      rw [unhide HB]
      go_wp2
      go_ret2
      exact ⟨rfl, Below.refl _ _⟩
  · have hs : mulR a b = scR (decide (a < 0) != decide (b < 0)) a.natAbs b.natAbs 10000 := by unfold mulR; rw [hg]; rfl
    rw [hs]
    have HSC := hide (sc_ref (decide (a < 0) != decide (b < 0)) a.natAbs b.natAbs 10000 (by omega))
    rw [Bool.and_eq_true] at hg
    have HA := hide hg.1
    have HB := hide hg.2
    rw [goodB_iff, goodB_iff] at hg
    obtain ⟨⟨a1, a2⟩, v1, v2⟩ := hg
    clear hs
    go_enter Tryz.func45, Tryz.ntmps45
    go_wp2_with fail
    refine (good_ref a _).mono ?_
    rintro e w1 ⟨rfl, rfl⟩
    rw [unhide HA]
    go_wp2_with fail
    refine (good_ref b _).mono ?_
    rintro e w2 ⟨rfl, rfl⟩
    rw [unhide HB]
    go_wp2_with fail
    refine (digits_ref a _ (by omega) (by omega)).mono ?_
    rintro e w3 ⟨b3, va, xs, rfl, x1, x2, x3, x4, x5⟩
    have X := hide (And.intro x1 (And.intro x2 (And.intro x3 (And.intro x4 x5))))
    clear x1 x2 x3 x4 x5
    go_wp2_with fail
    refine (digits_ref b _ (by omega) (by omega)).mono ?_
    rintro e w4 ⟨b4, vb, ys, rfl, y1, y2, y3, y4, y5⟩
    have Y := hide (And.intro y1 (And.intro y2 (And.intro y3 (And.intro y4 y5))))
    have b14 := below_next b3 b4
    clear y1 y2 y3 y4 y5
    go_wp2_with fail
    refine (times_ref va vb xs ys _ (by have := (unhide X).2.2.2.2; omega) (by have := (unhide Y).2.2.2.2; omega) ((unhide X).1.below (Nat.le_refl _) b4) (unhide Y).1 (unhide X).2.1 (unhide Y).2.1).mono ?_
    rintro e w5 ⟨b5, vm, ms, rfl, m1, m2, m3, m4, m5⟩
    have M : Hid (Arr w5 vm ms ∧ Dc.Dig ms ∧ Dc.Cn ms ∧ Dc.val ms = (a.natAbs : Int) * (b.natAbs : Int) ∧ ms.length ≤ 50) := hide ⟨m1, m2, m3, by rw [m4, (unhide X).2.2.2.1, (unhide Y).2.2.2.1], by have := (unhide X).2.2.2.2; have := (unhide Y).2.2.2.2; omega⟩
    have b15 := below_next b14 b5
    clear m1 m2 m3 m4 m5
    go_wp2_with fail
    refine (digits_ref 10000 _ (by omega) (by omega)).mono ?_
    rintro e w6 ⟨b6, vs, ss, rfl, s1, s2, s3, s4, s5⟩
    have S : Hid (Arr w6 vs ss ∧ Dc.Dig ss ∧ Dc.Cn ss ∧ Dc.val ss = 10000 ∧ ss.length ≤ 19) := hide ⟨s1, s2, s3, s4, s5.1⟩
    have b16 := below_next b15 b6
    clear s1 s2 s3 s4 s5
    go_wp2_with fail
    refine (nearest_ref vm vs ms ss _ (by have := (unhide M).2.2.2.2; omega) (by have := (unhide S).2.2.2.2; omega) ((unhide M).1.below (Nat.le_refl _) b6) (unhide S).1 (unhide M).2.1 (unhide S).2.1 (unhide S).2.2.1 (by rw [(unhide S).2.2.2.1]; omega)).mono ?_
    rintro e w7 ⟨b7, vn, ns, rfl, n1, n2, n3, n4, n5⟩
    have N : Hid (Arr w7 vn ns ∧ Dc.Dig ns ∧ Dc.Cn ns ∧ Dc.val ns = nrI ((a.natAbs : Int) * (b.natAbs : Int)) 10000 ∧ ns.length ≤ 900) := hide ⟨n1, n2, n3, by rw [n4, (unhide M).2.2.2.1, (unhide S).2.2.2.1], by have := (unhide M).2.2.2.2; omega⟩
    have b17 := below_next b16 b7
    clear n1 n2 n3 n4 n5
    go_wp2_with fail
    refine (number_ref vn ns _ _ (unhide N).2.2.2.2 (unhide N).1 (unhide N).2.1 (unhide N).2.2.1).mono ?_
    rintro e w8 ⟨rfl, b8⟩
    rw [(unhide N).2.2.2.1]
    have hsc := unhide HSC
    have HSC1 : Hid (sgnN (decide (a < 0) != decide (b < 0)) (nrI ((a.natAbs : Int) * (b.natAbs : Int)) 10000) = (scR (decide (a < 0) != decide (b < 0)) a.natAbs b.natAbs 10000).1 ∧ sgnE (nrI ((a.natAbs : Int) * (b.natAbs : Int)) 10000) = (scR (decide (a < 0) != decide (b < 0)) a.natAbs b.natAbs 10000).2) := hide ⟨by rw [← hsc]; rfl, by rw [← hsc]; rfl⟩
    clear hsc
    go_wp2
    go_ret2
    exact ⟨by rw [← (unhide HSC1).1, ← (unhide HSC1).2]; rfl, below_next b17 b8⟩
end Go.Proofs.YtbeijnflfmjgfaaGreatDoor

namespace Go.Proofs.YtbeijnflfmjgfaaGreatDoor
open Go.RowKit

set_option maxRecDepth 100000 in
set_option maxHeartbeats 4000000 in
theorem div_ref (a b : Int) (w : World) : Calls Tryz.prog 46 #[.int .i64 a, .int .i64 b] w fun e w' => PairPost (divR a b) w e w' := by
  cases hg : (goodB a && goodB b)
  · have hs : divR a b = (0, 5) := by unfold divR; rw [hg]; rfl
    rw [hs]
    clear hs
    cases ha : goodB a
    · have HA := hide ha
      clear ha hg
      go_enter Tryz.func46, Tryz.ntmps46
      go_wp2_with fail
      refine (good_ref a _).mono ?_
      rintro e w1 ⟨rfl, rfl⟩
      rw [unhide HA]
      go_wp2_with fail
      refine (good_ref b _).mono ?_
      rintro e w2 ⟨rfl, rfl⟩
      go_wp2
      go_ret2
      exact ⟨rfl, Below.refl _ _⟩
    · have hb : goodB b = false := by rw [ha] at hg; exact hg
      have HA := hide ha
      have HB := hide hb
      clear ha hb hg
      go_enter Tryz.func46, Tryz.ntmps46
      go_wp2_with fail
      refine (good_ref a _).mono ?_
      rintro e w1 ⟨rfl, rfl⟩
      rw [unhide HA]
      go_wp2_with fail
      refine (good_ref b _).mono ?_
      rintro e w2 ⟨rfl, rfl⟩
      rw [unhide HB]
      go_wp2
      go_ret2
      exact ⟨rfl, Below.refl _ _⟩
  · have hs : divR a b = (if b = 0 then (0, 6) else scR (decide (a < 0) != decide (b < 0)) a.natAbs 10000 b.natAbs) := by unfold divR; rw [hg]; rfl
    rw [hs]
    have HSC := hide (fun h0 : b ≠ 0 => sc_ref (decide (a < 0) != decide (b < 0)) a.natAbs 10000 b.natAbs (by omega))
    rw [Bool.and_eq_true] at hg
    have HA := hide hg.1
    have HB := hide hg.2
    rw [goodB_iff, goodB_iff] at hg
    obtain ⟨⟨a1, a2⟩, v1, v2⟩ := hg
    clear hs
    by_cases hb0 : b = 0
    · rw [if_pos hb0]
      have hbb : (b == 0) = true := by rw [beq_iff_eq]; exact hb0
      clear HSC hb0
      go_enter Tryz.func46, Tryz.ntmps46
      go_wp2_with fail
      refine (good_ref a _).mono ?_
      rintro e w1 ⟨rfl, rfl⟩
      rw [unhide HA]
      go_wp2_with fail
      refine (good_ref b _).mono ?_
      rintro e w2 ⟨rfl, rfl⟩
      rw [unhide HB]
      go_wp2
      go_ret2
      exact ⟨rfl, Below.refl _ _⟩
    · rw [if_neg hb0]
      have HSC := hide (unhide HSC hb0)
      have hbb : (b == 0) = false := by rw [beq_eq_false_iff_ne]; exact hb0
      have HB0 := hide hb0
      clear hb0
      go_enter Tryz.func46, Tryz.ntmps46
      go_wp2_with fail
      refine (good_ref a _).mono ?_
      rintro e w1 ⟨rfl, rfl⟩
      rw [unhide HA]
      go_wp2_with fail
      refine (good_ref b _).mono ?_
      rintro e w2 ⟨rfl, rfl⟩
      rw [unhide HB]
      go_wp2_with fail
      refine (digits_ref a _ (by omega) (by omega)).mono ?_
      rintro e w3 ⟨b3, va, xs, rfl, x1, x2, x3, x4, x5⟩
      have X := hide (And.intro x1 (And.intro x2 (And.intro x3 (And.intro x4 x5))))
      clear x1 x2 x3 x4 x5
      go_wp2_with fail
      refine (digits_ref b _ (by omega) (by omega)).mono ?_
      rintro e w4 ⟨b4, vb, ys, rfl, y1, y2, y3, y4, y5⟩
      have Y := hide (And.intro y1 (And.intro y2 (And.intro y3 (And.intro y4 y5))))
      have b14 := below_next b3 b4
      clear y1 y2 y3 y4 y5
      go_wp2_with fail
      refine (digits_ref 10000 _ (by omega) (by omega)).mono ?_
      rintro e w5 ⟨b5, vs, ss, rfl, s1, s2, s3, s4, s5⟩
      have S : Hid (Arr w5 vs ss ∧ Dc.Dig ss ∧ Dc.Cn ss ∧ Dc.val ss = 10000 ∧ ss.length ≤ 19) := hide ⟨s1, s2, s3, s4, s5.1⟩
      have b15 := below_next b14 b5
      have b45 := below_next b4 b5
      clear s1 s2 s3 s4 s5
      go_wp2_with fail
      refine (times_ref va vs xs ss _ (by have := (unhide X).2.2.2.2; omega) (by have := (unhide S).2.2.2.2; omega) ((unhide X).1.below (Nat.le_refl _) b45) (unhide S).1 (unhide X).2.1 (unhide S).2.1).mono ?_
      rintro e w6 ⟨b6, vm, ms, rfl, m1, m2, m3, m4, m5⟩
      have M : Hid (Arr w6 vm ms ∧ Dc.Dig ms ∧ Dc.Cn ms ∧ Dc.val ms = (a.natAbs : Int) * ((10000 : Nat) : Int) ∧ ms.length ≤ 50) := hide ⟨m1, m2, m3, by rw [m4, (unhide X).2.2.2.1, (unhide S).2.2.2.1]; rfl, by have := (unhide X).2.2.2.2; have := (unhide S).2.2.2.2; omega⟩
      have b16 := below_next b15 b6
      have b56 := below_next b5 b6
      clear m1 m2 m3 m4 m5
      go_wp2_with fail
      refine (nearest_ref vm vb ms ys _ (by have := (unhide M).2.2.2.2; omega) (by have := (unhide Y).2.2.2.2; omega) (unhide M).1 ((unhide Y).1.below (Nat.le_refl _) b56) (unhide M).2.1 (unhide Y).2.1 (unhide Y).2.2.1 (val_pos (unhide Y).2.2.2.1 (unhide HB0))).mono ?_
      rintro e w7 ⟨b7, vn, ns, rfl, n1, n2, n3, n4, n5⟩
      have N : Hid (Arr w7 vn ns ∧ Dc.Dig ns ∧ Dc.Cn ns ∧ Dc.val ns = nrI ((a.natAbs : Int) * ((10000 : Nat) : Int)) (b.natAbs : Int) ∧ ns.length ≤ 900) := hide ⟨n1, n2, n3, by rw [n4, (unhide M).2.2.2.1, (unhide Y).2.2.2.1], by have := (unhide M).2.2.2.2; omega⟩
      have b17 := below_next b16 b7
      clear n1 n2 n3 n4 n5
      go_wp2_with fail
      refine (number_ref vn ns _ _ (unhide N).2.2.2.2 (unhide N).1 (unhide N).2.1 (unhide N).2.2.1).mono ?_
      rintro e w8 ⟨rfl, b8⟩
      rw [(unhide N).2.2.2.1]
      have hsc := unhide HSC
      have HSC1 : Hid (sgnN (decide (a < 0) != decide (b < 0)) (nrI ((a.natAbs : Int) * ((10000 : Nat) : Int)) (b.natAbs : Int)) = (scR (decide (a < 0) != decide (b < 0)) a.natAbs 10000 b.natAbs).1 ∧ sgnE (nrI ((a.natAbs : Int) * ((10000 : Nat) : Int)) (b.natAbs : Int)) = (scR (decide (a < 0) != decide (b < 0)) a.natAbs 10000 b.natAbs).2) := hide ⟨by rw [← hsc], by rw [← hsc]⟩
      have b18 := below_next b17 b8
      clear hsc HSC
      go_wp2
      go_ret2
      exact ⟨by rw [← (unhide HSC1).1, ← (unhide HSC1).2]; rfl, b18⟩

end Go.Proofs.YtbeijnflfmjgfaaGreatDoor

namespace Go.Proofs.YtbeijnflfmjgfaaGreatDoor
open Go.RowKit

theorem two_arr (w : World) (t : TypeId) (k l : Int) : Arr (w.alloc (.cells #[.int .i64 k, .int .i64 l] t)) (.slice (some ⟨w.heap.size, 0, none⟩) 2 2) [k, l] := by
  refine Or.inr ⟨w.heap.size, 0, 2, rfl, by simp, by simp, fun i hi => ?_⟩
  have : i = 0 ∨ i = 1 := by simp at hi; omega
  rcases this with rfl | rfl <;> simp
theorem dig_ten : Dc.Dig [0, 1] := by intro x hx; simp at hx; rcases hx with rfl | rfl <;> omega
theorem val_ten : Dc.val [0, 1] = 10 := by simp [Dc.val]
theorem cn_one : Dc.Cn [1] := by
  intro x l' e
  have h := congrArg List.reverse e
  rw [List.reverse_append] at h
  simp at h
  omega

def PowAt (w : World) (v : Value) (m : Nat) : Prop := ∃ ss, Arr w v ss ∧ Dc.Dig ss ∧ Dc.Cn ss ∧ Dc.val ss = 10 ^ m ∧ ss.length ≤ 1 + 3 * m
theorem PowAt.below {w w' : World} {v : Value} {m : Nat} (h : PowAt w v m) (hb : Below w.heap.size w w') : PowAt w' v m := by
  obtain ⟨ss, h1, h2⟩ := h
  exact ⟨ss, h1.below (Nat.le_refl _) hb, h2⟩
theorem pow_one (w : World) (t : TypeId) : PowAt (w.alloc (.cells #[.int .i64 1] t)) (.slice (some ⟨w.heap.size, 0, none⟩) 1 1) 0 :=
  ⟨[1], one_arr w t 1, dig_one, cn_one, by simp [Dc.val], by simp⟩
theorem times_ten (v : Value) (m : Nat) (w : World) (t : TypeId) (hm : m ≤ 40) (h : PowAt w v m) :
    Calls Tryz.prog 84 #[v, .slice (some ⟨w.heap.size, 0, none⟩) 2 2] (w.alloc (.cells #[.int .i64 0, .int .i64 1] t)) fun e w' => Below w.heap.size w w' ∧ ∃ v', e = .returned v' ∧ PowAt w' v' (m + 1) := by
  obtain ⟨ss, h1, h2, h3, h4, h5⟩ := h
  have ba : Below w.heap.size w (w.alloc (.cells #[.int .i64 0, .int .i64 1] t)) := (Below.refl _ _).alloc (Nat.le_refl _) _
  refine (times_ref v _ ss [0, 1] _ (by omega) (by simp) (h1.below (Nat.le_refl _) ba) (two_arr w t 0 1) h2 dig_ten).mono ?_
  rintro e w1 ⟨b1, v', zs, rfl, z1, z2, z3, z4, z5, _⟩
  refine ⟨below_next ba b1, v', rfl, zs, z1, z2, z3, by rw [z4, h4, val_ten, Int.pow_succ], ?_⟩
  simp at z5
  omega

end Go.Proofs.YtbeijnflfmjgfaaGreatDoor

namespace Go.Proofs.YtbeijnflfmjgfaaGreatDoor
open Go.RowKit

end Go.Proofs.YtbeijnflfmjgfaaGreatDoor

namespace Go.Proofs.YtbeijnflfmjgfaaGreatDoor
open Go.RowKit Go.Sort

theorem below_put {α : Type} [Inhabited α] {enc : α → Value} {B : Nat} {w0 w : World} {g o : Nat} {d : Array α} (h : Below B w0 w) (hg : B ≤ g) : Below B w0 (putRow enc w g o d) :=
  ⟨h.os, h.tape, h.output, by simpa [putRow, mapBlock] using h.size, fun k hk => by
    rw [← h.block k hk]
    simp [putRow, mapBlock, Array.getElem?_modify, show g ≠ k by omega]⟩

theorem holds_zero0 (w : World) (T : TypeId) (nd : Nat) (hs : nd ≤ 24) : Holds (fun (b : UInt8) => Value.int .u8 (b.toNat : Int)) (w.alloc (.cells Lib.zeros24 T)) w.heap.size 0 (Array.replicate nd (0 : UInt8)) := fun j hj => by
  have hj' : j < nd := by simpa using hj
  refine ⟨?_, World.frozen?_alloc_new _ _ _ _⟩
  rw [World.cell?_alloc_new, Lib.zeros24_at _ (by omega), getElem!_pos _ j hj]
  simp

abbrev powTab (w : World) : Prop := Lib.TabIs Tryz.prog w "internal/strconv.uint64pow10" .u64 Lib.pow10Tab

set_option maxHeartbeats 1600000 in
set_option maxRecDepth 100000 in
theorem formatUint_in (u : Nat) (w : World) (hu64 : u < 18446744073709551616) (htab : powTab w) :
    Calls Tryz.prog 195 #[.int .u64 (u : Int), .int .i64 10] w fun e w' => e = .returned (.string ⟨(Lib.decDigits u).toArray⟩) ∧ Below w.heap.size w w' := by
  by_cases hs : u < 100
  · have hs' : (u : Int) < 100 := by omega
    go_enter Tryz.func195, Tryz.ntmps195
    go_wp2_with fail
    refine (Tryz.internal_strconv_small u hs _).mono ?_
    rintro e w' ⟨rfl, rfl⟩
    go_wp2
    go_ret
    exact ⟨rfl, Below.refl _ _⟩
  · have hu1 : 1 ≤ u := by omega
    have hnd20 : Lib.nDigits u ≤ 20 := by have := Lib.numDigits_eq u hu1 hu64; split at this <;> omega
    have hal : Tryz.prog.arrayLen 200 = 24 := by simp [Program.arrayLen, Tryz.underlying200]
    have hsl1 : ∀ W, (Instr.sliceAt 200 (.pointer (some ⟨w.heap.size, 0, none⟩)) none (some (.int .i64 (Lib.nDigits u : Int))) none).run Tryz.prog W = .ok (.slice (some ⟨w.heap.size, 0, none⟩) (Lib.nDigits u) 24) W := fun W => by
      rw [run_sliceAt_array_h W 200 ⟨w.heap.size, 0, none⟩ (by simp [Program.arrayLen, Program.elem, Tryz.underlying200]) .i64 (Lib.nDigits u : Int) (by omega) (by rw [hal]; omega)]
      go_simp
    have hH0 := holds_zero0 w 200 (Lib.nDigits u) (by omega)
    have hfmt := Tryz.internal_strconv_formatBase10 w.heap.size 0 24 u (Array.replicate (Lib.nDigits u) 0) (w.alloc (.cells Lib.zeros24 200)) hH0 (by rw [Array.size_replicate]; exact Lib.lt_pow_nDigits u) hu64 (by rw [Array.size_replicate]; omega)
    rw [Array.size_replicate] at hfmt
    have HH0 := hide hH0
    have HF := hide hfmt
    have HTAB := hide htab
    have hs' : 100 ≤ (u : Int) := by omega
    clear hH0 hal hfmt htab
    go_enter Tryz.func195, Tryz.ntmps195
    go_wp2_with fail
    refine (Tryz.internal_strconv_numDigits u hu1 hu64 _ (Lib.tabIs_alloc (unhide HTAB) _)).mono ?_
    rintro e w' ⟨rfl, rfl⟩
    go_wp2_with fail
    refine (unhide HF).mono ?_
    rintro e w' ⟨rfl, k, v', dk, rfl, hF⟩
    have hcv : (convert 133 9 (.slice (some ⟨w.heap.size, 0, none⟩) (Lib.nDigits u) 24)).run Tryz.prog ((putRow (fun (b : UInt8) => Value.int .u8 (b.toNat : Int)) (w.alloc (.cells Lib.zeros24 200)) w.heap.size 0 dk).drewN k) = .ok (.string ⟨(Lib.decDigits u).toArray⟩) ((putRow (fun (b : UInt8) => Value.int .u8 (b.toNat : Int)) (w.alloc (.cells Lib.zeros24 200)) w.heap.size 0 dk).drewN k) := by
      have h := run_convert_bytes_back (P := Tryz.prog) ((putRow (fun (b : UInt8) => Value.int .u8 (b.toNat : Int)) (w.alloc (.cells Lib.zeros24 200)) w.heap.size 0 dk).drewN k) 133 9 5 ⟨w.heap.size, 0, none⟩ 24 (Lib.decDigits u) Tryz.underlying133 Tryz.underlying5 Tryz.underlying9 (fun j hj => by
        rw [Lib.row_is_numeral hF j hj, Lib.add_plain, World.cell?_drewN]
        exact cell?_putRow (fun (b : UInt8) => Value.int .u8 (b.toNat : Int)) _ w.heap.size 0 _ dk (unhide HH0) (by rw [hF.size, Array.size_replicate]) j (by rw [hF.size]; rw [Lib.decDigits_length] at hj; exact hj))
      rw [Lib.decDigits_length] at h
      exact h
    go_wp2
    go_ret
    exact ⟨rfl, below_drewN (below_put ((Below.refl _ _).alloc (Nat.le_refl _) _) (Nat.le_refl _)) _⟩

set_option maxHeartbeats 400000 in
theorem formatUint_any (u : Nat) (w : World) (hu64 : u < 18446744073709551616) (htab : powTab w) :
    Calls Tryz.prog 183 #[.int .u64 (u : Int), .int .i64 10] w fun e w' => e = .returned (.string ⟨(Lib.decDigits u).toArray⟩) ∧ Below w.heap.size w w' := by
  have HT := hide htab
  clear htab
  go_enter Tryz.func183, Tryz.ntmps183
  go_wp2_with fail
  refine (formatUint_in u _ hu64 (unhide HT)).mono ?_
  rintro e w' ⟨rfl, hb⟩
  go_wp2
  go_ret
  exact ⟨rfl, hb⟩
end Go.Proofs.YtbeijnflfmjgfaaGreatDoor

namespace Go.Proofs.YtbeijnflfmjgfaaGreatDoor
open Go.RowKit

theorem tab_below {w w' : World} (h : powTab w) (hb : Below w.heap.size w w') : powTab w' := by
  unfold powTab Lib.TabIs World.var? at *
  cases hg : Tryz.prog.globalNamed "internal/strconv.uint64pow10" with
  | none => simp [hg] at h
  | some g =>
    simp only [hg, Option.bind_some] at h ⊢
    have hlt : g < w.heap.size := by
      rcases Nat.lt_or_ge g w.heap.size with h' | h'
      · exact h'
      · rw [Array.getElem?_eq_none h'] at h; simp at h
    rw [hb.block g hlt]
    exact h

theorem ba_app (x y : List UInt8) : (⟨x.toArray⟩ : ByteArray) ++ ⟨y.toArray⟩ = ⟨(x ++ y).toArray⟩ := by
  apply ByteArray.ext; simp
theorem ba_extract (x : List UInt8) (i n : Nat) (h : n = x.length) : (⟨x.toArray⟩ : ByteArray).extract i n = ⟨(x.drop i).toArray⟩ := by
  subst h
  apply ByteArray.ext
  simp only [ByteArray.data_extract, List.extract_toArray, List.extract_eq_take_drop]
  rw [List.take_of_length_le (by simp)]
theorem dec_len (u : Nat) (h : u < 18446744073709551616) : 1 ≤ (Lib.decDigits u).length ∧ (Lib.decDigits u).length ≤ 20 := by
  rw [Lib.decDigits_length]
  by_cases h1 : 1 ≤ u
  · have := Lib.numDigits_eq u h1 h
    refine ⟨?_, by split at this <;> omega⟩
    by_cases h0 : Lib.nDigits u = 0
    · have := Lib.lt_pow_nDigits u; rw [h0] at this; omega
    · omega
  · have : u = 0 := by omega
    subst this
    decide +kernel

theorem trim_len (l : List UInt8) : (Lib.trimRightB l 48).length ≤ l.length := by
  unfold Lib.trimRightB
  rw [List.length_reverse]
  have h : l.reverse.length = l.length := List.length_reverse
  have := (List.dropWhile_sublist (fun b => b == (48 : UInt8)) (l := l.reverse)).length_le
  omega

theorem ret_str {a b : ByteArray} (h : a = b) : Ending.returned (.string a) = .returned (.string b) := by rw [h]
theorem below_then {w a b : World} (h : Below w.heap.size w a) (k : Below a.heap.size a b) : Below w.heap.size w b := h.trans (k.mono h.size)

def fracL (r : Nat) : List UInt8 := if r = 0 then [] else 46 :: Lib.trimRightB ((Lib.decDigits (10000 + r)).drop 1) 48
def absL (p : Nat) : List UInt8 := Lib.decDigits (p / 10000) ++ fracL (p % 10000)
def textL (a : Int) : List UInt8 := if goodB a = true then (if a < 0 then 45 :: absL a.natAbs else absL a.natAbs) else []

set_option maxHeartbeats 1000000 in
theorem text_any (a : Int) (w : World) (htab : powTab w) :
    Calls Tryz.prog 168 #[.int .i64 a] w fun e w' => e = .returned (.string ⟨(textL a).toArray⟩) ∧ Below w.heap.size w w' := by
  cases hg : goodB a
  · have hs : textL a = [] := by unfold textL; rw [hg]; rfl
    have HG := hide hg
    rw [hs]
    clear hg hs htab
    go_enter Tryz.func168, Tryz.ntmps168
    go_wp2_with fail
    refine (good1_any _ _ _).mono ?_
    rintro e w' ⟨rfl, rfl⟩
    rw [unhide HG]
    go_wp2
    go_ret
    exact ⟨rfl, below_alloc _ _⟩
  · have HG := hide hg
    have HT := hide htab
    rw [goodB_iff] at hg
    obtain ⟨a1, a2⟩ := hg
    obtain ⟨p, hp⟩ : ∃ p : Nat, a.natAbs = p := ⟨_, rfl⟩
    have hs : textL a = (if a < 0 then 45 :: absL p else absL p) := by unfold textL; rw [unhide HG, hp]; rfl
    rw [hs]
    have hpb : p ≤ 9000000000000000000 := by omega
    have HP := hide hp
    clear hs htab hp
    have H10 : Hid ((p : Int) / 10000 = ((p / 10000 : Nat) : Int)) := hide (by omega)
    have H11 : Hid (10000 + (p : Int) % 10000 = ((10000 + p % 10000 : Nat) : Int)) := hide (by omega)
    by_cases hr : p % 10000 = 0
    · have hrr : ((p : Int) % 10000 == 0) = true := by rw [beq_iff_eq]; omega
      have hL : absL p = Lib.decDigits (p / 10000) := by unfold absL fracL; rw [if_pos hr, List.append_nil]
      rw [hL]
      have HL := hide hL
      have HR := hide hr
      clear hL hr
      by_cases hn : a < 0
      · rw [if_pos hn]
        go_enter Tryz.func168, Tryz.ntmps168
        go_wp2_with fail
        refine (good1_any _ _ _).mono ?_
        rintro e w' ⟨rfl, rfl⟩
        rw [unhide HG]
        go_wp2_with fail
        refine (size_any a _ a1 a2).mono ?_
        rintro e w2 ⟨rfl, rfl⟩
        rw [unhide HP]
        go_wp2_with fail
        rw [unhide H10]
        refine (formatUint_any (p / 10000) _ (by omega) (tab_below (unhide HT) (below_alloc _ _))).mono ?_
        rintro e w2 ⟨rfl, hb⟩
        have hDl := dec_len (p / 10000) (by omega)
        generalize hD : Lib.decDigits (p / 10000) = D at *
        obtain ⟨hD1, hD2⟩ := hDl
        have HD := hide hD
        clear hD
        go_wp2
        go_ret
        exact ⟨ret_str (by rw [unhide HD]; exact ba_app [45] D), below_tr rfl hb⟩
      · rw [if_neg hn]
        go_enter Tryz.func168, Tryz.ntmps168
        go_wp2_with fail
        refine (good1_any _ _ _).mono ?_
        rintro e w' ⟨rfl, rfl⟩
        rw [unhide HG]
        go_wp2_with fail
        refine (size_any a _ a1 a2).mono ?_
        rintro e w2 ⟨rfl, rfl⟩
        rw [unhide HP]
        go_wp2_with fail
        rw [unhide H10]
        refine (formatUint_any (p / 10000) _ (by omega) (tab_below (unhide HT) (below_alloc _ _))).mono ?_
        rintro e w2 ⟨rfl, hb⟩
        have hDl := dec_len (p / 10000) (by omega)
        generalize hD : Lib.decDigits (p / 10000) = D at *
        obtain ⟨hD1, hD2⟩ := hDl
        have HD := hide hD
        clear hD
        go_wp2
        go_ret
        exact ⟨ret_str (by rw [unhide HD]), below_tr rfl hb⟩
    · have hrr : ((p : Int) % 10000 == 0) = false := by rw [beq_eq_false_iff_ne]; omega
      have hL : absL p = Lib.decDigits (p / 10000) ++ 46 :: Lib.trimRightB ((Lib.decDigits (10000 + p % 10000)).drop 1) 48 := by unfold absL fracL; rw [if_neg hr]
      rw [hL]
      have HL := hide hL
      have HR := hide hr
      clear hL hr
      by_cases hn : a < 0
      · rw [if_pos hn]
        go_enter Tryz.func168, Tryz.ntmps168
        go_wp2_with fail
        refine (good1_any _ _ _).mono ?_
        rintro e w' ⟨rfl, rfl⟩
        rw [unhide HG]
        go_wp2_with fail
        refine (size_any a _ a1 a2).mono ?_
        rintro e w2 ⟨rfl, rfl⟩
        rw [unhide HP]
        go_wp2_with fail
        rw [unhide H10]
        refine (formatUint_any (p / 10000) _ (by omega) (tab_below (unhide HT) (below_alloc _ _))).mono ?_
        rintro e w2 ⟨rfl, hb⟩
        have hDl := dec_len (p / 10000) (by omega)
        generalize hD : Lib.decDigits (p / 10000) = D at *
        obtain ⟨hD1, hD2⟩ := hDl
        have HD := hide hD
        clear hD
        go_wp2_with fail
        rw [unhide H11]
        refine (formatUint_any (10000 + p % 10000) _ (by omega) (tab_below (unhide HT) (below_tr rfl hb))).mono ?_
        rintro e w3 ⟨rfl, hb2⟩
        have hEl := dec_len (10000 + p % 10000) (by omega)
        generalize hE : Lib.decDigits (10000 + p % 10000) = E at *
        obtain ⟨hE1, hE2⟩ := hEl
        have HE := hide hE
        clear hE
        go_wp2_with fail
        rw [ba_extract E 1 E.length rfl]
        refine (Tryz.strings_TrimRight_one _ 48 (by decide) _ (by simp [ByteArray.size]; omega)).mono ?_
        rintro e w4 ⟨rfl, rfl⟩
        have hTl := trim_len (E.drop 1)
        have hEd : (E.drop 1).length ≤ 20 := by simp; omega
        generalize hT : Lib.trimRightB (E.drop 1) 48 = T at *
        have hTl' : T.length ≤ 20 := by omega
        have HTT := hide hT
        clear hT hTl hEd
        go_wp2
        go_ret
        exact ⟨ret_str (by rw [unhide HD, unhide HE, unhide HTT]; apply ByteArray.ext; simp), below_then (below_tr rfl hb) hb2⟩
      · rw [if_neg hn]
        go_enter Tryz.func168, Tryz.ntmps168
        go_wp2_with fail
        refine (good1_any _ _ _).mono ?_
        rintro e w' ⟨rfl, rfl⟩
        rw [unhide HG]
        go_wp2_with fail
        refine (size_any a _ a1 a2).mono ?_
        rintro e w2 ⟨rfl, rfl⟩
        rw [unhide HP]
        go_wp2_with fail
        rw [unhide H10]
        refine (formatUint_any (p / 10000) _ (by omega) (tab_below (unhide HT) (below_alloc _ _))).mono ?_
        rintro e w2 ⟨rfl, hb⟩
        have hDl := dec_len (p / 10000) (by omega)
        generalize hD : Lib.decDigits (p / 10000) = D at *
        obtain ⟨hD1, hD2⟩ := hDl
        have HD := hide hD
        clear hD
        go_wp2_with fail
        rw [unhide H11]
        refine (formatUint_any (10000 + p % 10000) _ (by omega) (tab_below (unhide HT) (below_tr rfl hb))).mono ?_
        rintro e w3 ⟨rfl, hb2⟩
        have hEl := dec_len (10000 + p % 10000) (by omega)
        generalize hE : Lib.decDigits (10000 + p % 10000) = E at *
        obtain ⟨hE1, hE2⟩ := hEl
        have HE := hide hE
        clear hE
        go_wp2_with fail
        rw [ba_extract E 1 E.length rfl]
        refine (Tryz.strings_TrimRight_one _ 48 (by decide) _ (by simp [ByteArray.size]; omega)).mono ?_
        rintro e w4 ⟨rfl, rfl⟩
        have hTl := trim_len (E.drop 1)
        have hEd : (E.drop 1).length ≤ 20 := by simp; omega
        generalize hT : Lib.trimRightB (E.drop 1) 48 = T at *
        have hTl' : T.length ≤ 20 := by omega
        have HTT := hide hT
        clear hT hTl hEd
        go_wp2
        go_ret
        exact ⟨ret_str (by rw [unhide HD, unhide HE, unhide HTT]; apply ByteArray.ext; simp), below_then (below_tr rfl hb) hb2⟩
end Go.Proofs.YtbeijnflfmjgfaaGreatDoor
