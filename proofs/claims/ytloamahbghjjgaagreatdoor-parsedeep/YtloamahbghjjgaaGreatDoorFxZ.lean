/- The contracts of nearest, scaled, Mul, Div, Mod, Floor, Whole, Round. -/
import Derived.Test.YtloamahbghjjgaaGreatDoorFxC
namespace Go.Proofs.YtloamahbghjjgaaGreatDoor
open Go.RowKit

theorem div64_any (hi lo y : Nat) (w : World) (hhy : hi < y) (h1 : lo < 18446744073709551616) (hy1 : y < 18446744073709551616) :
    Calls Tryz.prog 214 #[.int .u64 (hi : Int), .int .u64 (lo : Int), .int .u64 (y : Int)] w fun e w' => e = .returned (.tuple #[.int .u64 (((hi * 18446744073709551616 + lo) / y : Nat) : Int), .int .u64 (((hi * 18446744073709551616 + lo) % y : Nat) : Int)]) ∧ Below w.heap.size w w' := by
  by_cases h : hi = 0
  · subst h
    rw [Nat.zero_mul, Nat.zero_add]
    exact div64_low lo y w h1 (by omega) hy1
  · exact div64_high hi lo y w (by omega) hhy h1 hy1

def nrOk (x y z : Nat) : Bool := decide (x * y / z ≤ 9000000000000000000)
def nrV (x y z : Nat) : Nat := if nrOk x y z = true then x * y / z + (if z ≤ 2 * (x * y % z) then 1 else 0) else 0

theorem nr_high (x y z : Nat) (hz : 0 < z) (h : z ≤ x * y / 18446744073709551616) : nrOk x y z = false := by
  unfold nrOk
  rw [decide_eq_false_iff_not]
  intro hc
  have : x * y / z < 9000000000000000001 := by omega
  rw [Nat.div_lt_iff_lt_mul hz] at this
  omega

set_option maxHeartbeats 400000 in
theorem nearest_any (x y z : Nat) (w : World) (hx : x < 18446744073709551616) (hy : y < 18446744073709551616) (hz0 : 0 < z) (hz : z < 18446744073709551616) :
    Calls Tryz.prog 180 #[.int .u64 (x : Int), .int .u64 (y : Int), .int .u64 (z : Int)] w fun e w' => e = .returned (.tuple #[.int .u64 ((nrV x y z : Nat) : Int), .bool (nrOk x y z)]) ∧ Below w.heap.size w w' := by
  by_cases hc : z ≤ x * y / 18446744073709551616
  · have ho := hide (nr_high x y z hz0 hc)
    unfold nrV
    rw [unhide ho]
    go_enter Tryz.func180, Tryz.ntmps180
    go_wp2_with fail
    refine (Tryz.bits_Mul64 x y hx hy _).mono ?_
    rintro e w' ⟨rfl, rfl⟩
    generalize x * y / 18446744073709551616 = hi at *
    generalize x * y % 18446744073709551616 = lo at *
    generalize hhi : (hi : Int) = hii at *
    generalize hzi : (z : Int) = zi at *
    have t : zi ≤ hii := by omega
    have H1 := hide hhi
    have H2 := hide hzi
    have H3 := hide hc
    clear hhi hzi hc
    go_wp2
    go_ret2
    exact ⟨rfl, Below.refl _ _⟩
  · have hlo : x * y % 18446744073709551616 < 18446744073709551616 := Nat.mod_lt _ (by omega)
    have hN : x * y / 18446744073709551616 * 18446744073709551616 + x * y % 18446744073709551616 = x * y := Nat.div_add_mod' _ _
    have hR : x * y % z < z := Nat.mod_lt _ hz0
    unfold nrV nrOk
    obtain ⟨Q, hQ⟩ : ∃ Q : Nat, x * y / z = Q := ⟨_, rfl⟩
    obtain ⟨R, hRe⟩ : ∃ R : Nat, x * y % z = R := ⟨_, rfl⟩
    rw [hQ, hRe]
    rw [hRe] at hR
    have HQ := hide hQ
    have HR := hide hRe
    clear hQ hRe
    have HN := hide hN
    clear hN
    by_cases hq : Q ≤ 9000000000000000000
    · rw [decide_eq_true hq, if_pos rfl]
      by_cases hr : z ≤ 2 * R
      · rw [if_pos hr]
        go_enter Tryz.func180, Tryz.ntmps180
        go_wp2_with fail
        refine (Tryz.bits_Mul64 x y hx hy _).mono ?_
        rintro e w' ⟨rfl, rfl⟩
        generalize hhi : ((x * y / 18446744073709551616 : Nat) : Int) = hii at *
        generalize hll : ((x * y % 18446744073709551616 : Nat) : Int) = loi at *
        generalize hzi : (z : Int) = zi at *
        have t : hii < zi := by omega
        have H1 := hide hhi
        have H2 := hide hzi
        have H3 := hide hll
        have H4 := hide hc
        have H5 := hide hlo
        have H6 := hide hR
        have H7 := hide hz
        have H8 := hide hz0
        have H9 := hide (And.intro hq hr)
        clear hhi hzi hll hc hlo hR hz hz0 hq hr
        go_wp2_with fail
        rw [← unhide H1, ← unhide H2, ← unhide H3]
        refine (div64_any _ _ _ _ (by have := unhide H4; omega) (unhide H5) (unhide H7)).mono ?_
        rintro e w2 ⟨rfl, hb⟩
        rw [unhide HN, unhide HQ, unhide HR]
        generalize hqi : (Q : Int) = qi at *
        generalize hri : (R : Int) = ri at *
        generalize hzj : (z : Int) = zj at *
        have H9' := unhide H9
        have H6' := unhide H6
        have hz7 := unhide H7
        have p1 : 0 ≤ qi := by omega
        have p2 : 0 ≤ ri := by omega
        have p4 : ri < zj := by omega
        have p5 : zj < 18446744073709551616 := by omega
        have p3 : qi ≤ 9000000000000000000 := by omega
        have p6 : zj - ri ≤ ri := by omega
        have G1 := hide hqi
        have G2 := hide hri
        have G3 := hide hzj
        clear hqi hri hzj H9' H6' t hz7
        go_wp2
        go_ret2
        exact ⟨by rw [Int.natCast_add, unhide G1]; rfl, hb⟩
      · rw [if_neg hr]
        go_enter Tryz.func180, Tryz.ntmps180
        go_wp2_with fail
        refine (Tryz.bits_Mul64 x y hx hy _).mono ?_
        rintro e w' ⟨rfl, rfl⟩
        generalize hhi : ((x * y / 18446744073709551616 : Nat) : Int) = hii at *
        generalize hll : ((x * y % 18446744073709551616 : Nat) : Int) = loi at *
        generalize hzi : (z : Int) = zi at *
        have t : hii < zi := by omega
        have H1 := hide hhi
        have H2 := hide hzi
        have H3 := hide hll
        have H4 := hide hc
        have H5 := hide hlo
        have H6 := hide hR
        have H7 := hide hz
        have H8 := hide hz0
        have H9 := hide (And.intro hq hr)
        clear hhi hzi hll hc hlo hR hz hz0 hq hr
        go_wp2_with fail
        rw [← unhide H1, ← unhide H2, ← unhide H3]
        refine (div64_any _ _ _ _ (by have := unhide H4; omega) (unhide H5) (unhide H7)).mono ?_
        rintro e w2 ⟨rfl, hb⟩
        rw [unhide HN, unhide HQ, unhide HR]
        generalize hqi : (Q : Int) = qi at *
        generalize hri : (R : Int) = ri at *
        generalize hzj : (z : Int) = zj at *
        have H9' := unhide H9
        have H6' := unhide H6
        have hz7 := unhide H7
        have p1 : 0 ≤ qi := by omega
        have p2 : 0 ≤ ri := by omega
        have p4 : ri < zj := by omega
        have p5 : zj < 18446744073709551616 := by omega
        have p3 : qi ≤ 9000000000000000000 := by omega
        have p6 : ri < zj - ri := by omega
        have G1 := hide hqi
        have G2 := hide hri
        have G3 := hide hzj
        clear hqi hri hzj H9' H6' t hz7
        go_wp2
        go_ret2
        exact ⟨by rw [Int.natCast_add, unhide G1]; exact congrArg (fun t => Ending.returned (.tuple #[.int .u64 t, .bool true])) (by omega), hb⟩
    · rw [decide_eq_false hq]
      have hr : True := trivial
      go_enter Tryz.func180, Tryz.ntmps180
      go_wp2_with fail
      refine (Tryz.bits_Mul64 x y hx hy _).mono ?_
      rintro e w' ⟨rfl, rfl⟩
      generalize hhi : ((x * y / 18446744073709551616 : Nat) : Int) = hii at *
      generalize hll : ((x * y % 18446744073709551616 : Nat) : Int) = loi at *
      generalize hzi : (z : Int) = zi at *
      have t : hii < zi := by omega
      have H1 := hide hhi
      have H2 := hide hzi
      have H3 := hide hll
      have H4 := hide hc
      have H5 := hide hlo
      have H6 := hide hR
      have H7 := hide hz
      have H8 := hide hz0
      have H9 := hide (And.intro hq hr)
      clear hhi hzi hll hc hlo hR hz hz0 hq hr
      go_wp2_with fail
      rw [← unhide H1, ← unhide H2, ← unhide H3]
      refine (div64_any _ _ _ _ (by have := unhide H4; omega) (unhide H5) (unhide H7)).mono ?_
      rintro e w2 ⟨rfl, hb⟩
      rw [unhide HN, unhide HQ, unhide HR]
      generalize hqi : (Q : Int) = qi at *
      generalize hri : (R : Int) = ri at *
      generalize hzj : (z : Int) = zj at *
      have H9' := unhide H9
      have H6' := unhide H6
      have hz7 := unhide H7
      have p1 : 0 ≤ qi := by omega
      have p2 : 0 ≤ ri := by omega
      have p4 : ri < zj := by omega
      have p5 : zj < 18446744073709551616 := by omega
      have p3 : 9000000000000000000 < qi := by omega
      have G1 := hide hqi
      have G2 := hide hri
      have G3 := hide hzj
      clear hqi hri hzj H9' H6' t hz7
      go_wp2
      go_ret2
      exact ⟨rfl, hb⟩

end Go.Proofs.YtloamahbghjjgaaGreatDoor

namespace Go.Proofs.YtloamahbghjjgaaGreatDoor
open Go.RowKit

theorem nrV_le (x y z : Nat) : nrV x y z ≤ 9000000000000000001 := by
  unfold nrV nrOk
  split
  · rename_i h
    have h := of_decide_eq_true h
    split <;> omega
  · omega

def scR (b : Bool) (x y z : Nat) : Int × Int := if nrOk x y z = true then (sgnN b (nrV x y z : Nat), sgnE (nrV x y z : Nat)) else (0, 5)

def mulR (a b : Int) : Int × Int := if (goodB a && goodB b) = true then scR (decide (a < 0) != decide (b < 0)) a.natAbs b.natAbs 10000 else (0, 5)

theorem below_tr {w a b : World} {o : Obj} (ha : a = w.alloc o) (hb : Below a.heap.size a b) : Below w.heap.size w b := by
  subst ha
  exact (below_alloc w o).trans (hb.mono (by simp))

def divR (a b : Int) : Int × Int := if (goodB a && goodB b) = true then (if b = 0 then (0, 6) else scR (decide (a < 0) != decide (b < 0)) a.natAbs 10000 b.natAbs) else (0, 5)

/-- What is left, of the divisor's sign. -/
def modV (a b : Int) : Int := if a.tmod b ≠ 0 ∧ (decide (a.tmod b < 0) != decide (b < 0)) = true then a.tmod b + b else a.tmod b
def modR (a b : Int) : Int × Int := if (goodB a && goodB b) = true then (if b = 0 then (0, 6) else (modV a b, 0)) else (0, 5)

theorem tmod_bounds (a b : Int) (ha1 : -9000000000000000000 ≤ a) (ha2 : a ≤ 9000000000000000000) (hb : b ≠ 0) :
    -9000000000000000000 ≤ a.tmod b ∧ a.tmod b ≤ 9000000000000000000 ∧ (a.tmod b).natAbs < b.natAbs := by
  have h1 : (a.tmod b).natAbs = a.natAbs % b.natAbs := Int.natAbs_tmod a b
  have h2 : a.natAbs % b.natAbs < b.natAbs := Nat.mod_lt _ (by omega)
  have h3 : a.natAbs % b.natAbs ≤ a.natAbs := Nat.mod_le _ _
  omega

end Go.Proofs.YtloamahbghjjgaaGreatDoor

namespace Go.Proofs.YtloamahbghjjgaaGreatDoor
open Go.RowKit

theorem modV_pos (a b : Int) (hb : 0 < b) : 0 ≤ modV a b ∧ modV a b < b ∧ (∃ k, a = k * b + modV a b) := by
  unfold modV
  have h0 : a.tdiv b * b + a.tmod b = a := Int.tdiv_mul_add_tmod a b
  have h1 : (a.tmod b).natAbs = a.natAbs % b.natAbs := Int.natAbs_tmod a b
  have h2 : a.natAbs % b.natAbs < b.natAbs := Nat.mod_lt _ (by omega)
  have d2 : decide (b < 0) = false := by rw [decide_eq_false_iff_not]; omega
  rw [d2]
  split
  · rename_i h
    have h3 : a.tmod b < 0 := by have := h.2; simpa using this
    refine ⟨by omega, by omega, a.tdiv b - 1, ?_⟩
    rw [Int.sub_mul]; omega
  · rename_i h
    have h3 : 0 ≤ a.tmod b := by
      rw [← Int.not_lt]
      intro hc
      exact h ⟨by omega, by simpa using hc⟩
    exact ⟨h3, by omega, a.tdiv b, by omega⟩

def floorV (a : Int) : Int := if goodB a = true then a - modV a 10000 else 0
def wholeV (a : Int) : Int := if goodB a = true then a.tdiv 10000 else 0

/-- To so many steps. -/
def rndS (a : Int) (n : Int) : Nat := nrV a.natAbs 1 (10 ^ (4 - n).toNat) * 10 ^ (4 - n).toNat
def roundR (a n : Int) : Int × Int :=
  if goodB a = true then (if n < -15 ∨ 15 < n then (0, 2) else if 4 ≤ n then (a, 0) else (sgnN (decide (a < 0)) (rndS a n : Nat), sgnE (rndS a n : Nat))) else (0, 5)

theorem nr_one (x z : Nat) (_hz : 0 < z) (hx : x ≤ 9000000000000000000) : nrOk x 1 z = true ∧ nrV x 1 z * z ≤ x + z / 2 := by
  have h : x / z ≤ x := Nat.div_le_self _ _
  have ho : nrOk x 1 z = true := by unfold nrOk; rw [Nat.mul_one]; exact decide_eq_true (by omega)
  refine ⟨ho, ?_⟩
  unfold nrV
  rw [ho, if_pos rfl, Nat.mul_one, Nat.add_mul]
  have h2 : x / z * z + x % z = x := Nat.div_add_mod' x z
  split
  · omega
  · omega

end Go.Proofs.YtloamahbghjjgaaGreatDoor
