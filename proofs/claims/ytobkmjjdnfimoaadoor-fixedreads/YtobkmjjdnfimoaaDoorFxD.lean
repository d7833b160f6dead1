/- The contracts of nearest, scaled, Mul, Div, Mod, Floor, Whole, Round. -/
import Derived.Test.YtobkmjjdnfimoaaDoorFxC
namespace Go.Proofs.YtobkmjjdnfimoaaDoor
open Go.RowKit

theorem div64_any (hi lo y : Nat) (w : World) (hhy : hi < y) (h1 : lo < 18446744073709551616) (hy1 : y < 18446744073709551616) :
    Calls Tryd.prog 56 #[.int .u64 (hi : Int), .int .u64 (lo : Int), .int .u64 (y : Int)] w fun e w' => e = .returned (.tuple #[.int .u64 (((hi * 18446744073709551616 + lo) / y : Nat) : Int), .int .u64 (((hi * 18446744073709551616 + lo) % y : Nat) : Int)]) ∧ Below w.heap.size w w' := by
  by_cases h : hi = 0
  · subst h
    rw [Nat.zero_mul, Nat.zero_add]
    exact div64_low lo y w h1 (by omega) hy1
  · exact div64_high hi lo y w (by omega) hhy h1 hy1

def nrOk (x y z : Nat) : Bool := decide (x * y / z ≤ 9000000000000000000)
def nrV (x y z : Nat) : Nat := if nrOk x y z = true then x * y / z + (if z ≤ 2 * (x * y % z) then 1 else 0) else 0

theorem nr_high (x y z : Nat) (hz : 0 < z) (h : z ≤ x * y / 18446744073709551616) : nrOk x y z = false := by
  unfold nrOk
  rw [decide_eq_false_iff_not]
  intro hc
  have : x * y / z < 9000000000000000001 := by omega
  rw [Nat.div_lt_iff_lt_mul hz] at this
  omega

set_option maxHeartbeats 400000 in
theorem nearest_any (x y z : Nat) (w : World) (hx : x < 18446744073709551616) (hy : y < 18446744073709551616) (hz0 : 0 < z) (hz : z < 18446744073709551616) :
    Calls Tryd.prog 43 #[.int .u64 (x : Int), .int .u64 (y : Int), .int .u64 (z : Int)] w fun e w' => e = .returned (.tuple #[.int .u64 ((nrV x y z : Nat) : Int), .bool (nrOk x y z)]) ∧ Below w.heap.size w w' := by
  by_cases hc : z ≤ x * y / 18446744073709551616
  · have ho := hide (nr_high x y z hz0 hc)
    unfold nrV
    rw [unhide ho]
    go_enter Tryd.func43, Tryd.ntmps43
    go_wp2_with fail
    refine (Tryd.bits_Mul64 x y hx hy _).mono ?_
    rintro e w' ⟨rfl, rfl⟩
    generalize x * y / 18446744073709551616 = hi at *
    generalize x * y % 18446744073709551616 = lo at *
    generalize hhi : (hi : Int) = hii at *
    generalize hzi : (z : Int) = zi at *
    have t : zi ≤ hii := by omega
    have H1 := hide hhi
    have H2 := hide hzi
    have H3 := hide hc
    clear hhi hzi hc
    go_wp2
    go_ret2
    exact ⟨rfl, Below.refl _ _⟩
  · have hlo : x * y % 18446744073709551616 < 18446744073709551616 := Nat.mod_lt _ (by omega)
    have hN : x * y / 18446744073709551616 * 18446744073709551616 + x * y % 18446744073709551616 = x * y := Nat.div_add_mod' _ _
    have hR : x * y % z < z := Nat.mod_lt _ hz0
    unfold nrV nrOk
    obtain ⟨Q, hQ⟩ : ∃ Q : Nat, x * y / z = Q := ⟨_, rfl⟩
    obtain ⟨R, hRe⟩ : ∃ R : Nat, x * y % z = R := ⟨_, rfl⟩
    rw [hQ, hRe]
    rw [hRe] at hR
    have HQ := hide hQ
    have HR := hide hRe
    clear hQ hRe
    have HN := hide hN
    clear hN
    by_cases hq : Q ≤ 9000000000000000000
    · rw [decide_eq_true hq, if_pos rfl]
      by_cases hr : z ≤ 2 * R
      · rw [if_pos hr]
        go_enter Tryd.func43, Tryd.ntmps43
        go_wp2_with fail
        refine (Tryd.bits_Mul64 x y hx hy _).mono ?_
        rintro e w' ⟨rfl, rfl⟩
        generalize hhi : ((x * y / 18446744073709551616 : Nat) : Int) = hii at *
        generalize hll : ((x * y % 18446744073709551616 : Nat) : Int) = loi at *
        generalize hzi : (z : Int) = zi at *
        have t : hii < zi := by omega
        have H1 := hide hhi
        have H2 := hide hzi
        have H3 := hide hll
        have H4 := hide hc
        have H5 := hide hlo
        have H6 := hide hR
        have H7 := hide hz
        have H8 := hide hz0
        have H9 := hide (And.intro hq hr)
        clear hhi hzi hll hc hlo hR hz hz0 hq hr
        go_wp2_with fail
        rw [← unhide H1, ← unhide H2, ← unhide H3]
        refine (div64_any _ _ _ _ (by have := unhide H4; omega) (unhide H5) (unhide H7)).mono ?_
        rintro e w2 ⟨rfl, hb⟩
        rw [unhide HN, unhide HQ, unhide HR]
        generalize hqi : (Q : Int) = qi at *
        generalize hri : (R : Int) = ri at *
        generalize hzj : (z : Int) = zj at *
        have H9' := unhide H9
        have H6' := unhide H6
        have hz7 := unhide H7
        have p1 : 0 ≤ qi := by omega
        have p2 : 0 ≤ ri := by omega
        have p4 : ri < zj := by omega
        have p5 : zj < 18446744073709551616 := by omega
        have p3 : qi ≤ 9000000000000000000 := by omega
        have p6 : zj - ri ≤ ri := by omega
        have G1 := hide hqi
        have G2 := hide hri
        have G3 := hide hzj
        clear hqi hri hzj H9' H6' t hz7
        go_wp2
        go_ret2
        exact ⟨by rw [Int.natCast_add, unhide G1]; rfl, hb⟩
      · rw [if_neg hr]
        go_enter Tryd.func43, Tryd.ntmps43
        go_wp2_with fail
        refine (Tryd.bits_Mul64 x y hx hy _).mono ?_
        rintro e w' ⟨rfl, rfl⟩
        generalize hhi : ((x * y / 18446744073709551616 : Nat) : Int) = hii at *
        generalize hll : ((x * y % 18446744073709551616 : Nat) : Int) = loi at *
        generalize hzi : (z : Int) = zi at *
        have t : hii < zi := by omega
        have H1 := hide hhi
        have H2 := hide hzi
        have H3 := hide hll
        have H4 := hide hc
        have H5 := hide hlo
        have H6 := hide hR
        have H7 := hide hz
        have H8 := hide hz0
        have H9 := hide (And.intro hq hr)
        clear hhi hzi hll hc hlo hR hz hz0 hq hr
        go_wp2_with fail
        rw [← unhide H1, ← unhide H2, ← unhide H3]
        refine (div64_any _ _ _ _ (by have := unhide H4; omega) (unhide H5) (unhide H7)).mono ?_
        rintro e w2 ⟨rfl, hb⟩
        rw [unhide HN, unhide HQ, unhide HR]
        generalize hqi : (Q : Int) = qi at *
        generalize hri : (R : Int) = ri at *
        generalize hzj : (z : Int) = zj at *
        have H9' := unhide H9
        have H6' := unhide H6
        have hz7 := unhide H7
        have p1 : 0 ≤ qi := by omega
        have p2 : 0 ≤ ri := by omega
        have p4 : ri < zj := by omega
        have p5 : zj < 18446744073709551616 := by omega
        have p3 : qi ≤ 9000000000000000000 := by omega
        have p6 : ri < zj - ri := by omega
        have G1 := hide hqi
        have G2 := hide hri
        have G3 := hide hzj
        clear hqi hri hzj H9' H6' t hz7
        go_wp2
        go_ret2
        exact ⟨by rw [Int.natCast_add, unhide G1]; exact congrArg (fun t => Ending.returned (.tuple #[.int .u64 t, .bool true])) (by omega), hb⟩
    · rw [decide_eq_false hq]
      have hr : True := trivial
      go_enter Tryd.func43, Tryd.ntmps43
      go_wp2_with fail
      refine (Tryd.bits_Mul64 x y hx hy _).mono ?_
      rintro e w' ⟨rfl, rfl⟩
      generalize hhi : ((x * y / 18446744073709551616 : Nat) : Int) = hii at *
      generalize hll : ((x * y % 18446744073709551616 : Nat) : Int) = loi at *
      generalize hzi : (z : Int) = zi at *
      have t : hii < zi := by omega
      have H1 := hide hhi
      have H2 := hide hzi
      have H3 := hide hll
      have H4 := hide hc
      have H5 := hide hlo
      have H6 := hide hR
      have H7 := hide hz
      have H8 := hide hz0
      have H9 := hide (And.intro hq hr)
      clear hhi hzi hll hc hlo hR hz hz0 hq hr
      go_wp2_with fail
      rw [← unhide H1, ← unhide H2, ← unhide H3]
      refine (div64_any _ _ _ _ (by have := unhide H4; omega) (unhide H5) (unhide H7)).mono ?_
      rintro e w2 ⟨rfl, hb⟩
      rw [unhide HN, unhide HQ, unhide HR]
      generalize hqi : (Q : Int) = qi at *
      generalize hri : (R : Int) = ri at *
      generalize hzj : (z : Int) = zj at *
      have H9' := unhide H9
      have H6' := unhide H6
      have hz7 := unhide H7
      have p1 : 0 ≤ qi := by omega
      have p2 : 0 ≤ ri := by omega
      have p4 : ri < zj := by omega
      have p5 : zj < 18446744073709551616 := by omega
      have p3 : 9000000000000000000 < qi := by omega
      have G1 := hide hqi
      have G2 := hide hri
      have G3 := hide hzj
      clear hqi hri hzj H9' H6' t hz7
      go_wp2
      go_ret2
      exact ⟨rfl, hb⟩

end Go.Proofs.YtobkmjjdnfimoaaDoor
