/- The contracts of Floor, Whole, Round. -/
import Derived.Test.YtobkmjjdnfimoaaDoorFxE
namespace Go.Proofs.YtobkmjjdnfimoaaDoor
open Go.RowKit

theorem modV_pos (a b : Int) (hb : 0 < b) : 0 ≤ modV a b ∧ modV a b < b ∧ (∃ k, a = k * b + modV a b) := by
  unfold modV
  have h0 : a.tdiv b * b + a.tmod b = a := Int.tdiv_mul_add_tmod a b
  have h1 : (a.tmod b).natAbs = a.natAbs % b.natAbs := Int.natAbs_tmod a b
  have h2 : a.natAbs % b.natAbs < b.natAbs := Nat.mod_lt _ (by omega)
  have d2 : decide (b < 0) = false := by rw [decide_eq_false_iff_not]; omega
  rw [d2]
  split
  · rename_i h
    have h3 : a.tmod b < 0 := by have := h.2; simpa using this
    refine ⟨by omega, by omega, a.tdiv b - 1, ?_⟩
    rw [Int.sub_mul]; omega
  · rename_i h
    have h3 : 0 ≤ a.tmod b := by
      rw [← Int.not_lt]
      intro hc
      exact h ⟨by omega, by simpa using hc⟩
    exact ⟨h3, by omega, a.tdiv b, by omega⟩

def floorV (a : Int) : Int := if goodB a = true then a - modV a 10000 else 0
def wholeV (a : Int) : Int := if goodB a = true then a.tdiv 10000 else 0

set_option maxHeartbeats 400000 in
theorem floor_any (a : Int) (w : World) :
    Calls Tryd.prog 25 #[.int .i64 a] w fun e w' => e = .returned (.int .i64 (floorV a)) ∧ Below w.heap.size w w' := by
  cases hg : goodB a
  · have hs : floorV a = 0 := by unfold floorV; rw [hg]; rfl
    have HG := hide hg
    rw [hs]
    clear hg hs
    go_enter Tryd.func25, Tryd.ntmps25
    go_wp2_with fail
    refine (good1_any _ _ _).mono ?_
    rintro e w' ⟨rfl, rfl⟩
    rw [unhide HG]
    go_wp2
    go_ret
    exact ⟨rfl, below_alloc _ _⟩
  · have hs : floorV a = a - modV a 10000 := by unfold floorV; rw [hg]; rfl
    have hm : modR a 10000 = (modV a 10000, 0) := by
      unfold modR
      have : (goodB a && goodB 10000) = true := by rw [hg]; decide
      rw [this]; rfl
    have HM := hide hm
    have HG := hide hg
    rw [goodB_iff] at hg
    obtain ⟨a1, a2⟩ := hg
    obtain ⟨p1, p2, _⟩ := modV_pos a 10000 (by omega)
    rw [hs]
    clear hs hm
    go_enter Tryd.func25, Tryd.ntmps25
    go_wp2_with fail
    refine (good1_any _ _ _).mono ?_
    rintro e w' ⟨rfl, rfl⟩
    rw [unhide HG]
    go_wp2_with fail
    refine (mod_any a 10000 _).mono ?_
    rintro e w2 ⟨rfl, hb⟩
    rw [unhide HM]
    go_wp2
    go_ret
    exact ⟨rfl, below_tr rfl hb⟩

set_option maxHeartbeats 400000 in
theorem whole_any (a : Int) (w : World) :
    Calls Tryd.prog 27 #[.int .i64 a] w fun e w' => e = .returned (.int .i64 (wholeV a)) ∧ Below w.heap.size w w' := by
  cases hg : goodB a
  · have hs : wholeV a = 0 := by unfold wholeV; rw [hg]; rfl
    have HG := hide hg
    rw [hs]
    clear hg hs
    go_enter Tryd.func27, Tryd.ntmps27
    go_wp2_with fail
    refine (good1_any _ _ _).mono ?_
    rintro e w' ⟨rfl, rfl⟩
    rw [unhide HG]
    go_wp2
    go_ret
    exact ⟨rfl, below_alloc _ _⟩
  · have hs : wholeV a = a.tdiv 10000 := by unfold wholeV; rw [hg]; rfl
    have HG := hide hg
    rw [goodB_iff] at hg
    obtain ⟨a1, a2⟩ := hg
    have hn : (a.tdiv 10000).natAbs = a.natAbs / 10000 := Int.natAbs_tdiv a 10000
    obtain ⟨t1, t2⟩ : -9000000000000000000 ≤ a.tdiv 10000 ∧ a.tdiv 10000 ≤ 9000000000000000000 := by omega
    rw [hs]
    clear hs hn
    go_enter Tryd.func27, Tryd.ntmps27
    go_wp2_with fail
    refine (good1_any _ _ _).mono ?_
    rintro e w' ⟨rfl, rfl⟩
    rw [unhide HG]
    go_wp2
    go_ret
    exact ⟨rfl, below_alloc _ _⟩

/-- To so many steps. -/
def rndS (a : Int) (n : Int) : Nat := nrV a.natAbs 1 (10 ^ (4 - n).toNat) * 10 ^ (4 - n).toNat
def roundR (a n : Int) : Int × Int :=
  if goodB a = true then (if n < -15 ∨ 15 < n then (0, 2) else if 4 ≤ n then (a, 0) else (sgnN (decide (a < 0)) (rndS a n : Nat), sgnE (rndS a n : Nat))) else (0, 5)

theorem nr_one (x z : Nat) (_hz : 0 < z) (hx : x ≤ 9000000000000000000) : nrOk x 1 z = true ∧ nrV x 1 z * z ≤ x + z / 2 := by
  have h : x / z ≤ x := Nat.div_le_self _ _
  have ho : nrOk x 1 z = true := by unfold nrOk; rw [Nat.mul_one]; exact decide_eq_true (by omega)
  refine ⟨ho, ?_⟩
  unfold nrV
  rw [ho, if_pos rfl, Nat.mul_one, Nat.add_mul]
  have h2 : x / z * z + x % z = x := Nat.div_add_mod' x z
  split
  · omega
  · omega

set_option maxHeartbeats 400000 in
theorem round_any (a n : Int) (w : World) :
    Calls Tryd.prog 23 #[.int .i64 a, .int .i64 n] w fun e w' => e = .returned (.tuple #[.int .i64 (roundR a n).1, .int .i64 (roundR a n).2]) ∧ Below w.heap.size w w' := by
  cases hg : goodB a
  · have hs : roundR a n = (0, 5) := by unfold roundR; rw [hg]; rfl
    have HG := hide hg
    rw [hs]
    clear hg hs
    go_enter Tryd.func23, Tryd.ntmps23
    go_wp2_with fail
    refine (good1_any _ _ _).mono ?_
    rintro e w' ⟨rfl, rfl⟩
    rw [unhide HG]
    go_wp2
    go_ret2
    exact ⟨rfl, below_alloc _ _⟩
  · have HG := hide hg
    unfold roundR
    rw [if_pos hg]
    rw [goodB_iff] at hg
    obtain ⟨a1, a2⟩ := hg
    by_cases h1 : n < -15
    · rw [if_pos (Or.inl h1)]
      go_enter Tryd.func23, Tryd.ntmps23
      go_wp2_with fail
      refine (good1_any _ _ _).mono ?_
      rintro e w' ⟨rfl, rfl⟩
      rw [unhide HG]
      go_wp2
      go_ret2
      exact ⟨rfl, below_alloc _ _⟩
    by_cases h2 : 15 < n
    · rw [if_pos (Or.inr h2)]
      go_enter Tryd.func23, Tryd.ntmps23
      go_wp2_with fail
      refine (good1_any _ _ _).mono ?_
      rintro e w' ⟨rfl, rfl⟩
      rw [unhide HG]
      go_wp2
      go_ret2
      exact ⟨rfl, below_alloc _ _⟩
    rw [if_neg (by omega)]
    by_cases h3 : 4 ≤ n
    · rw [if_pos h3]
      go_enter Tryd.func23, Tryd.ntmps23
      go_wp2_with fail
      refine (good1_any _ _ _).mono ?_
      rintro e w' ⟨rfl, rfl⟩
      rw [unhide HG]
      go_wp2
      go_ret2
      exact ⟨rfl, below_alloc _ _⟩
    rw [if_neg h3]
    obtain ⟨k, hk⟩ : ∃ k : Nat, 4 - n = (k : Int) := ⟨(4 - n).toNat, by omega⟩
    have hk19 : k ≤ 19 := by omega
    unfold rndS
    rw [hk, Int.toNat_natCast]
    have hp0 : 0 < 10 ^ k := Nat.pow_pos (by omega)
    have hp : 10 ^ k ≤ 10 ^ 19 := Nat.pow_le_pow_right (by omega) hk19
    have hx : (10 ^ 19 : Nat) = 10000000000000000000 := by decide
    rw [hx] at hp
    have ho := hide (nr_one a.natAbs (10 ^ k) hp0 (by omega)).1
    have hle := (nr_one a.natAbs (10 ^ k) hp0 (by omega)).2
    have HK := hide hk
    have HP := hide hp
    have HP0 := hide hp0
    clear hx
    obtain ⟨S, hS⟩ : ∃ S : Nat, 10 ^ k = S := ⟨_, rfl⟩
    rw [hS] at hle hp hp0
    have rS : ((nrV a.natAbs 1 S : Nat) : Int) * (S : Int) = ((nrV a.natAbs 1 S * S : Nat) : Int) := (Int.natCast_mul _ _).symm
    rw [hS] at ho
    rw [hS]
    obtain ⟨T, hT⟩ : ∃ T : Nat, nrV a.natAbs 1 S * S = T := ⟨_, rfl⟩
    rw [hT] at rS hle
    rw [hT]
    have HS := hide hS
    have HT := hide hT
    have RS := hide rS
    clear hk hS hT rS
    go_enter Tryd.func23, Tryd.ntmps23
    go_wp2_with fail
    refine (good1_any _ _ _).mono ?_
    rintro e w' ⟨rfl, rfl⟩
    rw [unhide HG]
    go_wp2_with fail
    rw [unhide HK]
    refine (power_any k _ hk19).mono ?_
    rintro e w2 ⟨rfl, rfl⟩
    rw [unhide HS]
    go_wp2_with fail
    refine (size_any a _ a1 a2).mono ?_
    rintro e w3 ⟨rfl, rfl⟩
    go_wp2_with fail
    refine (nearest_any a.natAbs 1 S _ (by omega) (by omega) hp0 (by omega)).mono ?_
    rintro e w4 ⟨rfl, hb⟩
    rw [unhide ho]
    have rS := unhide RS
    have hT2 : (T : Int) < 18446744073709551616 := by omega
    generalize nrV a.natAbs 1 S = Q at *
    go_wp2_with fail
    refine (signed_any _ _ _ (by omega) (by omega)).mono ?_
    rintro e w5 ⟨rfl, rfl⟩
    go_wp2
    go_ret2
    exact ⟨rfl, below_tr rfl hb⟩
end Go.Proofs.YtobkmjjdnfimoaaDoor
