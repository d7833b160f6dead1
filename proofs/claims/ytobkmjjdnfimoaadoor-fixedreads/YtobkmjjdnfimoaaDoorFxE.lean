/- The contracts of scaled, Mul, Div, Mod, Floor, Whole, Round. -/
import Derived.Test.YtobkmjjdnfimoaaDoorFxD
namespace Go.Proofs.YtobkmjjdnfimoaaDoor
open Go.RowKit

theorem nrV_le (x y z : Nat) : nrV x y z ≤ 9000000000000000001 := by
  unfold nrV nrOk
  split
  · rename_i h
    have h := of_decide_eq_true h
    split <;> omega
  · omega

def scR (b : Bool) (x y z : Nat) : Int × Int := if nrOk x y z = true then (sgnN b (nrV x y z : Nat), sgnE (nrV x y z : Nat)) else (0, 5)

set_option maxHeartbeats 400000 in
theorem scaled_any (b : Bool) (x y z : Nat) (w : World) (hx : x < 18446744073709551616) (hy : y < 18446744073709551616) (hz0 : 0 < z) (hz : z < 18446744073709551616) :
    Calls Tryd.prog 37 #[.bool b, .int .u64 (x : Int), .int .u64 (y : Int), .int .u64 (z : Int)] w fun e w' => e = .returned (.tuple #[.int .i64 (scR b x y z).1, .int .i64 (scR b x y z).2]) ∧ Below w.heap.size w w' := by
  have hle := nrV_le x y z
  cases ho : nrOk x y z
  · have hs : scR b x y z = (0, 5) := by unfold scR; rw [ho]; rfl
    have HO := hide ho
    rw [hs]
    clear ho hs
    go_enter Tryd.func37, Tryd.ntmps37
    go_wp2_with fail
    refine (nearest_any x y z _ hx hy hz0 hz).mono ?_
    rintro e w' ⟨rfl, hb⟩
    rw [unhide HO]
    go_wp2
    go_ret2
    exact ⟨rfl, hb⟩
  · have hs : scR b x y z = (sgnN b (nrV x y z : Nat), sgnE (nrV x y z : Nat)) := by unfold scR; rw [ho]; rfl
    have HO := hide ho
    rw [hs]
    clear ho hs
    go_enter Tryd.func37, Tryd.ntmps37
    go_wp2_with fail
    refine (nearest_any x y z _ hx hy hz0 hz).mono ?_
    rintro e w' ⟨rfl, hb⟩
    rw [unhide HO]
    go_wp2_with fail
    refine (signed_any b _ _ (by omega) (by omega)).mono ?_
    rintro e w2 ⟨rfl, rfl⟩
    go_wp2
    go_ret2
    exact ⟨rfl, hb⟩

def mulR (a b : Int) : Int × Int := if (goodB a && goodB b) = true then scR (decide (a < 0) != decide (b < 0)) a.natAbs b.natAbs 10000 else (0, 5)

theorem below_tr {w a b : World} {o : Obj} (ha : a = w.alloc o) (hb : Below a.heap.size a b) : Below w.heap.size w b := by
  subst ha
  exact (below_alloc w o).trans (hb.mono (by simp))

set_option maxHeartbeats 400000 in
theorem mul_any (a b : Int) (w : World) :
    Calls Tryd.prog 17 #[.int .i64 a, .int .i64 b] w fun e w' => e = .returned (.tuple #[.int .i64 (mulR a b).1, .int .i64 (mulR a b).2]) ∧ Below w.heap.size w w' := by
  cases hg : (goodB a && goodB b)
  · have hs : mulR a b = (0, 5) := by unfold mulR; rw [hg]; rfl
    have HG := hide hg
    rw [hs]
    clear hg hs
    go_enter Tryd.func17, Tryd.ntmps17
    go_wp2_with fail
    refine (good2_any _ _ _ _).mono ?_
    rintro e w' ⟨rfl, rfl⟩
    rw [unhide HG]
    go_wp2
    go_ret2
    exact ⟨rfl, below_alloc _ _⟩
  · have hs : mulR a b = scR (decide (a < 0) != decide (b < 0)) a.natAbs b.natAbs 10000 := by unfold mulR; rw [hg]; rfl
    have HG := hide hg
    rw [Bool.and_eq_true, goodB_iff, goodB_iff] at hg
    obtain ⟨⟨a1, a2⟩, b1, b2⟩ := hg
    rw [hs]
    clear hs
    go_enter Tryd.func17, Tryd.ntmps17
    go_wp2_with fail
    refine (good2_any _ _ _ _).mono ?_
    rintro e w' ⟨rfl, rfl⟩
    rw [unhide HG]
    go_wp2_with fail
    refine (size_any a _ a1 a2).mono ?_
    rintro e w2 ⟨rfl, rfl⟩
    go_wp2_with fail
    refine (size_any b _ b1 b2).mono ?_
    rintro e w3 ⟨rfl, rfl⟩
    go_wp2_with fail
    refine (scaled_any _ a.natAbs b.natAbs 10000 _ (by omega) (by omega) (by omega) (by omega)).mono ?_
    rintro e w4 ⟨rfl, hb⟩
    go_wp2
    go_ret2
    exact ⟨rfl, below_tr rfl hb⟩
def divR (a b : Int) : Int × Int := if (goodB a && goodB b) = true then (if b = 0 then (0, 6) else scR (decide (a < 0) != decide (b < 0)) a.natAbs 10000 b.natAbs) else (0, 5)

set_option maxHeartbeats 400000 in
theorem div_any (a b : Int) (w : World) :
    Calls Tryd.prog 19 #[.int .i64 a, .int .i64 b] w fun e w' => e = .returned (.tuple #[.int .i64 (divR a b).1, .int .i64 (divR a b).2]) ∧ Below w.heap.size w w' := by
  cases hg : (goodB a && goodB b)
  · have hs : divR a b = (0, 5) := by unfold divR; rw [hg]; rfl
    have HG := hide hg
    rw [hs]
    clear hg hs
    go_enter Tryd.func19, Tryd.ntmps19
    go_wp2_with fail
    refine (good2_any _ _ _ _).mono ?_
    rintro e w' ⟨rfl, rfl⟩
    rw [unhide HG]
    go_wp2
    go_ret2
    exact ⟨rfl, below_alloc _ _⟩
  · have hs : divR a b = (if b = 0 then (0, 6) else scR (decide (a < 0) != decide (b < 0)) a.natAbs 10000 b.natAbs) := by unfold divR; rw [hg]; rfl
    have HG := hide hg
    rw [Bool.and_eq_true, goodB_iff, goodB_iff] at hg
    obtain ⟨⟨a1, a2⟩, b1, b2⟩ := hg
    rw [hs]
    clear hs
    by_cases hb0 : b = 0
    · rw [if_pos hb0]
      have hbb : (b == 0) = true := by rw [beq_iff_eq]; exact hb0
      have HB0 := hide hb0
      clear hb0
      go_enter Tryd.func19, Tryd.ntmps19
      go_wp2_with fail
      refine (good2_any _ _ _ _).mono ?_
      rintro e w' ⟨rfl, rfl⟩
      rw [unhide HG]
      go_wp2
      go_ret2
      exact ⟨rfl, below_alloc _ _⟩
    · rw [if_neg hb0]
      have hbb : (b == 0) = false := by rw [beq_eq_false_iff_ne]; exact hb0
      have HB0 := hide hb0
      clear hb0
      go_enter Tryd.func19, Tryd.ntmps19
      go_wp2_with fail
      refine (good2_any _ _ _ _).mono ?_
      rintro e w' ⟨rfl, rfl⟩
      rw [unhide HG]
      go_wp2_with fail
      refine (size_any a _ a1 a2).mono ?_
      rintro e w2 ⟨rfl, rfl⟩
      go_wp2_with fail
      refine (size_any b _ b1 b2).mono ?_
      rintro e w3 ⟨rfl, rfl⟩
      go_wp2_with fail
      refine (scaled_any _ a.natAbs 10000 b.natAbs _ (by omega) (by omega) (by have := unhide HB0; omega) (by omega)).mono ?_
      rintro e w4 ⟨rfl, hb⟩
      go_wp2
      go_ret2
      exact ⟨rfl, below_tr rfl hb⟩

/-- What is left, of the divisor's sign. -/
def modV (a b : Int) : Int := if a.tmod b ≠ 0 ∧ (decide (a.tmod b < 0) != decide (b < 0)) = true then a.tmod b + b else a.tmod b
def modR (a b : Int) : Int × Int := if (goodB a && goodB b) = true then (if b = 0 then (0, 6) else (modV a b, 0)) else (0, 5)

theorem tmod_bounds (a b : Int) (ha1 : -9000000000000000000 ≤ a) (ha2 : a ≤ 9000000000000000000) (hb : b ≠ 0) :
    -9000000000000000000 ≤ a.tmod b ∧ a.tmod b ≤ 9000000000000000000 ∧ (a.tmod b).natAbs < b.natAbs := by
  have h1 : (a.tmod b).natAbs = a.natAbs % b.natAbs := Int.natAbs_tmod a b
  have h2 : a.natAbs % b.natAbs < b.natAbs := Nat.mod_lt _ (by omega)
  have h3 : a.natAbs % b.natAbs ≤ a.natAbs := Nat.mod_le _ _
  omega

set_option maxHeartbeats 400000 in
theorem mod_any (a b : Int) (w : World) :
    Calls Tryd.prog 21 #[.int .i64 a, .int .i64 b] w fun e w' => e = .returned (.tuple #[.int .i64 (modR a b).1, .int .i64 (modR a b).2]) ∧ Below w.heap.size w w' := by
  cases hg : (goodB a && goodB b)
  · have hs : modR a b = (0, 5) := by unfold modR; rw [hg]; rfl
    have HG := hide hg
    rw [hs]
    clear hg hs
    go_enter Tryd.func21, Tryd.ntmps21
    go_wp2_with fail
    refine (good2_any _ _ _ _).mono ?_
    rintro e w' ⟨rfl, rfl⟩
    rw [unhide HG]
    go_wp2
    go_ret2
    exact ⟨rfl, below_alloc _ _⟩
  · have hs : modR a b = (if b = 0 then (0, 6) else (modV a b, 0)) := by unfold modR; rw [hg]; rfl
    have HG := hide hg
    rw [Bool.and_eq_true, goodB_iff, goodB_iff] at hg
    obtain ⟨⟨a1, a2⟩, b1, b2⟩ := hg
    rw [hs]
    clear hs
    by_cases hb0 : b = 0
    · rw [if_pos hb0]
      have hbb : (b == 0) = true := by rw [beq_iff_eq]; exact hb0
      have HB0 := hide hb0
      clear hb0
      go_enter Tryd.func21, Tryd.ntmps21
      go_wp2_with fail
      refine (good2_any _ _ _ _).mono ?_
      rintro e w' ⟨rfl, rfl⟩
      rw [unhide HG]
      go_wp2
      go_ret2
      exact ⟨rfl, below_alloc _ _⟩
    · rw [if_neg hb0]
      have hbb : (b == 0) = false := by rw [beq_eq_false_iff_ne]; exact hb0
      obtain ⟨m1, m2, m3⟩ := tmod_bounds a b a1 a2 hb0
      have HB0 := hide hb0
      clear hb0
      unfold modV
      by_cases hr0 : a.tmod b = 0
      · rw [if_neg (fun h => h.1 hr0), hr0]
        have hrr : (a.tmod b == 0) = true := by rw [beq_iff_eq]; exact hr0
        have HR0 := hide hr0
        go_enter Tryd.func21, Tryd.ntmps21
        go_wp2_with fail
        refine (good2_any _ _ _ _).mono ?_
        rintro e w' ⟨rfl, rfl⟩
        rw [unhide HG]
        go_wp2
        go_ret2
        exact ⟨rfl, below_alloc _ _⟩
      · have hrr : (a.tmod b == 0) = false := by rw [beq_eq_false_iff_ne]; exact hr0
        have hrn : (a.tmod b != 0) = true := by rw [bne_iff_ne]; exact hr0
        by_cases s1 : a.tmod b < 0 <;> by_cases s2 : b < 0
        · rw [if_neg (fun h => by simp [s1, s2] at h)]
          have HR0 := hide hr0
          clear hr0
          have d1 : decide (a.tmod b < 0) = true := by simpa using s1
          have d2 : decide (b < 0) = true := by simpa using s2
          go_enter Tryd.func21, Tryd.ntmps21
          go_wp2_with fail
          refine (good2_any _ _ _ _).mono ?_
          rintro e w' ⟨rfl, rfl⟩
          rw [unhide HG]
          go_wp2
          go_ret2
          exact ⟨rfl, below_alloc _ _⟩
        · rw [if_pos ⟨hr0, by simp [s1, s2]⟩]
          have HR0 := hide hr0
          clear hr0
          have d1 : decide (a.tmod b < 0) = true := by simpa using s1
          have d2 : decide (b < 0) = false := by simpa using s2
          obtain ⟨n1, n2⟩ : -9000000000000000000 ≤ a.tmod b + b ∧ a.tmod b + b ≤ 9000000000000000000 := by omega
          go_enter Tryd.func21, Tryd.ntmps21
          go_wp2_with fail
          refine (good2_any _ _ _ _).mono ?_
          rintro e w' ⟨rfl, rfl⟩
          rw [unhide HG]
          go_wp2
          go_ret2
          exact ⟨rfl, below_alloc _ _⟩
        · rw [if_pos ⟨hr0, by simp [s1, s2]⟩]
          have HR0 := hide hr0
          clear hr0
          have d1 : decide (a.tmod b < 0) = false := by simpa using s1
          have d2 : decide (b < 0) = true := by simpa using s2
          obtain ⟨n1, n2⟩ : -9000000000000000000 ≤ a.tmod b + b ∧ a.tmod b + b ≤ 9000000000000000000 := by omega
          go_enter Tryd.func21, Tryd.ntmps21
          go_wp2_with fail
          refine (good2_any _ _ _ _).mono ?_
          rintro e w' ⟨rfl, rfl⟩
          rw [unhide HG]
          go_wp2
          go_ret2
          exact ⟨rfl, below_alloc _ _⟩
        · rw [if_neg (fun h => by simp [s1, s2] at h)]
          have HR0 := hide hr0
          clear hr0
          have d1 : decide (a.tmod b < 0) = false := by simpa using s1
          have d2 : decide (b < 0) = false := by simpa using s2
          go_enter Tryd.func21, Tryd.ntmps21
          go_wp2_with fail
          refine (good2_any _ _ _ _).mono ?_
          rintro e w' ⟨rfl, rfl⟩
          rw [unhide HG]
          go_wp2
          go_ret2
          exact ⟨rfl, below_alloc _ _⟩
end Go.Proofs.YtobkmjjdnfimoaaDoor
