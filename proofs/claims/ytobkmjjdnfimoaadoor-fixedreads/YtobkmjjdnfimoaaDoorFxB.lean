/- The contracts of Raw, Of, Add, Sub. -/
import Derived.Test.YtobkmjjdnfimoaaDoorFxA
namespace Go.Proofs.YtobkmjjdnfimoaaDoor
open Go.RowKit

def okAdd (a b : Int) : Bool := goodB a && goodB b && goodB (a + b)
def addN (a b : Int) : Int := if okAdd a b = true then a + b else 0
def addE (a b : Int) : Int := if okAdd a b = true then 0 else 5
theorem okAdd_iff (a b : Int) : okAdd a b = true ↔ (-9000000000000000000 ≤ a ∧ a ≤ 9000000000000000000) ∧ (-9000000000000000000 ≤ b ∧ b ≤ 9000000000000000000) ∧ -9000000000000000000 ≤ a + b ∧ a + b ≤ 9000000000000000000 := by
  unfold okAdd; rw [Bool.and_eq_true, Bool.and_eq_true, goodB_iff, goodB_iff, goodB_iff]; omega

theorem good2_any (a b : Int) (w : World) (t : TypeId) :
    Calls Tryd.prog 33 #[.slice (some ⟨w.heap.size, 0, none⟩) 2 2] (w.alloc (.cells #[.int .i64 a, .int .i64 b] t)) fun e w' => e = .returned (.bool (goodB a && goodB b)) ∧ w' = w.alloc (.cells #[.int .i64 a, .int .i64 b] t) := by
  have h := good_any w.heap.size 0 2 2 [a, b] (w.alloc (.cells #[.int .i64 a, .int .i64 b] t)) rfl (by omega) (by
    intro i hi
    match i, hi with
    | 0, _ => simp [go_sem]
    | 1, _ => simp [go_sem])
  refine h.mono ?_
  rintro e w' ⟨rfl, rfl⟩
  exact ⟨by simp, rfl⟩

theorem good1_any (a : Int) (w : World) (t : TypeId) :
    Calls Tryd.prog 33 #[.slice (some ⟨w.heap.size, 0, none⟩) 1 1] (w.alloc (.cells #[.int .i64 a] t)) fun e w' => e = .returned (.bool (goodB a)) ∧ w' = w.alloc (.cells #[.int .i64 a] t) := by
  have h := good_any w.heap.size 0 1 1 [a] (w.alloc (.cells #[.int .i64 a] t)) rfl (by omega) (by
    intro i hi
    match i, hi with
    | 0, _ => simp [go_sem])
  refine h.mono ?_
  rintro e w' ⟨rfl, rfl⟩
  exact ⟨by simp, rfl⟩

theorem below_alloc (w : World) (o : Obj) : Below w.heap.size w (w.alloc o) := (Below.refl _ _).alloc (Nat.le_refl _) _

set_option maxHeartbeats 400000 in
theorem raw_any (a : Int) (w : World) :
    Calls Tryd.prog 14 #[.int .i64 a] w fun e w' => e = .returned (.tuple #[.int .i64 (if goodB a = true then a else 0), .int .i64 (if goodB a = true then 0 else 5)]) ∧ Below w.heap.size w w' := by
  cases hg : goodB a
  · have HG := hide hg
    clear hg
    go_enter Tryd.func14, Tryd.ntmps14
    go_wp2_with fail
    refine (good1_any _ _ _).mono ?_
    rintro e w' ⟨rfl, rfl⟩
    rw [unhide HG]
    go_wp2
    go_ret2
    exact ⟨rfl, below_alloc _ _⟩
  · have HG := hide hg
    clear hg
    go_enter Tryd.func14, Tryd.ntmps14
    go_wp2_with fail
    refine (good1_any _ _ _).mono ?_
    rintro e w' ⟨rfl, rfl⟩
    rw [unhide HG]
    go_wp2
    go_ret2
    exact ⟨rfl, below_alloc _ _⟩

def wholeB (a : Int) : Bool := decide (-900000000000000 ≤ a) && decide (a ≤ 900000000000000)
theorem wholeB_iff (a : Int) : wholeB a = true ↔ -900000000000000 ≤ a ∧ a ≤ 900000000000000 := by
  unfold wholeB; simp
theorem wholeB_not (a : Int) : wholeB a = false ↔ a < -900000000000000 ∨ 900000000000000 < a := by
  rw [← Bool.not_eq_true, wholeB_iff]; omega

set_option maxHeartbeats 400000 in
theorem of_any (a : Int) (w : World) :
    Calls Tryd.prog 15 #[.int .i64 a] w fun e w' => e = .returned (.tuple #[.int .i64 (if wholeB a = true then a * 10000 else 0), .int .i64 (if wholeB a = true then 0 else 5)]) ∧ w' = w := by
  cases hg : wholeB a
  · rw [wholeB_not] at hg
    rcases hg with hg | hg
    · go_enter Tryd.func15, Tryd.ntmps15
      go_wp2
      go_ret2
      exact ⟨rfl, rfl⟩
    · have hg' : ¬ a < -900000000000000 := by omega
      go_enter Tryd.func15, Tryd.ntmps15
      go_wp2
      go_ret2
      exact ⟨rfl, rfl⟩
  · rw [wholeB_iff] at hg
    obtain ⟨g1, g2⟩ := hg
    go_enter Tryd.func15, Tryd.ntmps15
    go_wp2
    go_ret2
    exact ⟨rfl, rfl⟩

set_option maxHeartbeats 400000 in
theorem add_yes (a b : Int) (w : World) (h : okAdd a b = true) :
    Calls Tryd.prog 9 #[.int .i64 a, .int .i64 b] w fun e w' => e = .returned (.tuple #[.int .i64 (a + b), .int .i64 0]) ∧ Below w.heap.size w w' := by
  have hg : (goodB a && goodB b) = true := by
    rw [okAdd_iff] at h; rw [Bool.and_eq_true, goodB_iff, goodB_iff]; exact ⟨h.1, h.2.1⟩
  rw [okAdd_iff] at h
  obtain ⟨⟨a1, a2⟩, ⟨b1, b2⟩, s1, s2⟩ := h
  have HG := hide hg
  clear hg
  rcases Int.lt_trichotomy b 0 with hb | rfl | hb
  · have hb' : ¬ 0 < b := by omega
    have t : ¬ a < -9000000000000000000 - b := by omega
    go_enter Tryd.func9, Tryd.ntmps9
    go_wp2_with fail
    refine (good2_any _ _ _ _).mono ?_
    rintro e w' ⟨rfl, rfl⟩
    rw [unhide HG]
    go_wp2
    go_ret2
    exact ⟨rfl, below_alloc _ _⟩
  · go_enter Tryd.func9, Tryd.ntmps9
    go_wp2_with fail
    refine (good2_any _ _ _ _).mono ?_
    rintro e w' ⟨rfl, rfl⟩
    rw [unhide HG]
    go_wp2
    go_ret2
    exact ⟨ret_ne (by omega) rfl, below_alloc _ _⟩
  · have t : ¬ 9000000000000000000 - b < a := by omega
    go_enter Tryd.func9, Tryd.ntmps9
    go_wp2_with fail
    refine (good2_any _ _ _ _).mono ?_
    rintro e w' ⟨rfl, rfl⟩
    rw [unhide HG]
    go_wp2
    go_ret2
    exact ⟨rfl, below_alloc _ _⟩

set_option maxHeartbeats 400000 in
theorem add_no (a b : Int) (w : World) (h : okAdd a b = false) :
    Calls Tryd.prog 9 #[.int .i64 a, .int .i64 b] w fun e w' => e = .returned (.tuple #[.int .i64 0, .int .i64 5]) ∧ Below w.heap.size w w' := by
  cases hg : (goodB a && goodB b)
  · have HG := hide hg
    have HH := hide h
    clear hg h
    go_enter Tryd.func9, Tryd.ntmps9
    go_wp2_with fail
    refine (good2_any _ _ _ _).mono ?_
    rintro e w' ⟨rfl, rfl⟩
    rw [unhide HG]
    go_wp2
    go_ret2
    exact ⟨rfl, below_alloc _ _⟩
  · have h' : goodB (a + b) = false := by unfold okAdd at h; rw [hg] at h; exact h
    have HG := hide hg
    rw [Bool.and_eq_true, goodB_iff, goodB_iff] at hg
    obtain ⟨⟨a1, a2⟩, b1, b2⟩ := hg
    have HH := hide h
    clear h
    rw [goodB_not] at h'
    rcases h' with h' | h'
    · have hb : b < 0 := by omega
      have hb' : ¬ 0 < b := by omega
      have t : a < -9000000000000000000 - b := by omega
      go_enter Tryd.func9, Tryd.ntmps9
      go_wp2_with fail
      refine (good2_any _ _ _ _).mono ?_
      rintro e w' ⟨rfl, rfl⟩
      rw [unhide HG]
      go_wp2
      go_ret2
      exact ⟨rfl, below_alloc _ _⟩
    · have hb : 0 < b := by omega
      have t : 9000000000000000000 - b < a := by omega
      go_enter Tryd.func9, Tryd.ntmps9
      go_wp2_with fail
      refine (good2_any _ _ _ _).mono ?_
      rintro e w' ⟨rfl, rfl⟩
      rw [unhide HG]
      go_wp2
      go_ret2
      exact ⟨rfl, below_alloc _ _⟩

theorem add_any (a b : Int) (w : World) :
    Calls Tryd.prog 9 #[.int .i64 a, .int .i64 b] w fun e w' => e = .returned (.tuple #[.int .i64 (addN a b), .int .i64 (addE a b)]) ∧ Below w.heap.size w w' := by
  unfold addN addE
  cases h : okAdd a b
  · exact add_no a b w h
  · exact add_yes a b w h

def subE (a b : Int) : Int := addE a (-b)
def subN (a b : Int) : Int := addN a (-b)

set_option maxHeartbeats 400000 in
theorem sub_any (a b : Int) (w : World) (hb1 : -9223372036854775808 ≤ b) (hb2 : b ≤ 9223372036854775807) :
    Calls Tryd.prog 11 #[.int .i64 a, .int .i64 b] w fun e w' => e = .returned (.tuple #[.int .i64 (addN a (-b)), .int .i64 (addE a (-b))]) ∧ Below w.heap.size w w' := by
  by_cases hb : b = -9223372036854775808
  · have e1 : okAdd a (- b) = false := by
      rw [← Bool.not_eq_true, okAdd_iff]; omega
    have e2 : okAdd a b = false := by
      rw [← Bool.not_eq_true, okAdd_iff]; omega
    unfold addN addE
    rw [e1]
    have E2 := hide e2
    have HB := hide hb
    clear e1 e2 hb hb1 hb2
    have ew : Hid (wrap64 (-b) = b) := hide (by rw [unhide HB]; decide +kernel)
    go_enter Tryd.func11, Tryd.ntmps11
    go_wp2_with fail
    rw [unhide ew]
    refine (add_no _ _ _ (unhide E2)).mono ?_
    rintro e w' ⟨rfl, hw⟩
    go_wp2
    go_ret2
    exact ⟨rfl, hw⟩
  · have hb' : -9223372036854775807 ≤ b := by omega
    clear hb hb1
    go_enter Tryd.func11, Tryd.ntmps11
    go_wp2_with fail
    refine (add_any _ _ _).mono ?_
    rintro e w' ⟨rfl, hw⟩
    go_wp2
    go_ret2
    exact ⟨rfl, hw⟩
end Go.Proofs.YtobkmjjdnfimoaaDoor
