/- The contracts of layer 1's small functions: good, size, signed, power, Raw, Of, Add, Sub. -/
import Derived.Test.YtloamahbghjjgaaGreatDoorRows
import Derived.WalkKit
import Derived.WalkSpells
import Derived.WalkLawsBesides
namespace Go.Proofs.YtloamahbghjjgaaGreatDoor
open Go.RowKit

def goodB (a : Int) : Bool := decide (-9000000000000000000 ≤ a) && decide (a ≤ 9000000000000000000)
theorem goodB_iff (a : Int) : goodB a = true ↔ -9000000000000000000 ≤ a ∧ a ≤ 9000000000000000000 := by
  unfold goodB; simp
theorem goodB_not (a : Int) : goodB a = false ↔ a < -9000000000000000000 ∨ 9000000000000000000 < a := by
  rw [← Bool.not_eq_true, goodB_iff]; omega
theorem hide {p : Prop} (h : p) : Hid p := h
theorem unhide {p : Prop} (h : Hid p) : p := h
theorem ret_int {k : IntKind} {a b : Int} (h : a = b) : Ending.returned (.int k a) = .returned (.int k b) := by rw [h]
theorem ret_ne {k k' : IntKind} {a b c d : Int} (h : a = b) (h' : c = d) : Ending.returned (.tuple #[.int k a, .int k' c]) = .returned (.tuple #[.int k b, .int k' d]) := by rw [h, h']

set_option maxHeartbeats 400000 in
theorem size_any (a : Int) (w : World) (h1 : -9000000000000000000 ≤ a) (h2 : a ≤ 9000000000000000000) :
    Calls Tryz.prog 232 #[.int .i64 a] w fun e w' => e = .returned (.int .u64 (a.natAbs : Int)) ∧ w' = w := by
  by_cases h : a < 0
  · go_enter Tryz.func232, Tryz.ntmps232
    go_wp2
    go_ret
    exact ⟨ret_int (by omega), rfl⟩
  · go_enter Tryz.func232, Tryz.ntmps232
    go_wp2
    go_ret
    exact ⟨ret_int (by omega), rfl⟩

/-- What 'signed' tells: the number, its error. -/
def sgnN (b : Bool) (p : Int) : Int := if 9000000000000000000 < p then 0 else if b then -p else p
def sgnE (p : Int) : Int := if 9000000000000000000 < p then 5 else 0

set_option maxHeartbeats 400000 in
theorem signed_any (b : Bool) (p : Int) (w : World) (h1 : 0 ≤ p) (h2 : p ≤ 18446744073709551615) :
    Calls Tryz.prog 183 #[.bool b, .int .u64 p] w fun e w' => e = .returned (.tuple #[.int .i64 (sgnN b p), .int .i64 (sgnE p)]) ∧ w' = w := by
  unfold sgnN sgnE
  by_cases h : 9000000000000000000 < p
  · rw [if_pos h, if_pos h]
    go_enter Tryz.func183, Tryz.ntmps183
    go_wp2
    go_ret2
    exact ⟨rfl, rfl⟩
  · rw [if_neg h, if_neg h]
    cases b
    · go_enter Tryz.func183, Tryz.ntmps183
      go_wp2
      go_ret2
      exact ⟨rfl, rfl⟩
    · go_enter Tryz.func183, Tryz.ntmps183
      go_wp2
      go_ret2
      exact ⟨rfl, rfl⟩

set_option maxHeartbeats 400000 in
theorem good_any (b off len cap : Nat) (zs : List Int) (w : World) (hl : zs.length = len) (hm : len ≤ 1000000)
    (hc : ∀ i, i < len → w.cell? ⟨b, off + i, none⟩ = some (.int .i64 (zs.getD i 0))) :
    Calls Tryz.prog 231 #[.slice (some ⟨b, off, none⟩) len cap] w fun e w' => e = .returned (.bool (zs.all goodB)) ∧ w' = w := by
  go_enter Tryz.func231, Tryz.ntmps231
  go_wp2
  go_loop [7] (fun i => ∃ k : Nat, k ≤ len ∧ i = .int .i64 k ∧ (zs.take k).all goodB = true) (fun i => len - (intOf i).toNat)
  case atStart => exact ⟨0, Nat.zero_le _, rfl, rfl⟩
  case round =>
    obtain ⟨k, hk, rfl, ht⟩ := hrel
    have HT := hide ht
    clear ht
    by_cases hlt : k < len
    · have hcell := hc k hlt
      have HL := hide hl
      clear hl hc
      have hget : zs.getD k 0 = zs[k]'(by rw [unhide HL]; exact hlt) := by simp [List.getD, unhide HL, hlt]
      by_cases hg : goodB (zs.getD k 0) = true
      · have hs : Hid ((zs.take (k + 1)).all goodB = true) := by
          have e := List.take_succ_eq_append_getElem (l := zs) (i := k) (by rw [unhide HL]; exact hlt)
          exact hide (by rw [e, List.all_append, unhide HT, ← hget, List.all_cons, hg]; rfl)
        have HG := hide hget
        clear hget
        rw [goodB_iff] at hg
        obtain ⟨g1, g2⟩ := hg
        generalize zs.getD k 0 = z at *
        go_wp2
        go_round
        case rel => exact ⟨k + 1, by omega, by go_num, unhide hs⟩
        case measure => simp [intOf]; omega
      · have hs : Hid (zs.all goodB = false) := by
          refine hide (List.all_eq_false.2 ⟨zs[k]'(by rw [unhide HL]; exact hlt), List.getElem_mem _, ?_⟩)
          rw [← hget]; exact hg
        have HG := hide hget
        clear hget
        rw [Bool.not_eq_true, goodB_not] at hg
        generalize zs.getD k 0 = z at *
        rcases hg with hg | hg
        · go_wp2
          go_ret
          exact ⟨by rw [unhide hs]; rfl, rfl⟩
        · have hg' : ¬ z < -9000000000000000000 := by omega
          go_wp2
          go_ret
          exact ⟨by rw [unhide hs]; rfl, rfl⟩
    · have hs : Hid (zs.all goodB = true) := by
        have e : zs.take k = zs := List.take_of_length_le (by omega)
        exact hide (by rw [e] at HT; exact unhide HT)
      go_wp2
      go_ret
      exact ⟨by rw [unhide hs]; rfl, rfl⟩

set_option maxHeartbeats 400000 in
theorem power_any (n : Nat) (w : World) (hn : n ≤ 19) :
    Calls Tryz.prog 182 #[.int .i64 (n : Int)] w fun e w' => e = .returned (.int .u64 ((10 ^ n : Nat) : Int)) ∧ w' = w := by
  go_enter Tryz.func182, Tryz.ntmps182
  go_wp2
  go_loop [3, 5] (fun p i => ∃ k : Nat, k ≤ n ∧ i = .int .i64 k ∧ p = .int .u64 ((10 ^ k : Nat) : Int)) (fun _ i => n - (intOf i).toNat)
  case atStart => exact ⟨0, Nat.zero_le _, rfl, rfl⟩
  case round =>
    obtain ⟨k, hk, rfl, rfl⟩ := hrel
    by_cases hlt : k < n
    · have hp : 10 ^ k ≤ 10 ^ 18 := Nat.pow_le_pow_right (by omega) (by omega)
      have hx : (10 ^ 18 : Nat) = 1000000000000000000 := by decide
      rw [hx] at hp
      clear hx
      generalize hq : 10 ^ k = q at *
      have HQ := hide hq
      clear hq
      go_wp2
      go_round
      case rel => exact ⟨k + 1, by omega, by go_num, by rw [Nat.pow_succ, unhide HQ]; exact congrArg _ (by omega)⟩
      case measure => simp [intOf]; omega
    · have : k = n := by omega
      subst this
      go_wp2
      go_ret
      exact ⟨rfl, rfl⟩
end Go.Proofs.YtloamahbghjjgaaGreatDoor
