/- The contracts of the reference's digits (of 64 bits) and power. -/
import Derived.Test.YtnlhgehibbgmoaaRsI
namespace Go.Proofs.Ytnlhgehibbgmoaa
open Go.RowKit

theorem digits2_step (a x : Nat) (zs : List Int) (hd : Dc.Dig zs) (hv : Dc.val zs + 10 ^ zs.length * (x : Int) = (a : Int)) (hx : x ≠ 0) (ha : a < 18446744073709551616) :
    zs.length ≤ 19 ∧ Dc.Dig (zs ++ [((x % 10 : Nat) : Int)]) ∧ Dc.val (zs ++ [((x % 10 : Nat) : Int)]) + 10 ^ (zs ++ [((x % 10 : Nat) : Int)]).length * ((x / 10 : Nat) : Int) = (a : Int) ∧
      (x / 10 = 0 → Dc.Cn (zs ++ [((x % 10 : Nat) : Int)])) := by
  have hn := Dc.val_nonneg zs hd
  have hp := Dc.pow_pos zs.length
  refine ⟨?_, dig_snoc hd (by omega) (by omega), ?_, fun h => cn_snoc (by omega)⟩
  · rcases Nat.lt_or_ge 19 zs.length with h | h
    · have h3 : (10 : Int) ^ 20 ≤ 10 ^ zs.length := Dc.pow_le (by omega)
      have h4 : (10 : Int) ^ zs.length * 1 ≤ 10 ^ zs.length * (x : Int) := Int.mul_le_mul_of_nonneg_left (by omega) (by omega)
      have e : (10 : Int) ^ 20 = 100000000000000000000 := by decide
      omega
    · exact h
  · rw [val_snoc, List.length_append, List.length_singleton, Int.pow_succ, Int.mul_assoc, Int.add_assoc, ← Int.mul_add, ← hv]
    congr 2
    omega

set_option maxRecDepth 100000 in
set_option maxHeartbeats 2000000 in
theorem digits2_ref (a : Nat) (w : World) (h : a < 18446744073709551616) :
    Calls Try.prog 32 #[.int .u64 (a : Int)] w fun e w' => NumPost (a : Int) 20 w e w' := by
  obtain ⟨i0, hi, hz0, hz1, hz2⟩ := info_parts info3
  go_enter Try.func32, Try.ntmps32
  go_wp2
  go_loopw [0, 3] (fun t v wr => ∃ (x : Nat) (zs : List Int), t = .int .u64 (x : Int) ∧ x < 18446744073709551616 ∧ wr.ownsRow w.heap.size 3 1 v zs.length (zs.map (Value.int .i64)) ∧ Below w.heap.size w wr ∧
      Hid (Dc.Dig zs ∧ Dc.val zs + 10 ^ zs.length * (x : Int) = (a : Int) ∧ (x = 0 → Dc.Cn zs) ∧ zs.length ≤ 20)) (fun t _ _ => (intOf t).toNat)
  case atStart => exact ⟨a, [], rfl, h, World.ownsRow_nil _ _ _ _, Below.refl _ _, hide ⟨fun x hx => by simp at hx, by simp [Dc.val], fun _ x l' e => by simp at e, by simp⟩⟩
  case round =>
    obtain ⟨x, zs, rfl, hx1, hown, hb, HZ⟩ := hrel
    by_cases hx0 : x = 0
    · obtain ⟨z1, z2, z3, z4⟩ := unhide HZ
      have HC := hide (z3 hx0)
      subst hx0
      have HV : Hid (Dc.val zs = (a : Int)) := hide (by simpa using z2)
      clear HZ z2 z3
      go_wp2
      go_ret
      exact ⟨hb, _, zs, rfl, arr_of_owns rfl hown, z1, unhide HC, unhide HV, z4, fr_of_owns hown⟩
    · obtain ⟨z1, z2, z3, z4⟩ := unhide HZ
      obtain ⟨s1, s2, s3, s4⟩ := digits2_step a x zs z1 z2 hx0 h
      have hxb : ((x : Int) == 0) = false := by rw [beq_eq_false_iff_ne]; omega
      obtain ⟨k, hk⟩ : ∃ k : Int, ((x % 10 : Nat) : Int) = k := ⟨_, rfl⟩
      obtain ⟨q, hq⟩ : ∃ q : Nat, x / 10 = q := ⟨_, rfl⟩
      have e1 : (x : Int) % 10 = k := by omega
      have e2 : (x : Int) / 10 = (q : Int) := by omega
      have kb : 0 ≤ k ∧ k ≤ 9 := by omega
      rw [hk, hq] at s3
      rw [hk] at s2
      rw [hk, hq] at s4
      have S := hide (And.intro s2 (And.intro s3 s4))
      have HM : Hid (q < x ∧ q < 18446744073709551616) := hide (by omega)
      have HB := hide hb
      have HO := hide hown
      have HX0 := hide hx0
      obtain ⟨k1, k2⟩ := kb
      clear HZ z1 z2 z3 z4 s2 s3 s4 hb hown hx0 hk hq
      go_wp2_with (first
        | (at_builtin; refine wpList_append_own _ rfl _ _ 59 rfl w.heap.size 3 i0 (.int .i64 0) 1 8 Try.underlying59 hi hz0 hz1 hz2 rfl (by decide) _ _ _ rfl ((unhide HO).alloc _) ⟨wr.heap.size, 0, none⟩ 1 1 [.int .i64 k] rfl rfl (one_cell _ _ _) (one_one _) (by unfold maxLen; omega) (by omega) (by have := (unhide HB).size; simp; omega) ?_)
        | go_in)
      · intro v' w1 hown' hgrow _
        have hB := (unhide HB).size
        have R := hide (own_step (unhide HB) hB (unhide HO) hown' hgrow)
        clear hown' hgrow
        go_wp2
        go_roundw
        case rel =>
          have S' := unhide S
          exact ⟨q, zs ++ [k], rfl, (unhide HM).2, (unhide R).1, (unhide R).2, hide ⟨S'.1, S'.2.1, S'.2.2, by simp; omega⟩⟩
        case measure => have := (unhide HM).1; simp [intOf]; omega

/-- How many digits a number without noughts above has. -/
theorem len_of_val (zs : List Int) (hd : Dc.Dig zs) (hc : Dc.Cn zs) (m : Nat) (h : Dc.val zs < 10 ^ m) : zs.length ≤ m := by
  rcases Nat.lt_or_ge m zs.length with h1 | h1
  · exfalso
    have h2 := Dc.val_ge zs hd hc (by intro e; subst e; simp at h1)
    have h3 : (10 : Int) ^ m ≤ 10 ^ (zs.length - 1) := Dc.pow_le (by omega)
    omega
  · exact h1
theorem arr_one (w : World) (a : Int) (t : TypeId) : Arr (w.alloc (.cells #[.int .i64 a] t)) (.slice (some ⟨w.heap.size, 0, none⟩) 1 1) [a] := by
  refine Or.inr ⟨w.heap.size, 0, 1, rfl, Nat.le_refl _, by simp, ?_⟩
  intro i hi
  match i, hi with
  | 0, _ => simp [go_sem]
theorem dig_one (a : Int) (h0 : 0 ≤ a) (h9 : a ≤ 9) : Dc.Dig [a] := by
  intro x hx
  simp at hx
  omega
theorem cn_one (a : Int) (h : a ≠ 0) : Dc.Cn [a] := cn_snoc (zs := []) h
theorem two_pow_lt (k : Nat) (h : k ≤ 121) : (2 : Int) ^ k < 10 ^ 37 := by
  have h1 : (2 : Nat) ^ k ≤ 2 ^ 121 := Nat.pow_le_pow_right (by omega) h
  have h2 : (2 : Nat) ^ 121 < 10 ^ 37 := by decide
  have h3 : ((2 ^ k : Nat) : Int) < ((10 ^ 37 : Nat) : Int) := by omega
  rw [Int.natCast_pow, Int.natCast_pow] at h3
  exact h3

set_option maxRecDepth 100000 in
set_option maxHeartbeats 2000000 in
theorem power_ref (n : Nat) (w : World) (hn : n ≤ 120) :
    Calls Try.prog 34 #[.int .i64 (n : Int)] w fun e w' => Below w.heap.size w w' ∧ ∃ v zs, e = .returned v ∧ Arr w' v zs ∧ Dc.Dig zs ∧ Dc.Cn zs ∧ Dc.val zs = 2 ^ n ∧ zs.length ≤ 37 := by
  go_enter Try.func34, Try.ntmps34
  go_wp2
  go_loopw [3, 4] (fun v t wr => ∃ (k : Nat) (zs : List Int), t = .int .i64 (k : Int) ∧ k ≤ n ∧ zs.length ≤ 37 ∧ Hid (Arr wr v zs ∧ Dc.Dig zs ∧ Dc.Cn zs ∧ Dc.val zs = 2 ^ k) ∧ Hid (Below w.heap.size w wr)) (fun _ t _ => n - (intOf t).toNat)
  case atStart => exact ⟨0, [1], rfl, by omega, by simp, hide ⟨arr_one _ _ _, dig_one 1 (by omega) (by omega), cn_one 1 (by omega), by decide⟩, hide (below_alloc _ _)⟩
  case round =>
    obtain ⟨k, zs, rfl, hk, hl, HZ, HB⟩ := hrel
    by_cases hkn : k < n
    · go_wp2_with fail
      refine (product_ref _ _ zs [2] _ (by omega) (by simp) ((unhide HZ).1.below (Nat.le_refl _) (below_alloc _ _)) (arr_one _ _ _) (unhide HZ).2.1 (dig_one 2 (by omega) (by omega))).mono ?_
      rintro e w2 ⟨b2, v2, z2, rfl, r2, d2, c2, n2, l2, _⟩
      have e2 : Dc.val z2 = 2 ^ (k + 1) := by
        rw [n2, (unhide HZ).2.2.2, show Dc.val [2] = 2 from by decide, Int.pow_succ]
      have l2' : z2.length ≤ 37 := len_of_val z2 d2 c2 37 (by rw [e2]; exact two_pow_lt _ (by omega))
      have H2 := hide (And.intro r2 (And.intro d2 (And.intro c2 e2)))
      have B2 : Hid (Below w.heap.size w w2) := hide (((unhide HB).alloc (unhide HB).size _).trans (b2.mono (by simp; have := (unhide HB).size; omega)))
      clear r2 d2 c2 n2 e2 l2 b2
      go_wp2
      go_roundw
      case rel => exact ⟨k + 1, z2, by go_num, by omega, l2', H2, B2⟩
      case measure => simp [intOf]; omega
    · have : k = n := by omega
      subst this
      go_wp2
      go_ret
      exact ⟨unhide HB, _, zs, rfl, (unhide HZ).1, (unhide HZ).2.1, (unhide HZ).2.2.1, (unhide HZ).2.2.2, hl⟩
end Go.Proofs.Ytnlhgehibbgmoaa
