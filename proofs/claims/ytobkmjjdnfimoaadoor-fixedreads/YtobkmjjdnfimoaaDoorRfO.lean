/- The contract of the reference's Digits, with its row. -/
import Derived.Test.YtobkmjjdnfimoaaDoorRfQ
namespace Go.Proofs.YtobkmjjdnfimoaaDoor
open Go.RowKit

/-- Of digits: what they are, and their row. -/
def OwnPost (n : Int) (w : World) (e : Ending) (w' : World) : Prop :=
  Below w.heap.size w w' ∧ ∃ v zs, e = .returned v ∧ w'.ownsRow w.heap.size 3 1 v zs.length (zs.map (Value.int .i64)) ∧ Dc.Dig zs ∧ Dc.Cn zs ∧ Dc.val zs = n ∧ zs.length ≤ 19

set_option maxRecDepth 100000 in
set_option maxHeartbeats 2000000 in
theorem digits_own (a : Int) (w : World) (h1 : -9223372036854775808 ≤ a) (h2 : a ≤ 9223372036854775807) :
    Calls Tryd.prog 34 #[.int .i64 a] w fun e w' => OwnPost (a.natAbs : Int) w e w' := by
  obtain ⟨i0, hi, hz0, hz1, hz2⟩ := info_parts info3
  go_enter Tryd.func34, Tryd.ntmps34
  go_wp2
  go_loopw [0, 3] (fun t v wr => ∃ (x : Int) (zs : List Int), t = .int .i64 x ∧ -9223372036854775808 ≤ x ∧ x ≤ 9223372036854775807 ∧ wr.ownsRow w.heap.size 3 1 v zs.length (zs.map (Value.int .i64)) ∧ Below w.heap.size w wr ∧
      Hid (Dc.Dig zs ∧ Dc.val zs + 10 ^ zs.length * (x.natAbs : Int) = (a.natAbs : Int) ∧ (x = 0 → Dc.Cn zs) ∧ zs.length ≤ 19)) (fun t _ _ => (intOf t).natAbs)
  case atStart => exact ⟨a, [], rfl, h1, h2, World.ownsRow_nil _ _ _ _, Below.refl _ _, hide ⟨fun x hx => by simp at hx, by simp [Dc.val], fun _ x l' e => by simp at e, by simp⟩⟩
  case round =>
    obtain ⟨x, zs, rfl, hx1, hx2, hown, hb, HZ⟩ := hrel
    by_cases hx0 : x = 0
    · obtain ⟨z1, z2, z3, z4⟩ := unhide HZ
      have HC := hide (z3 hx0)
      subst hx0
      have HV : Hid (Dc.val zs = (a.natAbs : Int)) := hide (by simpa using z2)
      clear HZ z2 z3
      go_wp2
      go_ret
      exact ⟨hb, _, zs, rfl, hown, z1, unhide HC, unhide HV, z4⟩
    · obtain ⟨z1, z2, z3, z4⟩ := unhide HZ
      obtain ⟨s1, s2, s3, s4⟩ := digits_step a x zs z1 z2 hx0 (by omega)
      have hxb : (x == 0) = false := by rw [beq_eq_false_iff_ne]; exact hx0
      have S := hide (And.intro s2 (And.intro s3 s4))
      have e1 : (x.tmod 10).natAbs = x.natAbs % 10 := Int.natAbs_tmod x 10
      have e2 : (x.tdiv 10).natAbs = x.natAbs / 10 := Int.natAbs_tdiv x 10
      obtain ⟨k, hk⟩ : ∃ k : Int, ((x.tmod 10).natAbs : Int) = k := ⟨_, rfl⟩
      rw [hk] at S
      have kb : 0 ≤ k ∧ k ≤ 9 := by omega
      have tb : -9 ≤ x.tmod 10 ∧ x.tmod 10 ≤ 9 := by omega
      have qb : -922337203685477580 ≤ x.tdiv 10 ∧ x.tdiv 10 ≤ 922337203685477580 := by omega
      have HM : Hid ((x.tdiv 10).natAbs < x.natAbs) := hide (by omega)
      obtain ⟨t1, t2⟩ := tb
      obtain ⟨q1, q2⟩ := qb
      have HB := hide hb
      have HO := hide hown
      have HX0 := hide hx0
      clear HZ z1 z2 z3 z4 s2 s3 s4 e1 e2 hb hown hx0
      by_cases ht : x.tmod 10 < 0
      · have ek : k = -(x.tmod 10) := by omega
        have EK := hide ek
        clear ek hk
        go_wp2_with (first
          | (at_builtin; refine wpList_append_own _ rfl _ _ 32 rfl w.heap.size 3 i0 (.int .i64 0) 1 8 Tryd.underlying32 hi hz0 hz1 hz2 rfl (by decide) _ _ _ rfl ((unhide HO).alloc _) ⟨wr.heap.size, 0, none⟩ 1 1 [.int .i64 (-(x.tmod 10))] rfl rfl (one_cell _ _ _) (one_one _) (by unfold maxLen; omega) (by omega) (by have := (unhide HB).size; simp; omega) ?_)
          | go_in)
        · intro v' w1 hown' hgrow _
          have hB := (unhide HB).size
          have R := hide (own_step (unhide HB) hB (unhide HO) hown' hgrow)
          clear hown' hgrow
          go_wp2
          go_roundw
          case rel =>
            have S' := unhide S
            rw [unhide EK] at S'
            exact ⟨_, zs ++ [-(x.tmod 10)], rfl, by omega, by omega, (unhide R).1, (unhide R).2, hide ⟨S'.1, S'.2.1, S'.2.2, by simp; omega⟩⟩
          case measure => exact unhide HM
      · have ek : k = x.tmod 10 := by omega
        have EK := hide ek
        clear ek hk
        go_wp2_with (first
          | (at_builtin; refine wpList_append_own _ rfl _ _ 32 rfl w.heap.size 3 i0 (.int .i64 0) 1 8 Tryd.underlying32 hi hz0 hz1 hz2 rfl (by decide) _ _ _ rfl ((unhide HO).alloc _) ⟨wr.heap.size, 0, none⟩ 1 1 [.int .i64 (x.tmod 10)] rfl rfl (one_cell _ _ _) (one_one _) (by unfold maxLen; omega) (by omega) (by have := (unhide HB).size; simp; omega) ?_)
          | go_in)
        · intro v' w1 hown' hgrow _
          have hB := (unhide HB).size
          have R := hide (own_step (unhide HB) hB (unhide HO) hown' hgrow)
          clear hown' hgrow
          go_wp2
          go_roundw
          case rel =>
            have S' := unhide S
            rw [unhide EK] at S'
            exact ⟨_, zs ++ [x.tmod 10], rfl, by omega, by omega, (unhide R).1, (unhide R).2, hide ⟨S'.1, S'.2.1, S'.2.2, by simp; omega⟩⟩
          case measure => exact unhide HM
end Go.Proofs.YtobkmjjdnfimoaaDoor
