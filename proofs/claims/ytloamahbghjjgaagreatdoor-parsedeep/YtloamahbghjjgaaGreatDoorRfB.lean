/- The contract of the reference's Digits. -/
import Derived.Test.YtloamahbghjjgaaGreatDoorRfA
namespace Go.Proofs.YtloamahbghjjgaaGreatDoor
open Go.RowKit

theorem info3 : (Tryz.prog.info? 3).map (fun i => (i.zero, i.size, i.bytes)) = some (some (.int .i64 0), 1, 8) := by kernel_rfl

/-- An owned row reads as its numbers. -/
theorem arr_of_owns {w : World} {B : Nat} {v : Value} {n : Nat} {zs : List Int} (hn : n = zs.length) (h : w.ownsRow B 3 1 v n (zs.map (Value.int .i64))) : Arr w v zs := by
  obtain ⟨_, h⟩ := h
  subst hn
  rcases h with ⟨rfl, h0⟩ | ⟨g, cap, cur, rfl, hg, hh, hc, _, hs, ht⟩
  · have : zs = [] := List.eq_nil_of_length_eq_zero h0
    subst this
    exact Or.inl ⟨rfl, none, 0, rfl⟩
  · refine Or.inr ⟨g, 0, cap, rfl, hc, ?_, fun i hi => ?_⟩
    · rcases Nat.lt_or_ge g w.heap.size with h' | h'
      · exact h'
      · rw [Array.getElem?_eq_none h'] at hh; cases hh
    · have h2 : (cur.toList.take (zs.length * 1))[i]? = (zs.map (Value.int .i64))[i]? := by rw [ht]
      rw [List.getElem?_take, if_pos (by omega), List.getElem?_map, List.getElem?_eq_getElem hi] at h2
      rw [Nat.zero_add, List.getD_eq_getElem?_getD, List.getElem?_eq_getElem hi]
      simp only [World.cell?, hh]
      simpa using h2

theorem fr_of_owns {w : World} {B : Nat} {v : Value} {n : Nat} {xs : List Value} (h : w.ownsRow B 3 1 v n xs) : Fr B v := by
  intro b o m c e
  rcases h.2 with ⟨rfl, _⟩ | ⟨g, cap, cur, rfl, hg, _⟩
  · cases e
  · injection e with e1
    injection e1 with e1
    injection e1 with e1
    omega

/-- Of digits: what they are, and where they lie. -/
def NumPost (n : Int) (len : Nat) (w : World) (e : Ending) (w' : World) : Prop :=
  Below w.heap.size w w' ∧ ∃ v zs, e = .returned v ∧ Arr w' v zs ∧ Dc.Dig zs ∧ Dc.Cn zs ∧ Dc.val zs = n ∧ zs.length ≤ len ∧ Fr w.heap.size v

theorem val_snoc (zs : List Int) (k : Int) : Dc.val (zs ++ [k]) = Dc.val zs + 10 ^ zs.length * k := by
  rw [Dc.val_append]; simp [Dc.val]
theorem dig_snoc {zs : List Int} {k : Int} (h : Dc.Dig zs) (h0 : 0 ≤ k) (h9 : k ≤ 9) : Dc.Dig (zs ++ [k]) := by
  intro x hx
  rcases List.mem_append.1 hx with h1 | h1
  · exact h x h1
  · rw [List.mem_singleton.1 h1]; exact ⟨h0, h9⟩
theorem cn_snoc {zs : List Int} {k : Int} (h : k ≠ 0) : Dc.Cn (zs ++ [k]) := by
  intro x l' e
  have := List.append_inj_right' e rfl
  simp at this
  rw [← this]; exact h

/-- One digit more. -/
theorem digits_step (a x : Int) (zs : List Int) (hd : Dc.Dig zs) (hv : Dc.val zs + 10 ^ zs.length * (x.natAbs : Int) = (a.natAbs : Int)) (hx : x ≠ 0) (ha : a.natAbs < 10000000000000000000) :
    zs.length ≤ 18 ∧ Dc.Dig (zs ++ [((x.tmod 10).natAbs : Int)]) ∧ Dc.val (zs ++ [((x.tmod 10).natAbs : Int)]) + 10 ^ (zs ++ [((x.tmod 10).natAbs : Int)]).length * ((x.tdiv 10).natAbs : Int) = (a.natAbs : Int) ∧
      (x.tdiv 10 = 0 → Dc.Cn (zs ++ [((x.tmod 10).natAbs : Int)])) := by
  have hn := Dc.val_nonneg zs hd
  have hp := Dc.pow_pos zs.length
  have h1 : (x.tmod 10).natAbs = x.natAbs % 10 := Int.natAbs_tmod x 10
  have h2 : (x.tdiv 10).natAbs = x.natAbs / 10 := Int.natAbs_tdiv x 10
  refine ⟨?_, dig_snoc hd (by omega) (by omega), ?_, fun h => cn_snoc (by omega)⟩
  · rcases Nat.lt_or_ge 18 zs.length with h | h
    · have h3 : (10 : Int) ^ 19 ≤ 10 ^ zs.length := Dc.pow_le (by omega)
      have h4 : (10 : Int) ^ zs.length * 1 ≤ 10 ^ zs.length * (x.natAbs : Int) := Int.mul_le_mul_of_nonneg_left (by omega) (by omega)
      have e : (10 : Int) ^ 19 = 10000000000000000000 := by decide
      omega
    · exact h
  · rw [val_snoc, List.length_append, List.length_singleton, Int.pow_succ, h1, h2, Int.mul_assoc, Int.add_assoc, ← Int.mul_add]
    rw [← hv]
    congr 2
    omega

theorem one_cell (w : World) (x : Value) (t : TypeId) : ∀ (j : Nat) u, [x][j]? = some u → (w.alloc (.cells #[x] t)).cell? ((⟨w.heap.size, 0, none⟩ : Addr).add j) = some u := by
  intro j u hj
  match j, hj with
  | 0, hj => simp at hj; subst hj; simp [Addr.add]
theorem one_one (k : Int) : ∀ u ∈ [Value.int .i64 k], u.oneCell' = true := by
  intro u hu
  simp at hu
  subst hu
  rfl

/-- An append of one number to a row of one's own. -/
theorem own_step {B : Nat} {w wr w1 : World} {v v' : Value} {zs : List Int} {k : Int} {o : Obj} (hb : Below B w wr) (hB : B ≤ wr.heap.size) (hown : wr.ownsRow B 3 1 v zs.length (zs.map (Value.int .i64)))
    (hown' : w1.ownsRow B 3 1 v' (zs.length + 1) (zs.map (Value.int .i64) ++ [.int .i64 k])) (hgrow : (wr.alloc o).grownBy w1 v.ownBlock) :
    w1.ownsRow B 3 1 v' (zs ++ [k]).length ((zs ++ [k]).map (Value.int .i64)) ∧ Below B w w1 := by
  refine ⟨by simpa using hown', (hb.alloc hB o).grown hgrow (by simp; omega) ?_⟩
  intro j hj
  rcases hown.2 with ⟨rfl, _⟩ | ⟨g, cap, cur, rfl, hg, _⟩
  · cases hj
  · simp [Value.ownBlock] at hj; omega

set_option maxRecDepth 100000 in
set_option maxHeartbeats 2000000 in
theorem digits_ref (a : Int) (w : World) (h1 : -9223372036854775808 ≤ a) (h2 : a ≤ 9223372036854775807) :
    Calls Tryz.prog 170 #[.int .i64 a] w fun e w' => NumPost (a.natAbs : Int) 19 w e w' := by
  obtain ⟨i0, hi, hz0, hz1, hz2⟩ := info_parts info3
  go_enter Tryz.func170, Tryz.ntmps170
  go_wp2
  go_loopw [0, 3] (fun t v wr => ∃ (x : Int) (zs : List Int), t = .int .i64 x ∧ -9223372036854775808 ≤ x ∧ x ≤ 9223372036854775807 ∧ wr.ownsRow w.heap.size 3 1 v zs.length (zs.map (Value.int .i64)) ∧ Below w.heap.size w wr ∧
      Hid (Dc.Dig zs ∧ Dc.val zs + 10 ^ zs.length * (x.natAbs : Int) = (a.natAbs : Int) ∧ (x = 0 → Dc.Cn zs) ∧ zs.length ≤ 19)) (fun t _ _ => (intOf t).natAbs)
  case atStart => exact ⟨a, [], rfl, h1, h2, World.ownsRow_nil _ _ _ _, Below.refl _ _, hide ⟨fun x hx => by simp at hx, by simp [Dc.val], fun _ x l' e => by simp at e, by simp⟩⟩
  case round =>
    obtain ⟨x, zs, rfl, hx1, hx2, hown, hb, HZ⟩ := hrel
    by_cases hx0 : x = 0
    · obtain ⟨z1, z2, z3, z4⟩ := unhide HZ
      have HC := hide (z3 hx0)
      subst hx0
      have HV : Hid (Dc.val zs = (a.natAbs : Int)) := hide (by simpa using z2)
      clear HZ z2 z3
      go_wp2
      go_ret
      exact ⟨hb, _, zs, rfl, arr_of_owns rfl hown, z1, unhide HC, unhide HV, z4, fr_of_owns hown⟩
    · obtain ⟨z1, z2, z3, z4⟩ := unhide HZ
      obtain ⟨s1, s2, s3, s4⟩ := digits_step a x zs z1 z2 hx0 (by omega)
      have hxb : (x == 0) = false := by rw [beq_eq_false_iff_ne]; exact hx0
      have S := hide (And.intro s2 (And.intro s3 s4))
      have e1 : (x.tmod 10).natAbs = x.natAbs % 10 := Int.natAbs_tmod x 10
      have e2 : (x.tdiv 10).natAbs = x.natAbs / 10 := Int.natAbs_tdiv x 10
      obtain ⟨k, hk⟩ : ∃ k : Int, ((x.tmod 10).natAbs : Int) = k := ⟨_, rfl⟩
      rw [hk] at S
      have kb : 0 ≤ k ∧ k ≤ 9 := by omega
      have tb : -9 ≤ x.tmod 10 ∧ x.tmod 10 ≤ 9 := by omega
      have qb : -922337203685477580 ≤ x.tdiv 10 ∧ x.tdiv 10 ≤ 922337203685477580 := by omega
      have HM : Hid ((x.tdiv 10).natAbs < x.natAbs) := hide (by omega)
      obtain ⟨t1, t2⟩ := tb
      obtain ⟨q1, q2⟩ := qb
      have HB := hide hb
      have HO := hide hown
      have HX0 := hide hx0
      clear HZ z1 z2 z3 z4 s2 s3 s4 e1 e2 hb hown hx0
      by_cases ht : x.tmod 10 < 0
      · have ek : k = -(x.tmod 10) := by omega
        have EK := hide ek
        clear ek hk
        go_wp2_with (first
          | (at_builtin; refine wpList_append_own _ rfl _ _ 53 rfl w.heap.size 3 i0 (.int .i64 0) 1 8 Tryz.underlying53 hi hz0 hz1 hz2 rfl (by decide) _ _ _ rfl ((unhide HO).alloc _) ⟨wr.heap.size, 0, none⟩ 1 1 [.int .i64 (-(x.tmod 10))] rfl rfl (one_cell _ _ _) (one_one _) (by unfold maxLen; omega) (by omega) (by have := (unhide HB).size; simp; omega) ?_)
          | go_in)
        · intro v' w1 hown' hgrow _
          have hB := (unhide HB).size
          have R := hide (own_step (unhide HB) hB (unhide HO) hown' hgrow)
          clear hown' hgrow
          go_wp2
          go_roundw
          case rel =>
            have S' := unhide S
            rw [unhide EK] at S'
            exact ⟨_, zs ++ [-(x.tmod 10)], rfl, by omega, by omega, (unhide R).1, (unhide R).2, hide ⟨S'.1, S'.2.1, S'.2.2, by simp; omega⟩⟩
          case measure => exact unhide HM
      · have ek : k = x.tmod 10 := by omega
        have EK := hide ek
        clear ek hk
        go_wp2_with (first
          | (at_builtin; refine wpList_append_own _ rfl _ _ 53 rfl w.heap.size 3 i0 (.int .i64 0) 1 8 Tryz.underlying53 hi hz0 hz1 hz2 rfl (by decide) _ _ _ rfl ((unhide HO).alloc _) ⟨wr.heap.size, 0, none⟩ 1 1 [.int .i64 (x.tmod 10)] rfl rfl (one_cell _ _ _) (one_one _) (by unfold maxLen; omega) (by omega) (by have := (unhide HB).size; simp; omega) ?_)
          | go_in)
        · intro v' w1 hown' hgrow _
          have hB := (unhide HB).size
          have R := hide (own_step (unhide HB) hB (unhide HO) hown' hgrow)
          clear hown' hgrow
          go_wp2
          go_roundw
          case rel =>
            have S' := unhide S
            rw [unhide EK] at S'
            exact ⟨_, zs ++ [x.tmod 10], rfl, by omega, by omega, (unhide R).1, (unhide R).2, hide ⟨S'.1, S'.2.1, S'.2.2, by simp; omega⟩⟩
          case measure => exact unhide HM
end Go.Proofs.YtloamahbghjjgaaGreatDoor
