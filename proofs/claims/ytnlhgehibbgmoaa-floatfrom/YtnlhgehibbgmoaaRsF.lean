/- The contract of the reference's minus. -/
import Derived.Test.YtnlhgehibbgmoaaRsE
import Derived.Test.YtnlhgehibbgmoaaRsD
namespace Go.Proofs.Ytnlhgehibbgmoaa
open Go.RowKit

structure MinusIn (xs ys os : List Int) (n k : Nat) (t : Int) : Prop where
  len : os.length = n
  low : ∀ j, j < k → 0 ≤ os.getD j 0 ∧ os.getD j 0 ≤ 9
  high : ∀ j, k ≤ j → os.getD j 0 = 0
  bit : t = 0 ∨ t = 1
  sum : Dc.val os = Dc.val (xs.take k) - Dc.val (ys.take k) + 10 ^ k * t
theorem minus_step (xs ys os : List Int) (n k : Nat) (t : Int) (hk : k < n) (dx : Dc.Dig xs) (dy : Dc.Dig ys) (h : MinusIn xs ys os n k t) :
    (0 ≤ xs.getD k 0 - t - ys.getD k 0 → MinusIn xs ys (os.set k (xs.getD k 0 - t - ys.getD k 0)) n (k + 1) 0) ∧
    (xs.getD k 0 - t - ys.getD k 0 < 0 → MinusIn xs ys (os.set k (xs.getD k 0 - t - ys.getD k 0 + 10)) n (k + 1) 1) := by
  obtain ⟨l, lo, hi, b, s⟩ := h
  have a1 := dx.getD k
  have a2 := dy.getD k
  have z := hi k (Nat.le_refl _)
  constructor
  · intro hs
    refine ⟨by simpa using l, fun j hj => ?_, fun j hj => ?_, Or.inl rfl, ?_⟩
    · rw [Dc.getD_set _ _ _ _ (by omega)]
      split
      · omega
      · exact lo j (by omega)
    · rw [Dc.getD_set _ _ _ _ (by omega), if_neg (by omega)]; exact hi j (by omega)
    · rw [Dc.val_set _ _ _ (by omega), z, s, Dc.val_take_succ, Dc.val_take_succ]
      have : (10 : Int) ^ k * (xs.getD k 0 - t - ys.getD k 0 - 0) = 10 ^ k * xs.getD k 0 - 10 ^ k * t - 10 ^ k * ys.getD k 0 := by
        rw [← Int.mul_sub, ← Int.mul_sub]; congr 1; omega
      rw [this]; omega
  · intro hs
    refine ⟨by simpa using l, fun j hj => ?_, fun j hj => ?_, Or.inr rfl, ?_⟩
    · rw [Dc.getD_set _ _ _ _ (by omega)]
      split
      · omega
      · exact lo j (by omega)
    · rw [Dc.getD_set _ _ _ _ (by omega), if_neg (by omega)]; exact hi j (by omega)
    · rw [Dc.val_set _ _ _ (by omega), z, s, Dc.val_take_succ, Dc.val_take_succ, Int.pow_succ]
      have : (10 : Int) ^ k * (xs.getD k 0 - t - ys.getD k 0 + 10 - 0) = 10 ^ k * xs.getD k 0 - 10 ^ k * t - 10 ^ k * ys.getD k 0 + 10 ^ k * 10 := by
        rw [← Int.mul_sub, ← Int.mul_sub, ← Int.mul_add]; congr 1; omega
      rw [this]; omega
theorem minus_start (xs ys : List Int) (n : Nat) : MinusIn xs ys (List.replicate n 0) n 0 0 :=
  ⟨by simp, fun j hj => by omega, fun j _ => Dc.getD_zeros _ j, Or.inl rfl, by rw [Dc.val_zeros]; simp [Dc.val]⟩
theorem minus_end (xs ys os : List Int) (n : Nat) (t : Int) (hx : xs.length = n) (hy : ys.length ≤ n) (hle : Dc.val ys ≤ Dc.val xs) (h : MinusIn xs ys os n n t) : Dc.Dig os ∧ Dc.val os = Dc.val xs - Dc.val ys := by
  obtain ⟨l, lo, hi, b, s⟩ := h
  have hd : Dc.Dig os := Dc.dig_of_getD fun i hi => lo i (by omega)
  have hv := Dc.val_lt os hd
  rw [List.take_of_length_le (by omega), List.take_of_length_le hy] at s
  rw [l] at hv
  refine ⟨hd, ?_⟩
  rcases b with b | b
  · rw [s, b]; omega
  · rw [b] at s; omega
theorem len_le (xs ys : List Int) (dx : Dc.Dig xs) (dy : Dc.Dig ys) (cy : Dc.Cn ys) (h : Dc.val ys ≤ Dc.val xs) : ys.length ≤ xs.length := by
  rcases Nat.lt_or_ge xs.length ys.length with h1 | h1
  · have := Dc.lt_of_len xs ys dx dy cy h1; omega
  · exact h1

set_option maxRecDepth 100000 in
set_option maxHeartbeats 8000000 in
theorem minus_ref (va vb : Value) (xs ys : List Int) (w : World) (hx : xs.length ≤ 900) (hva : Arr w va xs) (hvb : Arr w vb ys) (dx : Dc.Dig xs) (dy : Dc.Dig ys) (cy : Dc.Cn ys) (hle : Dc.val ys ≤ Dc.val xs) :
    Calls Try.prog 50 #[va, vb] w fun e w' => NumPost (Dc.val xs - Dc.val ys) xs.length w e w' := by
  obtain ⟨i0, hi, hz0, hz1, hz2⟩ := info_parts info3
  have hll := len_le xs ys dx dy cy hle
  obtain ⟨xa, capa, rfl, hoa⟩ := arr_open hva
  obtain ⟨xb, capb, rfl, hob⟩ := arr_open hvb
  obtain ⟨la, hla⟩ : ∃ la, xs.length = la := ⟨_, rfl⟩
  obtain ⟨lb, hlb⟩ : ∃ lb, ys.length = lb := ⟨_, rfl⟩
  rw [hla] at hx hoa hll ⊢
  rw [hlb] at hob hll ⊢
  have HLA := hide hla
  have HLB := hide hlb
  have HOA := hide hoa
  have HOB := hide hob
  have HLE := hide hle
  have HDX := hide (And.intro dx dy)
  clear hva hvb hla hlb hoa hob dx dy hle cy
  go_enter Try.func50, Try.ntmps50
  go_wp2_with (first
    | (at_make; refine wpList_make_full _ rfl _ _ 59 rfl w.heap.size 3 i0 (.int .i64 0) 1 Try.underlying59 hi hz0 hz1 _ _ _ _ la rfl rfl rfl rfl (by rw [hz2]; omega) (by unfold maxLen; omega) (Nat.le_refl _) ?_)
    | go_in)
  intro w1 hown hgrow
  have HB : Hid (Below w.heap.size w w1) := hide ((Below.refl _ _).grown hgrow (Nat.le_refl _) (fun k hk => by cases hk))
  have HO : Hid (w1.ownsRow w.heap.size 3 1 (.slice (some ⟨w.heap.size, 0, none⟩) la la) la ((List.replicate la (0 : Int)).map (Value.int .i64))) := hide (by
    have := made_map la
    rw [Nat.mul_one] at this
    rw [← this]; exact hown)
  clear hown hgrow hi hz0 hz1 hz2
  go_wp2
  go_loopw [6, 7] (fun b t wr => ∃ (k : Nat) (c : Int) (os : List Int), b = .int .i64 c ∧ t = .int .i64 (k : Int) ∧ k ≤ la ∧ 0 ≤ c ∧ c ≤ 1 ∧ Hid (wr.ownsRow w.heap.size 3 1 (.slice (some ⟨w.heap.size, 0, none⟩) la la) la (os.map (Value.int .i64))) ∧ Hid (Below w.heap.size w wr) ∧ Hid (MinusIn xs ys os la k c)) (fun _ t _ => la - (intOf t).toNat)
  case atStart => exact ⟨0, 0, _, rfl, rfl, Nat.zero_le _, by omega, by omega, HO, HB, hide (minus_start xs ys la)⟩
  case round =>
    clear HO HB
    obtain ⟨k, c, os, rfl, rfl, hk, hc0, hc1, HO, HB, HI⟩ := hrel
    by_cases hkl : k < la
    · have c0 := owns_cell (unhide HO) k hkl
      have f0 := (unhide HO).frozenAt k
      obtain ⟨ba, oa, rfl, ba1, ca⟩ := unhide HOA (by omega)
      have ca := ca k hkl
      rw [← (unhide HB).cell (p := ⟨ba, oa + k, none⟩) ba1] at ca
      have sx := (unhide HDX).1.getD k
      have sy := (unhide HDX).2.getD k
      have MS := minus_step xs ys os la k c hkl (unhide HDX).1 (unhide HDX).2 (unhide HI)
      obtain ⟨p, hp⟩ : ∃ p, os.getD k 0 = p := ⟨_, rfl⟩
      obtain ⟨x, hx0⟩ : ∃ x, xs.getD k 0 = x := ⟨_, rfl⟩
      obtain ⟨y, hy0⟩ : ∃ y, ys.getD k 0 = y := ⟨_, rfl⟩
      rw [hp] at c0
      rw [hx0] at ca sx
      rw [hy0] at sy
      rw [hx0, hy0] at MS
      have HY := hide hy0
      have MS := hide MS
      obtain ⟨x1, x2⟩ := sx
      obtain ⟨y1, y2⟩ := sy
      clear hp hx0 hy0
      by_cases hkb : k < lb
      · obtain ⟨bb, ob, rfl, bb1, cb⟩ := unhide HOB (by omega)
        have cb := cb k hkb
        rw [unhide HY, ← (unhide HB).cell (p := ⟨bb, ob + k, none⟩) bb1] at cb
        by_cases hs : x - c - y < 0
        · have HO4 := hide (owns_set (unhide HO) k (x - c - y + 10))
          have HB4 := hide ((unhide HB).setCell (p := ⟨w.heap.size, k, none⟩) (Nat.le_refl _) (.int .i64 (x - c - y + 10)))
          have PD := hide ((unhide MS).2 hs)
          go_wp2
          go_roundw
          case rel => exact ⟨k + 1, 1, _, rfl, by go_num, by omega, by omega, by omega, HO4, HB4, PD⟩
          case measure => simp [intOf]; omega
        · have HO4 := hide (owns_set (unhide HO) k (x - c - y))
          have HB4 := hide ((unhide HB).setCell (p := ⟨w.heap.size, k, none⟩) (Nat.le_refl _) (.int .i64 (x - c - y)))
          have PD := hide ((unhide MS).1 (by omega))
          go_wp2
          go_roundw
          case rel => exact ⟨k + 1, 0, _, rfl, by go_num, by omega, by omega, by omega, HO4, HB4, PD⟩
          case measure => simp [intOf]; omega
      · have hy0 : y = 0 := by rw [← unhide HY, List.getD_eq_getElem?_getD, List.getElem?_eq_none (by have := unhide HLB; omega)]; rfl
        have ev : x - c - y = x - c := by omega
        have MS := unhide MS
        rw [ev] at MS
        have MS := hide MS
        clear ev hy0
        by_cases hs : x - c < 0
        · have HO4 := hide (owns_set (unhide HO) k (x - c + 10))
          have HB4 := hide ((unhide HB).setCell (p := ⟨w.heap.size, k, none⟩) (Nat.le_refl _) (.int .i64 (x - c + 10)))
          have PD := hide ((unhide MS).2 hs)
          go_wp2
          go_roundw
          case rel => exact ⟨k + 1, 1, _, rfl, by go_num, by omega, by omega, by omega, HO4, HB4, PD⟩
          case measure => simp [intOf]; omega
        · have HO4 := hide (owns_set (unhide HO) k (x - c))
          have HB4 := hide ((unhide HB).setCell (p := ⟨w.heap.size, k, none⟩) (Nat.le_refl _) (.int .i64 (x - c)))
          have PD := hide ((unhide MS).1 (by omega))
          go_wp2
          go_roundw
          case rel => exact ⟨k + 1, 0, _, rfl, by go_num, by omega, by omega, by omega, HO4, HB4, PD⟩
          case measure => simp [intOf]; omega
    · have hk1 : k = la := by omega
      subst hk1
      obtain ⟨d1, d2⟩ := minus_end xs ys os k c (unhide HLA) (by have := unhide HLB; omega) (unhide HLE) (unhide HI)
      have hol : os.length = k := (unhide HI).len
      have HD := hide (And.intro d1 (And.intro d2 hol))
      clear d1 d2 hol
      go_wp2_with fail
      refine (trim_any _ os _ (by have := (unhide HD).2.2; omega) (arr_of_owns (unhide HD).2.2.symm (unhide HO))).mono ?_
      intro e w5 hp
      obtain ⟨rfl, v', us, rfl, q1, q2, q3, q4, q5⟩ := trim_num (unhide HD).1 hp
      have Q := hide (And.intro q1 (And.intro q2 (And.intro q3 (And.intro q4 q5))))
      clear q1 q2 q3 q4 q5 hp
      go_wp2
      go_ret
      obtain ⟨q1, q2, q3, q4, q5⟩ := unhide Q
      exact ⟨unhide HB, v', us, rfl, q1, q2, q3, by rw [q4]; exact (unhide HD).2.1, by have := (unhide HD).2.2; omega, q5.2 _ (fr_of_owns (unhide HO))⟩
end Go.Proofs.Ytnlhgehibbgmoaa
