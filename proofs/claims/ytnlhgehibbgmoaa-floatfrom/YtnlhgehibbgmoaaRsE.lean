/- The contract of the reference's product. -/
import Derived.Test.YtnlhgehibbgmoaaRsC
namespace Go.Proofs.Ytnlhgehibbgmoaa
open Go.RowKit

structure TimesIn (xs ys os : List Int) (L i k : Nat) : Prop where
  len : os.length = L
  pos : ∀ j, 0 ≤ os.getD j 0
  low : ∀ j, j < i + k → os.getD j 0 ≤ 81 * ((i : Int) + 1)
  high : ∀ j, i + k ≤ j → os.getD j 0 ≤ 81 * (i : Int)
  sum : Dc.val os = Dc.val (xs.take i) * Dc.val ys + 10 ^ i * (xs.getD i 0 * Dc.val (ys.take k))

theorem times_step (xs ys os : List Int) (L i k : Nat) (h1 : i + k < L) (dx : Dc.Dig xs) (dy : Dc.Dig ys) (h : TimesIn xs ys os L i k) :
    TimesIn xs ys (os.set (i + k) (os.getD (i + k) 0 + xs.getD i 0 * ys.getD k 0)) L i (k + 1) := by
  obtain ⟨l, p, lo, hi, s⟩ := h
  have a1 := dx.getD i
  have a2 := dy.getD k
  have a3 : 0 ≤ xs.getD i 0 * ys.getD k 0 := Int.mul_nonneg a1.1 a2.1
  have a4 : xs.getD i 0 * ys.getD k 0 ≤ 81 := by
    have b1 : xs.getD i 0 * ys.getD k 0 ≤ xs.getD i 0 * 9 := Int.mul_le_mul_of_nonneg_left a2.2 a1.1
    omega
  refine ⟨by simpa using l, fun j => ?_, fun j hj => ?_, fun j hj => ?_, ?_⟩
  · rw [Dc.getD_set _ _ _ _ (by omega)]
    split
    · have := p (i + k); omega
    · exact p j
  · rw [Dc.getD_set _ _ _ _ (by omega)]
    split
    · have := hi (i + k) (by omega); omega
    · exact lo j (by omega)
  · rw [Dc.getD_set _ _ _ _ (by omega), if_neg (by omega)]
    exact hi j (by omega)
  · rw [Dc.val_set _ _ _ (by omega), s, Dc.val_take_succ, Int.pow_add]
    have e : os.getD (i + k) 0 + xs.getD i 0 * ys.getD k 0 - os.getD (i + k) 0 = xs.getD i 0 * ys.getD k 0 := by omega
    rw [e, Int.mul_add, Int.mul_add, Int.add_assoc]
    congr 2
    rw [Int.mul_assoc]
    congr 1
    rw [← Int.mul_assoc, ← Int.mul_assoc, Int.mul_comm (10 ^ k) (xs.getD i 0)]
theorem times_next (xs ys os : List Int) (L i k : Nat) (hk : ys.length ≤ k) (h : TimesIn xs ys os L i k) : TimesIn xs ys os L (i + 1) 0 := by
  obtain ⟨l, p, lo, hi, s⟩ := h
  refine ⟨l, p, fun j hj => ?_, fun j hj => ?_, ?_⟩
  · rcases Nat.lt_or_ge j (i + k) with h1 | h1
    · have := lo j h1; omega
    · have := hi j h1; omega
  · rcases Nat.lt_or_ge j (i + k) with h1 | h1
    · have := lo j h1; omega
    · have := hi j h1; omega
  · rw [s, List.take_of_length_le hk, Dc.val_take_succ, Int.add_mul, Int.mul_assoc]
    simp [Dc.val]
theorem times_start (xs ys : List Int) (L : Nat) : TimesIn xs ys (List.replicate L 0) L 0 0 :=
  ⟨by simp, fun j => by rw [Dc.getD_zeros]; omega, fun j hj => by omega, fun j _ => by rw [Dc.getD_zeros]; omega, by rw [Dc.val_zeros]; simp [Dc.val]⟩

/-- Carried up to place i. -/
structure CarryIn (os : List Int) (V M : Int) (L i : Nat) : Prop where
  len : os.length = L
  low : ∀ j, j < i → 0 ≤ os.getD j 0 ∧ os.getD j 0 ≤ 9
  mid : 0 ≤ os.getD i 0 ∧ os.getD i 0 ≤ 90 * M
  high : ∀ j, i < j → 0 ≤ os.getD j 0 ∧ os.getD j 0 ≤ 81 * M
  sum : Dc.val os = V
theorem carry_step (os : List Int) (V M : Int) (L i : Nat) (h1 : i + 1 < L) (h : CarryIn os V M L i) :
    CarryIn ((os.set (i + 1) (os.getD (i + 1) 0 + os.getD i 0 / 10)).set i (os.getD i 0 % 10)) V M L (i + 1) := by
  obtain ⟨l, lo, m, hi, s⟩ := h
  have h2 := hi (i + 1) (by omega)
  refine ⟨by simpa using l, fun j hj => ?_, ?_, fun j hj => ?_, ?_⟩
  · rw [Dc.getD_set _ _ _ _ (by simp; omega)]
    split
    · omega
    · rw [Dc.getD_set _ _ _ _ (by omega), if_neg (by omega)]; exact lo j (by omega)
  · rw [Dc.getD_set _ _ _ _ (by simp; omega), if_neg (by omega), Dc.getD_set _ _ _ _ (by omega), if_pos rfl]
    omega
  · rw [Dc.getD_set _ _ _ _ (by simp; omega), if_neg (by omega), Dc.getD_set _ _ _ _ (by omega), if_neg (by omega)]
    exact hi j (by omega)
  · rw [Dc.val_set _ _ _ (by simp; omega), Dc.getD_set _ _ _ _ (by omega), if_neg (by omega), Dc.val_set _ _ _ (by omega), s, Int.pow_succ]
    have : (10 : Int) ^ i * 10 * (os.getD (i + 1) 0 + os.getD i 0 / 10 - os.getD (i + 1) 0) + 10 ^ i * (os.getD i 0 % 10 - os.getD i 0) = 0 := by
      rw [Int.mul_assoc, ← Int.mul_add]
      have : 10 * (os.getD (i + 1) 0 + os.getD i 0 / 10 - os.getD (i + 1) 0) + (os.getD i 0 % 10 - os.getD i 0) = 0 := by omega
      rw [this, Int.mul_zero]
    omega
theorem carry_start (xs ys os : List Int) (L la : Nat) (hx : xs.length ≤ la) (h : TimesIn xs ys os L la 0) : CarryIn os (Dc.val xs * Dc.val ys) ((la : Int) + 1) L 0 := by
  obtain ⟨l, p, lo, hi, s⟩ := h
  have hb : ∀ j, 0 ≤ os.getD j 0 ∧ os.getD j 0 ≤ 81 * ((la : Int) + 1) := by
    intro j
    refine ⟨p j, ?_⟩
    rcases Nat.lt_or_ge j (la + 0) with h1 | h1
    · exact lo j h1
    · have := hi j h1; omega
  refine ⟨l, fun j hj => by omega, ⟨(hb 0).1, by have := (hb 0).2; omega⟩, fun j _ => hb j, ?_⟩
  rw [s, List.take_of_length_le hx]
  simp [Dc.val]
theorem carry_end (os : List Int) (V M : Int) (L i : Nat) (hi : i + 1 = L) (hV : V < 10 ^ i) (h : CarryIn os V M L i) : Dc.Dig os ∧ Dc.val os = V := by
  obtain ⟨l, lo, m, hi', s⟩ := h
  refine ⟨Dc.dig_of_getD fun j hj => ?_, s⟩
  rcases Nat.lt_or_ge j i with h1 | h1
  · exact lo j h1
  · have hj : j = i := by omega
    subst hj
    have e := Dc.val_take_succ os j
    rw [List.take_of_length_le (by omega), s] at e
    have hd : Dc.Dig (os.take j) := Dc.dig_of_getD fun k hk => by
      rw [List.length_take] at hk
      have := lo k (by omega)
      rw [List.getD_eq_getElem?_getD, List.getElem?_take, if_pos (by omega), ← List.getD_eq_getElem?_getD]
      exact this
    have hn := Dc.val_nonneg _ hd
    refine ⟨m.1, ?_⟩
    rcases Int.lt_or_le 9 (os.getD j 0) with h9 | h9
    · exfalso
      have hp := Dc.pow_pos j
      have : (10 : Int) ^ j * 1 ≤ 10 ^ j * os.getD j 0 := Int.mul_le_mul_of_nonneg_left (by omega) (by omega)
      omega
    · exact h9
theorem mul_lt (xs ys : List Int) (dx : Dc.Dig xs) (dy : Dc.Dig ys) : 0 ≤ Dc.val xs * Dc.val ys ∧ Dc.val xs * Dc.val ys < 10 ^ (xs.length + ys.length) := by
  have a0 := Dc.val_nonneg xs dx
  have b0 := Dc.val_nonneg ys dy
  have a1 := Dc.val_lt xs dx
  have b1 := Dc.val_lt ys dy
  refine ⟨Int.mul_nonneg a0 b0, ?_⟩
  rw [Int.pow_add]
  have hp := Dc.pow_pos ys.length
  have h1 : Dc.val xs * Dc.val ys ≤ Dc.val xs * 10 ^ ys.length := Int.mul_le_mul_of_nonneg_left (by omega) a0
  have h2 : Dc.val xs * 10 ^ ys.length < 10 ^ xs.length * 10 ^ ys.length := Int.mul_lt_mul_of_pos_right a1 hp
  omega

/-- The world behind one store into the row. -/
theorem row_world {B L : Nat} {w wr w2 : World} {os : List Int} {j : Nat} {v : Int} (hO : wr.ownsRow B 3 1 (.slice (some ⟨B, 0, none⟩) L L) L (os.map (Value.int .i64))) (hB : Below B w wr)
    (hw : w2 = (wr.setCell ⟨B, j, none⟩ (.int .i64 v)).drew) : Hid (w2.ownsRow B 3 1 (.slice (some ⟨B, 0, none⟩) L L) L ((os.set j v).map (Value.int .i64))) ∧ Hid (Below B w w2) := by
  have hO2 := (owns_set hO j v).drew
  rw [← hw] at hO2
  refine ⟨hO2, ?_⟩
  rw [hw]
  exact (hB.setCell (p := ⟨B, j, none⟩) (Nat.le_refl _) _).drew

theorem owns_lt {w : World} {B g n cap : Nat} {xs : List Value} (h : w.ownsRow B 3 1 (.slice (some ⟨g, 0, none⟩) n cap) n xs) : g < w.heap.size := by
  rcases h.2 with ⟨h, _⟩ | ⟨g', cap', cur, e, _, hh, _⟩
  · cases h
  · injection e with e1
    injection e1 with e1
    injection e1 with e1
    subst e1
    rcases Nat.lt_or_ge g w.heap.size with h' | h'
    · exact h'
    · rw [Array.getElem?_eq_none h'] at hh; cases hh

set_option maxRecDepth 100000 in
set_option maxHeartbeats 8000000 in
theorem product_ref (va vb : Value) (xs ys : List Int) (w : World) (hx : xs.length ≤ 200) (hy : ys.length ≤ 200) (hva : Arr w va xs) (hvb : Arr w vb ys) (dx : Dc.Dig xs) (dy : Dc.Dig ys) :
    Calls Try.prog 33 #[va, vb] w fun e w' => NumPost (Dc.val xs * Dc.val ys) (xs.length + ys.length + 1) w e w' := by
  obtain ⟨i0, hi, hz0, hz1, hz2⟩ := info_parts info3
  obtain ⟨xa, capa, rfl, hoa⟩ := arr_open hva
  obtain ⟨xb, capb, rfl, hob⟩ := arr_open hvb
  obtain ⟨la, hla⟩ : ∃ la, xs.length = la := ⟨_, rfl⟩
  obtain ⟨lb, hlb⟩ : ∃ lb, ys.length = lb := ⟨_, rfl⟩
  have hml := mul_lt xs ys dx dy
  rw [hla, hlb] at hml
  rw [hla] at hx hoa ⊢
  rw [hlb] at hy hob ⊢
  have HML := hide hml
  have HLA := hide hla
  have HLB := hide hlb
  have HOA := hide hoa
  have HOB := hide hob
  have HDX := hide (And.intro dx dy)
  clear hva hvb hla hlb hoa hob dx dy hml
  obtain ⟨L, hL⟩ : ∃ L, la + lb + 1 = L := ⟨_, rfl⟩
  have eL : ((la : Int) + (lb : Int) + 1) = (L : Int) := by omega
  have EL := hide eL
  have hL5 : L ≤ 401 := by omega
  have HL := hide hL
  clear eL
  rw [hL]
  clear hL
  go_enter Try.func33, Try.ntmps33
  go_wp2_with (first
    | (at_make; refine wpList_make_full _ rfl _ _ 59 rfl w.heap.size 3 i0 (.int .i64 0) 1 Try.underlying59 hi hz0 hz1 _ _ _ _ L rfl rfl (by exact unhide EL) (by exact unhide EL) (by rw [hz2]; omega) (by unfold maxLen; omega) (Nat.le_refl _) ?_)
    | go_in)
  intro w1 hown hgrow
  have HB : Hid (Below w.heap.size w w1) := hide ((Below.refl _ _).grown hgrow (Nat.le_refl _) (fun k hk => by cases hk))
  have HO : Hid (w1.ownsRow w.heap.size 3 1 (.slice (some ⟨w.heap.size, 0, none⟩) L L) L ((List.replicate L (0 : Int)).map (Value.int .i64))) := hide (by
    have := made_map L
    rw [Nat.mul_one] at this
    rw [← this]; exact hown)
  clear hown hgrow hi hz0 hz1 hz2
  go_wp2
  go_loopw [6] (fun t wr => ∃ (i : Nat) (os : List Int), t = .int .i64 (i : Int) ∧ i ≤ la ∧ Hid (wr.ownsRow w.heap.size 3 1 (.slice (some ⟨w.heap.size, 0, none⟩) L L) L (os.map (Value.int .i64))) ∧ Hid (Below w.heap.size w wr) ∧ Hid (TimesIn xs ys os L i 0)) (fun t _ => la - (intOf t).toNat)
  case atStart => exact ⟨0, _, rfl, Nat.zero_le _, HO, HB, hide (times_start xs ys L)⟩
  case round =>
    clear HO HB
    obtain ⟨i, os, rfl, hi, HO, HB, HI⟩ := hrel
    by_cases hil : i < la
    · go_wp2
      go_loopw [7] (fun t wr => ∃ (k : Nat) (os : List Int), t = .int .i64 (k : Int) ∧ k ≤ lb ∧ Hid (wr.ownsRow w.heap.size 3 1 (.slice (some ⟨w.heap.size, 0, none⟩) L L) L (os.map (Value.int .i64))) ∧ Hid (Below w.heap.size w wr) ∧ Hid (TimesIn xs ys os L i k)) (fun t _ => lb - (intOf t).toNat)
      case atStart => exact ⟨0, os, rfl, Nat.zero_le _, HO, HB, HI⟩
      case round =>
        clear HO HB HI
        obtain ⟨k, os, rfl, hk, HO, HB, HI⟩ := hrel
        by_cases hkl : k < lb
        · have hikL : i + k < L := by have := unhide HL; omega
          have c0 := owns_cell (unhide HO) (i + k) hikL
          have f0 := (unhide HO).frozenAt (i + k)
          have p0 := (unhide HI).pos (i + k)
          have p1 := (unhide HI).high (i + k) (by omega)
          obtain ⟨ba, oa, rfl, ba1, ca⟩ := unhide HOA (by omega)
          obtain ⟨bb, ob, rfl, bb1, cb⟩ := unhide HOB (by omega)
          have ca := ca i hil
          have cb := cb k hkl
          rw [← (unhide HB).cell (p := ⟨ba, oa + i, none⟩) ba1] at ca
          rw [← (unhide HB).cell (p := ⟨bb, ob + k, none⟩) bb1] at cb
          have sx := (unhide HDX).1.getD i
          have sy := (unhide HDX).2.getD k
          have TS := times_step xs ys os L i k hikL (unhide HDX).1 (unhide HDX).2 (unhide HI)
          have a3 : 0 ≤ xs.getD i 0 * ys.getD k 0 := Int.mul_nonneg sx.1 sy.1
          have a4 : xs.getD i 0 * ys.getD k 0 ≤ 81 := by
            have b1 : xs.getD i 0 * ys.getD k 0 ≤ xs.getD i 0 * 9 := Int.mul_le_mul_of_nonneg_left sy.2 sx.1
            omega
          obtain ⟨p, hp⟩ : ∃ p, os.getD (i + k) 0 = p := ⟨_, rfl⟩
          obtain ⟨x, hx0⟩ : ∃ x, xs.getD i 0 = x := ⟨_, rfl⟩
          obtain ⟨y, hy0⟩ : ∃ y, ys.getD k 0 = y := ⟨_, rfl⟩
          obtain ⟨z, hz⟩ : ∃ z, x * y = z := ⟨_, rfl⟩
          rw [hp] at c0 p0 p1
          rw [hx0] at ca a3 a4
          rw [hy0] at cb a3 a4
          rw [hz] at a3 a4
          rw [hp, hx0, hy0, hz] at TS
          have TS := hide TS
          have eik : ((i : Int) + (k : Int)).toNat = i + k := by omega
          have hb1 : (i : Int) + (k : Int) < (L : Int) := by omega
          have hpb : p ≤ 20000 := by omega
          clear hp hx0 hy0 sx sy p1
          go_wp2
          go_region
          obtain ⟨w2, ew2⟩ : ∃ w2, (wr.setCell ⟨w.heap.size, i + k, none⟩ (.int .i64 (p + z))).drew = w2 := ⟨_, rfl⟩
          rw [ew2]
          obtain ⟨HO', HB'⟩ := row_world (unhide HO) (unhide HB) ew2.symm
          clear c0 f0 ew2 ca cb
          go_wp2
          go_roundw
          case rel => exact ⟨k + 1, _, by go_num, by omega, HO', HB', TS⟩
          case measure => simp [intOf]; omega
        · have TN := hide (times_next xs ys os L i k (by have := unhide HLB; omega) (unhide HI))
          go_wp2
          go_roundw
          case rel => exact ⟨i + 1, os, by go_num, by omega, HO, HB, TN⟩
          case measure => simp [intOf]; omega
    · have hil' : i = la := by omega
      subst hil'
      have CS := hide (carry_start xs ys os L i (by have := unhide HLA; omega) (unhide HI))
      go_wp2
      go_loopw [8] (fun t wr => ∃ (k : Nat) (os : List Int), t = .int .i64 (k : Int) ∧ k + 1 ≤ L ∧ Hid (wr.ownsRow w.heap.size 3 1 (.slice (some ⟨w.heap.size, 0, none⟩) L L) L (os.map (Value.int .i64))) ∧ Hid (Below w.heap.size w wr) ∧ Hid (CarryIn os (Dc.val xs * Dc.val ys) ((i : Int) + 1) L k)) (fun t _ => L - (intOf t).toNat)
      case atStart => exact ⟨0, os, rfl, by have := unhide HL; omega, HO, HB, CS⟩
      case round =>
        clear HO HB HI CS
        obtain ⟨k, os, rfl, hk, HO, HB, HI⟩ := hrel
        by_cases hkl : k + 1 < L
        · have c0 := owns_cell (unhide HO) k (by omega)
          have c1 := owns_cell (unhide HO) (k + 1) (by omega)
          have f0 := (unhide HO).frozenAt k
          have f1 := (unhide HO).frozenAt (k + 1)
          have m0 := (unhide HI).mid
          have m1 := (unhide HI).high (k + 1) (by omega)
          have hlen := (unhide HI).len
          have TS := carry_step os _ _ L k hkl (unhide HI)
          obtain ⟨p, hp⟩ : ∃ p, os.getD k 0 = p := ⟨_, rfl⟩
          obtain ⟨q, hq⟩ : ∃ q, os.getD (k + 1) 0 = q := ⟨_, rfl⟩
          rw [hp] at c0 m0
          rw [hq] at c1 m1
          rw [hp, hq] at TS
          have TS := hide TS
          have HP := hide hp
          have HLEN := hide hlen
          obtain ⟨p0, p1⟩ := m0
          obtain ⟨q0, q1⟩ := m1
          have pb : p ≤ 40000 := by omega
          have qb : q ≤ 40000 := by omega
          have ek1 : ((k : Int) + 1).toNat = k + 1 := by omega
          clear hp hq p1 q1 hlen
          go_wp2
          go_region
          obtain ⟨w2, ew2⟩ : ∃ w2, (wr.setCell ⟨w.heap.size, k + 1, none⟩ (.int .i64 (q + p / 10))).drew = w2 := ⟨_, rfl⟩
          rw [ew2]
          obtain ⟨HO', HB'⟩ := row_world (unhide HO) (unhide HB) ew2.symm
          clear c0 c1 f0 f1 ew2
          have c0 := owns_cell (unhide HO') k (by omega)
          have f0 := (unhide HO').frozenAt k
          rw [Dc.getD_set _ _ _ _ (by have := unhide HLEN; omega), if_neg (by omega), unhide HP] at c0
          have HO4 : Hid ((w2.setCell ⟨w.heap.size, k, none⟩ (.int .i64 (p % 10))).ownsRow w.heap.size 3 1 (.slice (some ⟨w.heap.size, 0, none⟩) L L) L (((os.set (k + 1) (q + p / 10)).set k (p % 10)).map (Value.int .i64))) := hide (owns_set (unhide HO') k (p % 10))
          have HB4 := hide ((unhide HB').setCell (p := ⟨w.heap.size, k, none⟩) (Nat.le_refl _) (.int .i64 (p % 10)))
          go_wp2
          go_roundw
          case rel => exact ⟨k + 1, _, by go_num, by omega, HO4, HB4, TS⟩
          case measure => simp [intOf]; omega
        · have hk1 : k + 1 = L := by omega
          have hkl2 : k = i + lb := by have := unhide HL; omega
          obtain ⟨d1, d2⟩ := carry_end os _ _ L k hk1 (by rw [hkl2]; exact (unhide HML).2) (unhide HI)
          have hol : os.length = L := (unhide HI).len
          have HD := hide (And.intro d1 (And.intro d2 hol))
          have HK := hide hkl2
          clear d1 d2 hol hkl2
          have HCL : Hid (∀ i, i < os.length → wr.cell? ⟨w.heap.size, 0 + i, none⟩ = some (.int .i64 (os.getD i 0))) := hide (fun i hi => by
            rw [Nat.zero_add]; exact owns_cell (unhide HO) i (by have := (unhide HD).2.2; omega))
          have HBL : Hid (w.heap.size < wr.heap.size) := hide (owns_lt (unhide HO))
          go_wp2
          go_loop [9] (fun t => ∃ n : Nat, t = .int .i64 (n : Int) ∧ n ≤ L ∧ Hid (∀ i, n ≤ i → os.getD i 0 = 0)) (fun t => (intOf t).toNat)
          case atStart => exact ⟨L, rfl, Nat.le_refl _, hide (fun i hi => by rw [List.getD_eq_getElem?_getD, List.getElem?_eq_none (by have := (unhide HD).2.2; omega)]; rfl)⟩
          case round =>
            obtain ⟨n, rfl, hn, HZ⟩ := hrel
            by_cases h0 : n = 0
            · subst h0
              go_wp2
              go_ret
              obtain ⟨d1, d2, hol⟩ := unhide HD
              exact ⟨unhide HB, .slice (some ⟨w.heap.size, 0, none⟩) 0 L, os.take 0, rfl, arr_take (Nat.zero_le _) (by omega) (unhide HBL) (unhide HCL), d1.take 0, Dc.cn_cut os 0 (Nat.zero_le _) (Or.inl rfl), by rw [Dc.val_cut os 0 (unhide HZ)]; exact d2, by rw [List.length_take]; omega, fr_cut (fr_of_owns (unhide HO))⟩
            · have hc := unhide HCL (n - 1) (by have := (unhide HD).2.2; omega)
              rw [Nat.zero_add] at hc
              obtain ⟨x, hx⟩ : ∃ x, os.getD (n - 1) 0 = x := ⟨_, rfl⟩
              rw [hx] at hc
              have HX := hide hx
              have hn1 : 1 ≤ n := by omega
              have ea : Hid (((n : Int) - 1).toNat = n - 1) := hide (by omega)
              clear hx h0
              by_cases hx0 : x = 0
              · subst hx0
                go_wp2
                exact ⟨⟨n - 1, int_eqv (by omega), by omega, hide (fun i hi => by
                  by_cases he : i = n - 1
                  · subst he; exact unhide HX
                  · exact unhide HZ i (by omega))⟩, by simp [intOf]; omega⟩
              · have hxb : (x == 0) = false := by rw [beq_eq_false_iff_ne]; exact hx0
                have HX0 := hide hx0
                clear hx0
                go_wp2
                go_ret
                obtain ⟨d1, d2, hol⟩ := unhide HD
                exact ⟨unhide HB, .slice (some ⟨w.heap.size, 0, none⟩) n L, os.take n, rfl, arr_take (by omega) (by omega) (unhide HBL) (unhide HCL), d1.take n, Dc.cn_cut os n (by omega) (Or.inr (by rw [unhide HX]; exact unhide HX0)), by rw [Dc.val_cut os n (unhide HZ)]; exact d2, by rw [List.length_take]; omega, fr_cut (fr_of_owns (unhide HO))⟩
end Go.Proofs.Ytnlhgehibbgmoaa
