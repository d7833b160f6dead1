/- The contract of the reference's plus, of layer 2. -/
import Derived.Test.YtnlhgehibbgmoaaRsJ
namespace Go.Proofs.Ytnlhgehibbgmoaa
open Go.RowKit

/-- What holds at plus's round k. -/
structure PlusInv (xs ys os : List Int) (n k : Nat) : Prop where
  len : os.length = n + 1
  low : ∀ j, j < k → 0 ≤ os.getD j 0 ∧ os.getD j 0 ≤ 9
  mid : 0 ≤ os.getD k 0 ∧ os.getD k 0 ≤ 1
  high : ∀ j, k < j → os.getD j 0 = 0
  sum : Dc.val os = Dc.val (xs.take k) + Dc.val (ys.take k)

theorem plus_step (xs ys os : List Int) (n k : Nat) (hk : k < n) (dx : Dc.Dig xs) (dy : Dc.Dig ys) (h : PlusInv xs ys os n k) :
    (os.getD k 0 + xs.getD k 0 + ys.getD k 0 < 10 → PlusInv xs ys (os.set k (os.getD k 0 + xs.getD k 0 + ys.getD k 0)) n (k + 1)) ∧
    (10 ≤ os.getD k 0 + xs.getD k 0 + ys.getD k 0 → PlusInv xs ys ((os.set k (os.getD k 0 + xs.getD k 0 + ys.getD k 0 - 10)).set (k + 1) 1) n (k + 1)) := by
  obtain ⟨h1, h2, h3, h4, h5⟩ := h
  have a1 := dx.getD k
  have a2 := dy.getD k
  have e0 := h4 (k + 1) (by omega)
  constructor
  · intro hs
    refine ⟨by simpa using h1, fun j hj => ?_, ?_, fun j hj => ?_, ?_⟩
    · rw [Dc.getD_set _ _ _ _ (by omega)]
      split
      · omega
      · exact h2 j (by omega)
    · rw [Dc.getD_set _ _ _ _ (by omega), if_neg (by omega), e0]; omega
    · rw [Dc.getD_set _ _ _ _ (by omega), if_neg (by omega)]; exact h4 j (by omega)
    · rw [Dc.val_set _ _ _ (by omega), Dc.val_take_succ, Dc.val_take_succ, h5]
      have : (10 : Int) ^ k * (os.getD k 0 + xs.getD k 0 + ys.getD k 0 - os.getD k 0) = 10 ^ k * xs.getD k 0 + 10 ^ k * ys.getD k 0 := by
        rw [← Int.mul_add]; congr 1; omega
      rw [this]; omega
  · intro hs
    refine ⟨by simpa using h1, fun j hj => ?_, ?_, fun j hj => ?_, ?_⟩
    · rw [Dc.getD_set _ _ _ _ (by simp; omega), if_neg (by omega), Dc.getD_set _ _ _ _ (by omega)]
      split
      · omega
      · exact h2 j (by omega)
    · rw [Dc.getD_set _ _ _ _ (by simp; omega), if_pos rfl]; omega
    · rw [Dc.getD_set _ _ _ _ (by simp; omega), if_neg (by omega), Dc.getD_set _ _ _ _ (by omega), if_neg (by omega)]; exact h4 j (by omega)
    · rw [Dc.val_set _ _ _ (by simp; omega), Dc.getD_set _ _ _ _ (by omega), if_neg (by omega), e0, Dc.val_set _ _ _ (by omega), Dc.val_take_succ, Dc.val_take_succ, h5, Int.pow_succ]
      have : (10 : Int) ^ k * (os.getD k 0 + xs.getD k 0 + ys.getD k 0 - 10 - os.getD k 0) + 10 ^ k * 10 * (1 - 0) = 10 ^ k * xs.getD k 0 + 10 ^ k * ys.getD k 0 := by
        rw [Int.mul_assoc, ← Int.mul_add, ← Int.mul_add]; congr 1; omega
      omega
theorem plus_start (xs ys : List Int) (n : Nat) : PlusInv xs ys (List.replicate (n + 1) 0) n 0 :=
  ⟨by simp, fun j hj => by omega, by rw [Dc.getD_zeros]; omega, fun j _ => Dc.getD_zeros _ j, by rw [Dc.val_zeros]; simp [Dc.val]⟩
theorem plus_end (xs ys os : List Int) (n : Nat) (h : PlusInv xs ys os n n) (hx : xs.length ≤ n) (hy : ys.length ≤ n) : Dc.Dig os ∧ Dc.val os = Dc.val xs + Dc.val ys := by
  refine ⟨Dc.dig_of_getD fun i hi => ?_, ?_⟩
  · rw [h.len] at hi
    rcases Nat.lt_or_ge i n with h1 | h1
    · exact h.low i h1
    · have : i = n := by omega
      subst this; have := h.mid; omega
  · have := h.sum
    rw [List.take_of_length_le hx, List.take_of_length_le hy] at this
    exact this

/-- The world behind one store into the row. -/
theorem plus_world {B n k : Nat} {w wr w2 : World} {os : List Int} {v : Int} (hO : wr.ownsRow B 3 1 (.slice (some ⟨B, 0, none⟩) (n + 1) (n + 1)) (n + 1) (os.map (Value.int .i64))) (hB : Below B w wr) (hl : k + 1 < os.length)
    (h1 : os.getD (k + 1) 0 = 0) (hw : w2 = (wr.setCell ⟨B, k, none⟩ (.int .i64 v)).drew) :
    w2.cell? ⟨B, k, none⟩ = some (.int .i64 v) ∧ w2.cell? ⟨B, k + 1, none⟩ = some (.int .i64 0) ∧ w2.frozen? ⟨B, k, none⟩ = false ∧ w2.frozen? ⟨B, k + 1, none⟩ = false ∧
      Hid (w2.ownsRow B 3 1 (.slice (some ⟨B, 0, none⟩) (n + 1) (n + 1)) (n + 1) ((os.set k v).map (Value.int .i64))) ∧ Hid (Below B w w2) := by
  have hl' : os.length = n + 1 := by have := hO.1; simpa using this
  have hO2 := (owns_set hO k v).drew
  rw [← hw] at hO2
  have c0 := owns_cell hO2 k (by omega)
  have c1 := owns_cell hO2 (k + 1) (by omega)
  rw [Dc.getD_set _ _ _ _ (by omega), if_pos rfl] at c0
  rw [Dc.getD_set _ _ _ _ (by omega), if_neg (by omega), h1] at c1
  refine ⟨c0, c1, hO2.frozenAt k, hO2.frozenAt (k + 1), hO2, ?_⟩
  rw [hw]
  exact (hB.setCell (p := ⟨B, k, none⟩) (Nat.le_refl _) _).drew


/-- Of a sum: what it is, and where it lies. -/
def SumPost (n : Int) (len : Nat) (w : World) (e : Ending) (w' : World) : Prop :=
  Below w.heap.size w w' ∧ ∃ v zs, e = .returned v ∧ Arr w' v zs ∧ Dc.Dig zs ∧ Dc.val zs = n ∧ zs.length ≤ len

theorem set_self2 (os : List Int) (i : Nat) (hi : i < os.length) (h : os.getD i 0 = 0) : os.set i 0 = os := by
  apply List.ext_getElem?
  intro j
  rw [List.getElem?_set]
  by_cases hj : i = j
  · subst hj
    rw [if_pos rfl, if_pos hi]
    rw [List.getD_eq_getElem?_getD, List.getElem?_eq_getElem hi] at h
    rw [List.getElem?_eq_getElem hi]
    exact congrArg some h.symm
  · rw [if_neg hj]

theorem set_swap (os : List Int) (k : Nat) (s q r : Int) : ((os.set k s).set (k + 1) q).set k r = (os.set (k + 1) q).set k r := by
  rw [List.set_comm s q (show k ≠ k + 1 by omega), List.set_set]
theorem plus_step2 (xs ys os : List Int) (n k : Nat) (hk : k < n) (dx : Dc.Dig xs) (dy : Dc.Dig ys) (h : PlusInv xs ys os n k) :
    PlusInv xs ys ((os.set (k + 1) ((os.getD k 0 + xs.getD k 0 + ys.getD k 0) / 10)).set k ((os.getD k 0 + xs.getD k 0 + ys.getD k 0) % 10)) n (k + 1) := by
  have hs := plus_step xs ys os n k hk dx dy h
  have a1 := dx.getD k
  have a2 := dy.getD k
  have a3 := h.mid
  have e0 := h.high (k + 1) (by omega)
  have hl := h.len
  obtain ⟨s, hss⟩ : ∃ s, os.getD k 0 + xs.getD k 0 + ys.getD k 0 = s := ⟨_, rfl⟩
  rw [hss] at hs ⊢
  by_cases h10 : s < 10
  · rw [show s / 10 = 0 by omega, show s % 10 = s by omega, set_self2 os (k + 1) (by omega) e0]
    exact hs.1 h10
  · rw [show s / 10 = 1 by omega, show s % 10 = s - 10 by omega, List.set_comm 1 (s - 10) (show k + 1 ≠ k by omega)]
    exact hs.2 (by omega)

set_option maxRecDepth 100000 in
set_option maxHeartbeats 4000000 in
theorem plus2_ref (va vb : Value) (xs ys : List Int) (w : World) (hx : xs.length ≤ 900) (hy : ys.length ≤ 900) (hva : Arr w va xs) (hvb : Arr w vb ys) (dx : Dc.Dig xs) (dy : Dc.Dig ys) :
    Calls Try.prog 36 #[va, vb] w fun e w' => SumPost (Dc.val xs + Dc.val ys) (max xs.length ys.length + 1) w e w' := by
  obtain ⟨i0, hi, hz0, hz1, hz2⟩ := info_parts info3
  obtain ⟨xa, capa, rfl, hoa⟩ := arr_open hva
  obtain ⟨xb, capb, rfl, hob⟩ := arr_open hvb
  obtain ⟨la, hla⟩ : ∃ la, xs.length = la := ⟨_, rfl⟩
  obtain ⟨lb, hlb⟩ : ∃ lb, ys.length = lb := ⟨_, rfl⟩
  rw [hla] at hx hoa ⊢
  rw [hlb] at hy hob ⊢
  have HLA := hide hla
  have HLB := hide hlb
  have HOA := hide hoa
  have HOB := hide hob
  have HDX := hide (And.intro dx dy)
  clear hva hvb hla hlb hoa hob dx dy
  obtain ⟨n, hn⟩ : ∃ n, max la lb = n := ⟨_, rfl⟩
  rw [hn]
  have hna : la ≤ n := by omega
  have hnb : lb ≤ n := by omega
  have hn9 : n ≤ 900 := by omega
  have HN := hide hn
  clear hn
  go_enter Try.func36, Try.ntmps36
  go_upto_if 13 with fail
  go_cut [5] from 14 (fun t wx => t = .int .i64 (n : Int) ∧ wx = w)
  case first =>
    by_cases hll : la < lb
    · have e : Hid (n = lb) := hide (by have := unhide HN; omega)
      go_wp2
      go_meet
      case rel => exact ⟨by rw [unhide e], rfl⟩
    · have e : Hid (n = la) := hide (by have := unhide HN; omega)
      go_wp2
      go_meet
      case rel => exact ⟨by rw [unhide e], rfl⟩
  case rest =>
    obtain ⟨rfl, rfl⟩ := hcut
    go_wp2_with (first
      | (at_make; refine wpList_make_full _ rfl _ _ 59 rfl wc.heap.size 3 i0 (.int .i64 0) 1 Try.underlying59 hi hz0 hz1 _ _ _ _ (n + 1) rfl rfl (by omega) (by omega) (by rw [hz2]; omega) (by unfold maxLen; omega) (Nat.le_refl _) ?_)
      | go_in)
    intro w1 hown hgrow
    have HB : Hid (Below wc.heap.size wc w1) := hide ((Below.refl _ _).grown hgrow (Nat.le_refl _) (fun k hk => by cases hk))
    have HO : Hid (w1.ownsRow wc.heap.size 3 1 (.slice (some ⟨wc.heap.size, 0, none⟩) (n + 1) (n + 1)) (n + 1) ((List.replicate (n + 1) (0 : Int)).map (Value.int .i64))) := hide (by
      have := made_map (n + 1)
      rw [Nat.mul_one] at this
      rw [← this]; exact hown)
    clear hown hgrow hi hz0 hz1 hz2
    go_wp2
    go_loopw [7] (fun t wr => ∃ (k : Nat) (os : List Int), t = .int .i64 (k : Int) ∧ k ≤ n ∧ Hid (wr.ownsRow wc.heap.size 3 1 (.slice (some ⟨wc.heap.size, 0, none⟩) (n + 1) (n + 1)) (n + 1) (os.map (Value.int .i64))) ∧ Hid (Below wc.heap.size wc wr) ∧ Hid (PlusInv xs ys os n k)) (fun t _ => n - (intOf t).toNat)
    case atStart => exact ⟨0, _, rfl, Nat.zero_le _, HO, HB, hide (plus_start xs ys n)⟩
    case round =>
      clear HO HB
      obtain ⟨k, os, rfl, hk, HO, HB, HI⟩ := hrel
      by_cases hkn : k < n
      · have c0 := owns_cell (unhide HO) k (by omega)
        have c1 := owns_cell (unhide HO) (k + 1) (by omega)
        have f0 := (unhide HO).frozenAt k
        have f1 := (unhide HO).frozenAt (k + 1)
        have e1 : os.getD (k + 1) 0 = 0 := (unhide HI).high (k + 1) (by omega)
        have m0 := (unhide HI).mid
        have sx := (unhide HDX).1.getD k
        have sy := (unhide HDX).2.getD k
        have PS := plus_step2 xs ys os n k hkn (unhide HDX).1 (unhide HDX).2 (unhide HI)
        have z1 := (unhide HB).size
        rw [e1] at c1
        obtain ⟨p, hp⟩ : ∃ p, os.getD k 0 = p := ⟨_, rfl⟩
        obtain ⟨x, hx0⟩ : ∃ x, xs.getD k 0 = x := ⟨_, rfl⟩
        obtain ⟨y, hy0⟩ : ∃ y, ys.getD k 0 = y := ⟨_, rfl⟩
        rw [hp] at c0 m0 PS
        rw [hx0] at sx PS
        rw [hy0] at sy PS
        have HP := hide hp
        have HX := hide hx0
        have HY := hide hy0
        have PS := hide PS
        have HE1 := hide e1
        clear hp hx0 hy0 e1
        obtain ⟨m1, m2⟩ := m0
        obtain ⟨x1, x2⟩ := sx
        obtain ⟨y1, y2⟩ := sy
        have hlen : k < os.length := by rw [(unhide HI).len]; omega
        have hlen1 : k + 1 < os.length := by rw [(unhide HI).len]; omega
        by_cases hka : k < la
        · obtain ⟨ba, oa, rfl, ba1, ca⟩ := unhide HOA (by omega)
          have ca := ca k hka
          rw [unhide HX, ← (unhide HB).cell (p := ⟨ba, oa + k, none⟩) ba1] at ca
          go_wp2
          go_region
          obtain ⟨w2, ew2⟩ : ∃ w2, (wr.setCell ⟨wc.heap.size, k, none⟩ (.int .i64 (p + x))).drew = w2 := ⟨_, rfl⟩
          rw [ew2]
          obtain ⟨c0', c1', f0', f1', HO', HB'⟩ := plus_world (unhide HO) (unhide HB) hlen1 (unhide HE1) ew2.symm
          clear c0 c1 f0 f1 ew2 ca
          by_cases hkb : k < lb
          · obtain ⟨bb, ob, rfl, bb1, cb⟩ := unhide HOB (by omega)
            have cb := cb k hkb
            rw [unhide HY, ← (unhide HB').cell (p := ⟨bb, ob + k, none⟩) bb1] at cb
            go_wp2
            go_region
            obtain ⟨w3, ew3⟩ : ∃ w3, (w2.setCell ⟨wc.heap.size, k, none⟩ (.int .i64 (p + x + y))).drew = w3 := ⟨_, rfl⟩
            rw [ew3]
            obtain ⟨c0, c1, f0, f1, HO3, HB3⟩ := plus_world (unhide HO') (unhide HB') (by simpa using hlen1) (by rw [Dc.getD_set _ _ _ _ hlen, if_neg (by omega)]; exact unhide HE1) ew3.symm
            rw [List.set_set] at HO3
            clear c0' c1' f0' f1' ew3 cb
            have HO4 : Hid (((w3.setCell ⟨wc.heap.size, k + 1, none⟩ (.int .i64 ((p + x + y) / 10))).setCell ⟨wc.heap.size, k, none⟩ (.int .i64 ((p + x + y) % 10))).ownsRow wc.heap.size 3 1 (.slice (some ⟨wc.heap.size, 0, none⟩) (n + 1) (n + 1)) (n + 1) (((os.set (k + 1) ((p + x + y) / 10)).set k ((p + x + y) % 10)).map (Value.int .i64))) := hide (by
              have := owns_set (owns_set (unhide HO3) (k + 1) ((p + x + y) / 10)) k ((p + x + y) % 10)
              rw [set_swap] at this
              exact this)
            have HB4 := hide (((unhide HB3).setCell (p := ⟨wc.heap.size, k + 1, none⟩) (Nat.le_refl _) (.int .i64 ((p + x + y) / 10))).setCell (p := ⟨wc.heap.size, k, none⟩) (Nat.le_refl _) (.int .i64 ((p + x + y) % 10)))
            have PD : Hid (PlusInv xs ys ((os.set (k + 1) ((p + x + y) / 10)).set k ((p + x + y) % 10)) n (k + 1)) := hide (by exact unhide PS)
            go_wp2
            go_roundw
            case rel => exact ⟨k + 1, _, by go_num, by omega, HO4, HB4, PD⟩
            case measure => simp [intOf]; omega
          · have hy0 : y = 0 := by rw [← unhide HY, List.getD_eq_getElem?_getD, List.getElem?_eq_none (by have := unhide HLB; omega)]; rfl
            have ev : p + x + y = p + x := by omega
            have EV := hide ev
            have HO3 := HO'
            have HB3 := HB'
            clear ev hy0
            have HO4 : Hid (((w2.setCell ⟨wc.heap.size, k + 1, none⟩ (.int .i64 ((p + x) / 10))).setCell ⟨wc.heap.size, k, none⟩ (.int .i64 ((p + x) % 10))).ownsRow wc.heap.size 3 1 (.slice (some ⟨wc.heap.size, 0, none⟩) (n + 1) (n + 1)) (n + 1) (((os.set (k + 1) ((p + x) / 10)).set k ((p + x) % 10)).map (Value.int .i64))) := hide (by
              have := owns_set (owns_set (unhide HO3) (k + 1) ((p + x) / 10)) k ((p + x) % 10)
              rw [set_swap] at this
              exact this)
            have HB4 := hide (((unhide HB3).setCell (p := ⟨wc.heap.size, k + 1, none⟩) (Nat.le_refl _) (.int .i64 ((p + x) / 10))).setCell (p := ⟨wc.heap.size, k, none⟩) (Nat.le_refl _) (.int .i64 ((p + x) % 10)))
            have PD : Hid (PlusInv xs ys ((os.set (k + 1) ((p + x) / 10)).set k ((p + x) % 10)) n (k + 1)) := hide (by rw [← unhide EV]; exact unhide PS)
            go_wp2
            go_roundw
            case rel => exact ⟨k + 1, _, by go_num, by omega, HO4, HB4, PD⟩
            case measure => simp [intOf]; omega
        · have hx0 : x = 0 := by rw [← unhide HX, List.getD_eq_getElem?_getD, List.getElem?_eq_none (by have := unhide HLA; omega)]; rfl
          have hkb : k < lb := by have := unhide HN; omega
          have ev : p + x + y = p + y := by omega
          have EV := hide ev
          clear ev hx0
          obtain ⟨bb, ob, rfl, bb1, cb⟩ := unhide HOB (by omega)
          have cb := cb k hkb
          rw [unhide HY, ← (unhide HB).cell (p := ⟨bb, ob + k, none⟩) bb1] at cb
          go_wp2
          go_region
          obtain ⟨w3, ew3⟩ : ∃ w3, (wr.setCell ⟨wc.heap.size, k, none⟩ (.int .i64 (p + y))).drew = w3 := ⟨_, rfl⟩
          rw [ew3]
          obtain ⟨c0', c1', f0', f1', HO3, HB3⟩ := plus_world (unhide HO) (unhide HB) hlen1 (unhide HE1) ew3.symm
          clear c0 c1 f0 f1 ew3 cb
          have HO4 : Hid (((w3.setCell ⟨wc.heap.size, k + 1, none⟩ (.int .i64 ((p + y) / 10))).setCell ⟨wc.heap.size, k, none⟩ (.int .i64 ((p + y) % 10))).ownsRow wc.heap.size 3 1 (.slice (some ⟨wc.heap.size, 0, none⟩) (n + 1) (n + 1)) (n + 1) (((os.set (k + 1) ((p + y) / 10)).set k ((p + y) % 10)).map (Value.int .i64))) := hide (by
            have := owns_set (owns_set (unhide HO3) (k + 1) ((p + y) / 10)) k ((p + y) % 10)
            rw [set_swap] at this
            exact this)
          have HB4 := hide (((unhide HB3).setCell (p := ⟨wc.heap.size, k + 1, none⟩) (Nat.le_refl _) (.int .i64 ((p + y) / 10))).setCell (p := ⟨wc.heap.size, k, none⟩) (Nat.le_refl _) (.int .i64 ((p + y) % 10)))
          have PD : Hid (PlusInv xs ys ((os.set (k + 1) ((p + y) / 10)).set k ((p + y) % 10)) n (k + 1)) := hide (by rw [← unhide EV]; exact unhide PS)
          go_wp2
          go_roundw
          case rel => exact ⟨k + 1, _, by go_num, by omega, HO4, HB4, PD⟩
          case measure => simp [intOf]; omega
      · have hkn' : k = n := by omega
        subst hkn'
        obtain ⟨d1, d2⟩ := plus_end xs ys os k (unhide HI) (by have := unhide HLA; omega) (by have := unhide HLB; omega)
        have hol : os.length = k + 1 := (unhide HI).len
        have hz : ∀ i, k + 1 ≤ i → os.getD i 0 = 0 := fun i hi => by rw [List.getD_eq_getElem?_getD, List.getElem?_eq_none (by omega)]; rfl
        have HD := hide (And.intro d1 (And.intro d2 (And.intro hol hz)))
        have c0 := owns_cell (unhide HO) k (by omega)
        obtain ⟨t, ht⟩ : ∃ t, os.getD k 0 = t := ⟨_, rfl⟩
        rw [ht] at c0
        have HT := hide ht
        have HBL : Hid (wc.heap.size < wr.heap.size) := hide (owns_lt (unhide HO))
        have HCL : Hid (∀ i, i < os.length → wr.cell? ⟨wc.heap.size, 0 + i, none⟩ = some (.int .i64 (os.getD i 0))) := hide (fun i hi => by
          rw [Nat.zero_add]; exact owns_cell (unhide HO) i (by omega))
        clear d1 d2 hol ht hz
        by_cases ht0 : t = 0
        · subst ht0
          go_wp2
          go_ret
          obtain ⟨d1, d2, hol, hz⟩ := unhide HD
          exact ⟨unhide HB, .slice (some ⟨wc.heap.size, 0, none⟩) k (k + 1), os.take k, rfl, arr_take (by omega) (by omega) (unhide HBL) (unhide HCL), d1.take k, by
            rw [Dc.val_cut os k (fun i hi => by
              rcases Nat.lt_or_ge k i with h | h
              · exact hz i h
              · have : i = k := by omega
                rw [this]; exact unhide HT)]; exact d2, by rw [List.length_take]; omega⟩
        · have htb : (t == 0) = false := by rw [beq_eq_false_iff_ne]; exact ht0
          have HT0 := hide ht0
          clear ht0
          go_wp2
          go_ret
          obtain ⟨d1, d2, hol, hz⟩ := unhide HD
          exact ⟨unhide HB, .slice (some ⟨wc.heap.size, 0, none⟩) (k + 1) (k + 1), os, rfl, arr_of_owns hol.symm (unhide HO), d1, d2, by omega⟩
end Go.Proofs.Ytnlhgehibbgmoaa
