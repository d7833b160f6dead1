/- The contract of the reference's plus. -/
import Derived.Test.YteaodfeaidjcnaaDoorRfB
import Derived.BigRegion
import Derived.Deep.CutRange
import Derived.Deep.CutBlock
import Derived.Test.YteaodfeaidjcnaaDoorFxB
namespace Go.Proofs.YteaodfeaidjcnaaDoor
open Go.RowKit

/-- A slice, opened: its address is told where it has an element. -/
theorem arr_open {w : World} {v : Value} {zs : List Int} (h : Arr w v zs) : ∃ ad cap, v = .slice ad zs.length cap ∧
    (0 < zs.length → ∃ b o, ad = some ⟨b, o, none⟩ ∧ b < w.heap.size ∧ ∀ i, i < zs.length → w.cell? ⟨b, o + i, none⟩ = some (.int .i64 (zs.getD i 0))) := by
  rcases h with ⟨rfl, ad, cap, rfl⟩ | ⟨b, o, cap, rfl, _, hlt, hc⟩
  · exact ⟨ad, cap, rfl, fun h => by simp at h⟩
  · exact ⟨_, cap, rfl, fun _ => ⟨b, o, rfl, hlt, hc⟩⟩

theorem owns_cell {w : World} {B g n : Nat} {os : List Int} (h : w.ownsRow B 3 1 (.slice (some ⟨g, 0, none⟩) n n) n (os.map (Value.int .i64))) (j : Nat) (hj : j < n) : w.cell? ⟨g, j, none⟩ = some (.int .i64 (os.getD j 0)) := by
  have hl : os.length = n := by have := h.1; simpa using this
  rw [h.cellAt j (by omega), List.getElem?_map, List.getElem?_eq_getElem (by omega), List.getD_eq_getElem?_getD, List.getElem?_eq_getElem (by omega)]
  rfl
theorem owns_set {w : World} {B g n : Nat} {os : List Int} (h : w.ownsRow B 3 1 (.slice (some ⟨g, 0, none⟩) n n) n (os.map (Value.int .i64))) (j : Nat) (x : Int) :
    (w.setCell ⟨g, j, none⟩ (.int .i64 x)).ownsRow B 3 1 (.slice (some ⟨g, 0, none⟩) n n) n ((os.set j x).map (Value.int .i64)) := by
  have := h.stored j (.int .i64 x)
  rw [List.map_set]
  exact this.1

/-- What holds at plus's round k. -/
structure PlusInv (xs ys os : List Int) (n k : Nat) : Prop where
  len : os.length = n + 1
  low : ∀ j, j < k → 0 ≤ os.getD j 0 ∧ os.getD j 0 ≤ 9
  mid : 0 ≤ os.getD k 0 ∧ os.getD k 0 ≤ 1
  high : ∀ j, k < j → os.getD j 0 = 0
  sum : Dc.val os = Dc.val (xs.take k) + Dc.val (ys.take k)

theorem plus_step (xs ys os : List Int) (n k : Nat) (hk : k < n) (dx : Dc.Dig xs) (dy : Dc.Dig ys) (h : PlusInv xs ys os n k) :
    (os.getD k 0 + xs.getD k 0 + ys.getD k 0 < 10 → PlusInv xs ys (os.set k (os.getD k 0 + xs.getD k 0 + ys.getD k 0)) n (k + 1)) ∧
    (10 ≤ os.getD k 0 + xs.getD k 0 + ys.getD k 0 → PlusInv xs ys ((os.set k (os.getD k 0 + xs.getD k 0 + ys.getD k 0 - 10)).set (k + 1) 1) n (k + 1)) := by
  obtain ⟨h1, h2, h3, h4, h5⟩ := h
  have a1 := dx.getD k
  have a2 := dy.getD k
  have e0 := h4 (k + 1) (by omega)
  constructor
  · intro hs
    refine ⟨by simpa using h1, fun j hj => ?_, ?_, fun j hj => ?_, ?_⟩
    · rw [Dc.getD_set _ _ _ _ (by omega)]
      split
      · omega
      · exact h2 j (by omega)
    · rw [Dc.getD_set _ _ _ _ (by omega), if_neg (by omega), e0]; omega
    · rw [Dc.getD_set _ _ _ _ (by omega), if_neg (by omega)]; exact h4 j (by omega)
    · rw [Dc.val_set _ _ _ (by omega), Dc.val_take_succ, Dc.val_take_succ, h5]
      have : (10 : Int) ^ k * (os.getD k 0 + xs.getD k 0 + ys.getD k 0 - os.getD k 0) = 10 ^ k * xs.getD k 0 + 10 ^ k * ys.getD k 0 := by
        rw [← Int.mul_add]; congr 1; omega
      rw [this]; omega
  · intro hs
    refine ⟨by simpa using h1, fun j hj => ?_, ?_, fun j hj => ?_, ?_⟩
    · rw [Dc.getD_set _ _ _ _ (by simp; omega), if_neg (by omega), Dc.getD_set _ _ _ _ (by omega)]
      split
      · omega
      · exact h2 j (by omega)
    · rw [Dc.getD_set _ _ _ _ (by simp; omega), if_pos rfl]; omega
    · rw [Dc.getD_set _ _ _ _ (by simp; omega), if_neg (by omega), Dc.getD_set _ _ _ _ (by omega), if_neg (by omega)]; exact h4 j (by omega)
    · rw [Dc.val_set _ _ _ (by simp; omega), Dc.getD_set _ _ _ _ (by omega), if_neg (by omega), e0, Dc.val_set _ _ _ (by omega), Dc.val_take_succ, Dc.val_take_succ, h5, Int.pow_succ]
      have : (10 : Int) ^ k * (os.getD k 0 + xs.getD k 0 + ys.getD k 0 - 10 - os.getD k 0) + 10 ^ k * 10 * (1 - 0) = 10 ^ k * xs.getD k 0 + 10 ^ k * ys.getD k 0 := by
        rw [Int.mul_assoc, ← Int.mul_add, ← Int.mul_add]; congr 1; omega
      omega
theorem plus_start (xs ys : List Int) (n : Nat) : PlusInv xs ys (List.replicate (n + 1) 0) n 0 :=
  ⟨by simp, fun j hj => by omega, by rw [Dc.getD_zeros]; omega, fun j _ => Dc.getD_zeros _ j, by rw [Dc.val_zeros]; simp [Dc.val]⟩
theorem plus_end (xs ys os : List Int) (n : Nat) (h : PlusInv xs ys os n n) (hx : xs.length ≤ n) (hy : ys.length ≤ n) : Dc.Dig os ∧ Dc.val os = Dc.val xs + Dc.val ys := by
  refine ⟨Dc.dig_of_getD fun i hi => ?_, ?_⟩
  · rw [h.len] at hi
    rcases Nat.lt_or_ge i n with h1 | h1
    · exact h.low i h1
    · have : i = n := by omega
      subst this; have := h.mid; omega
  · have := h.sum
    rw [List.take_of_length_le hx, List.take_of_length_le hy] at this
    exact this

/-- What trim leaves of digits. -/
theorem trim_num {v0 : Value} {zs : List Int} {w w' : World} {e : Ending} (hd : Dc.Dig zs) (h : TrimPost v0 zs w e w') : w' = w ∧ ∃ v us, e = .returned v ∧ Arr w v us ∧ Dc.Dig us ∧ Dc.Cn us ∧ Dc.val us = Dc.val zs ∧ us.length ≤ zs.length ∧ ∀ B, Fr B v0 → Fr B v := by
  obtain ⟨rfl, v', n, rfl, hn, ha, hz, hl, hf⟩ := h
  exact ⟨rfl, v', zs.take n, rfl, ha, hd.take n, Dc.cn_cut zs n hn hl, Dc.val_cut zs n hz, by rw [List.length_take]; omega, hf⟩

theorem made_map (n : Nat) : (madeCells (Value.int .i64 0).cells (n * 1)).toList = (List.replicate n (0 : Int)).map (Value.int .i64) := by
  rw [List.map_replicate, Nat.mul_one]
  exact toList_madeCells_one (.int .i64 0) n

/-- The world behind one store into the row. -/
theorem plus_world {B n k : Nat} {w wr w2 : World} {os : List Int} {v : Int} (hO : wr.ownsRow B 3 1 (.slice (some ⟨B, 0, none⟩) (n + 1) (n + 1)) (n + 1) (os.map (Value.int .i64))) (hB : Below B w wr) (hl : k + 1 < os.length)
    (h1 : os.getD (k + 1) 0 = 0) (hw : w2 = (wr.setCell ⟨B, k, none⟩ (.int .i64 v)).drew) :
    w2.cell? ⟨B, k, none⟩ = some (.int .i64 v) ∧ w2.cell? ⟨B, k + 1, none⟩ = some (.int .i64 0) ∧ w2.frozen? ⟨B, k, none⟩ = false ∧ w2.frozen? ⟨B, k + 1, none⟩ = false ∧
      Hid (w2.ownsRow B 3 1 (.slice (some ⟨B, 0, none⟩) (n + 1) (n + 1)) (n + 1) ((os.set k v).map (Value.int .i64))) ∧ Hid (Below B w w2) := by
  have hl' : os.length = n + 1 := by have := hO.1; simpa using this
  have hO2 := (owns_set hO k v).drew
  rw [← hw] at hO2
  have c0 := owns_cell hO2 k (by omega)
  have c1 := owns_cell hO2 (k + 1) (by omega)
  rw [Dc.getD_set _ _ _ _ (by omega), if_pos rfl] at c0
  rw [Dc.getD_set _ _ _ _ (by omega), if_neg (by omega), h1] at c1
  refine ⟨c0, c1, hO2.frozenAt k, hO2.frozenAt (k + 1), hO2, ?_⟩
  rw [hw]
  exact (hB.setCell (p := ⟨B, k, none⟩) (Nat.le_refl _) _).drew

end Go.Proofs.YteaodfeaidjcnaaDoor

namespace Go.Proofs.YteaodfeaidjcnaaDoor
open Go.RowKit

theorem below_next {w a b : World} (h : Below w.heap.size w a) (k : Below a.heap.size a b) : Below w.heap.size w b := h.trans (k.mono h.size)

theorem val_drop (zs : List Int) (k : Nat) (h0 : 0 < k) (hk : k ≤ zs.length) : Dc.val (zs.drop (k - 1)) = zs.getD (k - 1) 0 + 10 * Dc.val (zs.drop k) := by
  rw [drop_pred zs k h0 hk]; rfl
theorem val_drop_le (zs : List Int) (k : Nat) (hk : k ≤ zs.length) (hd : Dc.Dig zs) : 0 ≤ Dc.val (zs.drop k) ∧ Dc.val (zs.drop k) ≤ Dc.val zs := by
  have h0 := Dc.val_nonneg (zs.drop k) (fun x hx => hd x (List.mem_of_mem_drop hx))
  have h1 := Dc.val_nonneg (zs.take k) (hd.take k)
  have e := Dc.val_append (zs.take k) (zs.drop k)
  rw [List.take_append_drop, List.length_take, Nat.min_eq_left hk] at e
  have hp := Dc.pow_pos k
  have : (1 : Int) * Dc.val (zs.drop k) ≤ 10 ^ k * Dc.val (zs.drop k) := Int.mul_le_mul_of_nonneg_right (by omega) h0
  omega

/-- A number and an error, in a world that has grown. -/
def PairPost (r : Int × Int) (w : World) (e : Ending) (w' : World) : Prop := e = .returned (.tuple #[.int .i64 r.1, .int .i64 r.2]) ∧ Below w.heap.size w w'

theorem add_ref_eq (a b : Int) (hg : (goodB a && goodB b) = true) :
    (decide (a < 0) = decide (b < 0) → (sgnN (decide (a < 0)) ((a.natAbs : Int) + (b.natAbs : Int)), sgnE ((a.natAbs : Int) + (b.natAbs : Int))) = (addN a b, addE a b)) ∧
    (decide (a < 0) ≠ decide (b < 0) → addN a b = a + b ∧ addE a b = 0) := by
  rw [Bool.and_eq_true, goodB_iff, goodB_iff] at hg
  constructor
  · intro hs
    unfold sgnN sgnE addN addE
    by_cases ha : a < 0
    · have hb : b < 0 := by rw [decide_eq_true ha] at hs; exact of_decide_eq_true hs.symm
      rw [decide_eq_true ha]
      by_cases ho : okAdd a b = true
      · have h := (okAdd_iff a b).1 ho
        have hle : ¬ (9000000000000000000 : Int) < (a.natAbs : Int) + (b.natAbs : Int) := by omega
        rw [if_pos ho, if_pos ho, if_neg hle, if_neg hle, if_pos rfl]
        exact Prod.ext (by show -((a.natAbs : Int) + (b.natAbs : Int)) = a + b; omega) rfl
      · have h : ¬ _ := fun h => ho ((okAdd_iff a b).2 h)
        have hgt : (9000000000000000000 : Int) < (a.natAbs : Int) + (b.natAbs : Int) := by omega
        rw [if_neg ho, if_neg ho, if_pos hgt, if_pos hgt]
    · have hb : ¬ b < 0 := by rw [decide_eq_false ha] at hs; exact of_decide_eq_false hs.symm
      rw [decide_eq_false ha]
      by_cases ho : okAdd a b = true
      · have h := (okAdd_iff a b).1 ho
        have hle : ¬ (9000000000000000000 : Int) < (a.natAbs : Int) + (b.natAbs : Int) := by omega
        rw [if_pos ho, if_pos ho, if_neg hle, if_neg hle]
        exact Prod.ext (by show (a.natAbs : Int) + (b.natAbs : Int) = a + b; omega) rfl
      · have h : ¬ _ := fun h => ho ((okAdd_iff a b).2 h)
        have hgt : (9000000000000000000 : Int) < (a.natAbs : Int) + (b.natAbs : Int) := by omega
        rw [if_neg ho, if_neg ho, if_pos hgt, if_pos hgt]
  · intro hs
    have ho : okAdd a b = true := by
      rw [okAdd_iff]
      by_cases ha : a < 0 <;> by_cases hb : b < 0
      · exact absurd (by rw [decide_eq_true ha, decide_eq_true hb]) hs
      · omega
      · omega
      · exact absurd (by rw [decide_eq_false ha, decide_eq_false hb]) hs
    unfold addN addE
    rw [ho]; exact ⟨rfl, rfl⟩

/-- What the reference's Sub tells. -/
def subR (a b : Int) : Int × Int := if goodB b = true then (addN a (-b), addE a (-b)) else (0, 5)
end Go.Proofs.YteaodfeaidjcnaaDoor

namespace Go.Proofs.YteaodfeaidjcnaaDoor
open Go.RowKit

structure TimesIn (xs ys os : List Int) (L i k : Nat) : Prop where
  len : os.length = L
  pos : ∀ j, 0 ≤ os.getD j 0
  low : ∀ j, j < i + k → os.getD j 0 ≤ 81 * ((i : Int) + 1)
  high : ∀ j, i + k ≤ j → os.getD j 0 ≤ 81 * (i : Int)
  sum : Dc.val os = Dc.val (xs.take i) * Dc.val ys + 10 ^ i * (xs.getD i 0 * Dc.val (ys.take k))

theorem times_step (xs ys os : List Int) (L i k : Nat) (h1 : i + k < L) (dx : Dc.Dig xs) (dy : Dc.Dig ys) (h : TimesIn xs ys os L i k) :
    TimesIn xs ys (os.set (i + k) (os.getD (i + k) 0 + xs.getD i 0 * ys.getD k 0)) L i (k + 1) := by
  obtain ⟨l, p, lo, hi, s⟩ := h
  have a1 := dx.getD i
  have a2 := dy.getD k
  have a3 : 0 ≤ xs.getD i 0 * ys.getD k 0 := Int.mul_nonneg a1.1 a2.1
  have a4 : xs.getD i 0 * ys.getD k 0 ≤ 81 := by
    have b1 : xs.getD i 0 * ys.getD k 0 ≤ xs.getD i 0 * 9 := Int.mul_le_mul_of_nonneg_left a2.2 a1.1
    omega
  refine ⟨by simpa using l, fun j => ?_, fun j hj => ?_, fun j hj => ?_, ?_⟩
  · rw [Dc.getD_set _ _ _ _ (by omega)]
    split
    · have := p (i + k); omega
    · exact p j
  · rw [Dc.getD_set _ _ _ _ (by omega)]
    split
    · have := hi (i + k) (by omega); omega
    · exact lo j (by omega)
  · rw [Dc.getD_set _ _ _ _ (by omega), if_neg (by omega)]
    exact hi j (by omega)
  · rw [Dc.val_set _ _ _ (by omega), s, Dc.val_take_succ, Int.pow_add]
    have e : os.getD (i + k) 0 + xs.getD i 0 * ys.getD k 0 - os.getD (i + k) 0 = xs.getD i 0 * ys.getD k 0 := by omega
    rw [e, Int.mul_add, Int.mul_add, Int.add_assoc]
    congr 2
    rw [Int.mul_assoc]
    congr 1
    rw [← Int.mul_assoc, ← Int.mul_assoc, Int.mul_comm (10 ^ k) (xs.getD i 0)]
theorem times_next (xs ys os : List Int) (L i k : Nat) (hk : ys.length ≤ k) (h : TimesIn xs ys os L i k) : TimesIn xs ys os L (i + 1) 0 := by
  obtain ⟨l, p, lo, hi, s⟩ := h
  refine ⟨l, p, fun j hj => ?_, fun j hj => ?_, ?_⟩
  · rcases Nat.lt_or_ge j (i + k) with h1 | h1
    · have := lo j h1; omega
    · have := hi j h1; omega
  · rcases Nat.lt_or_ge j (i + k) with h1 | h1
    · have := lo j h1; omega
    · have := hi j h1; omega
  · rw [s, List.take_of_length_le hk, Dc.val_take_succ, Int.add_mul, Int.mul_assoc]
    simp [Dc.val]
theorem times_start (xs ys : List Int) (L : Nat) : TimesIn xs ys (List.replicate L 0) L 0 0 :=
  ⟨by simp, fun j => by rw [Dc.getD_zeros]; omega, fun j hj => by omega, fun j _ => by rw [Dc.getD_zeros]; omega, by rw [Dc.val_zeros]; simp [Dc.val]⟩

/-- Carried up to place i. -/
structure CarryIn (os : List Int) (V M : Int) (L i : Nat) : Prop where
  len : os.length = L
  low : ∀ j, j < i → 0 ≤ os.getD j 0 ∧ os.getD j 0 ≤ 9
  mid : 0 ≤ os.getD i 0 ∧ os.getD i 0 ≤ 90 * M
  high : ∀ j, i < j → 0 ≤ os.getD j 0 ∧ os.getD j 0 ≤ 81 * M
  sum : Dc.val os = V
theorem carry_step (os : List Int) (V M : Int) (L i : Nat) (h1 : i + 1 < L) (h : CarryIn os V M L i) :
    CarryIn ((os.set (i + 1) (os.getD (i + 1) 0 + os.getD i 0 / 10)).set i (os.getD i 0 % 10)) V M L (i + 1) := by
  obtain ⟨l, lo, m, hi, s⟩ := h
  have h2 := hi (i + 1) (by omega)
  refine ⟨by simpa using l, fun j hj => ?_, ?_, fun j hj => ?_, ?_⟩
  · rw [Dc.getD_set _ _ _ _ (by simp; omega)]
    split
    · omega
    · rw [Dc.getD_set _ _ _ _ (by omega), if_neg (by omega)]; exact lo j (by omega)
  · rw [Dc.getD_set _ _ _ _ (by simp; omega), if_neg (by omega), Dc.getD_set _ _ _ _ (by omega), if_pos rfl]
    omega
  · rw [Dc.getD_set _ _ _ _ (by simp; omega), if_neg (by omega), Dc.getD_set _ _ _ _ (by omega), if_neg (by omega)]
    exact hi j (by omega)
  · rw [Dc.val_set _ _ _ (by simp; omega), Dc.getD_set _ _ _ _ (by omega), if_neg (by omega), Dc.val_set _ _ _ (by omega), s, Int.pow_succ]
    have : (10 : Int) ^ i * 10 * (os.getD (i + 1) 0 + os.getD i 0 / 10 - os.getD (i + 1) 0) + 10 ^ i * (os.getD i 0 % 10 - os.getD i 0) = 0 := by
      rw [Int.mul_assoc, ← Int.mul_add]
      have : 10 * (os.getD (i + 1) 0 + os.getD i 0 / 10 - os.getD (i + 1) 0) + (os.getD i 0 % 10 - os.getD i 0) = 0 := by omega
      rw [this, Int.mul_zero]
    omega
theorem carry_start (xs ys os : List Int) (L la : Nat) (hx : xs.length ≤ la) (h : TimesIn xs ys os L la 0) : CarryIn os (Dc.val xs * Dc.val ys) ((la : Int) + 1) L 0 := by
  obtain ⟨l, p, lo, hi, s⟩ := h
  have hb : ∀ j, 0 ≤ os.getD j 0 ∧ os.getD j 0 ≤ 81 * ((la : Int) + 1) := by
    intro j
    refine ⟨p j, ?_⟩
    rcases Nat.lt_or_ge j (la + 0) with h1 | h1
    · exact lo j h1
    · have := hi j h1; omega
  refine ⟨l, fun j hj => by omega, ⟨(hb 0).1, by have := (hb 0).2; omega⟩, fun j _ => hb j, ?_⟩
  rw [s, List.take_of_length_le hx]
  simp [Dc.val]
theorem carry_end (os : List Int) (V M : Int) (L i : Nat) (hi : i + 1 = L) (hV : V < 10 ^ i) (h : CarryIn os V M L i) : Dc.Dig os ∧ Dc.val os = V := by
  obtain ⟨l, lo, m, hi', s⟩ := h
  refine ⟨Dc.dig_of_getD fun j hj => ?_, s⟩
  rcases Nat.lt_or_ge j i with h1 | h1
  · exact lo j h1
  · have hj : j = i := by omega
    subst hj
    have e := Dc.val_take_succ os j
    rw [List.take_of_length_le (by omega), s] at e
    have hd : Dc.Dig (os.take j) := Dc.dig_of_getD fun k hk => by
      rw [List.length_take] at hk
      have := lo k (by omega)
      rw [List.getD_eq_getElem?_getD, List.getElem?_take, if_pos (by omega), ← List.getD_eq_getElem?_getD]
      exact this
    have hn := Dc.val_nonneg _ hd
    refine ⟨m.1, ?_⟩
    rcases Int.lt_or_le 9 (os.getD j 0) with h9 | h9
    · exfalso
      have hp := Dc.pow_pos j
      have : (10 : Int) ^ j * 1 ≤ 10 ^ j * os.getD j 0 := Int.mul_le_mul_of_nonneg_left (by omega) (by omega)
      omega
    · exact h9
theorem mul_lt (xs ys : List Int) (dx : Dc.Dig xs) (dy : Dc.Dig ys) : 0 ≤ Dc.val xs * Dc.val ys ∧ Dc.val xs * Dc.val ys < 10 ^ (xs.length + ys.length) := by
  have a0 := Dc.val_nonneg xs dx
  have b0 := Dc.val_nonneg ys dy
  have a1 := Dc.val_lt xs dx
  have b1 := Dc.val_lt ys dy
  refine ⟨Int.mul_nonneg a0 b0, ?_⟩
  rw [Int.pow_add]
  have hp := Dc.pow_pos ys.length
  have h1 : Dc.val xs * Dc.val ys ≤ Dc.val xs * 10 ^ ys.length := Int.mul_le_mul_of_nonneg_left (by omega) a0
  have h2 : Dc.val xs * 10 ^ ys.length < 10 ^ xs.length * 10 ^ ys.length := Int.mul_lt_mul_of_pos_right a1 hp
  omega

/-- The world behind one store into the row. -/
theorem row_world {B L : Nat} {w wr w2 : World} {os : List Int} {j : Nat} {v : Int} (hO : wr.ownsRow B 3 1 (.slice (some ⟨B, 0, none⟩) L L) L (os.map (Value.int .i64))) (hB : Below B w wr)
    (hw : w2 = (wr.setCell ⟨B, j, none⟩ (.int .i64 v)).drew) : Hid (w2.ownsRow B 3 1 (.slice (some ⟨B, 0, none⟩) L L) L ((os.set j v).map (Value.int .i64))) ∧ Hid (Below B w w2) := by
  have hO2 := (owns_set hO j v).drew
  rw [← hw] at hO2
  refine ⟨hO2, ?_⟩
  rw [hw]
  exact (hB.setCell (p := ⟨B, j, none⟩) (Nat.le_refl _) _).drew

end Go.Proofs.YteaodfeaidjcnaaDoor

namespace Go.Proofs.YteaodfeaidjcnaaDoor
open Go.RowKit

structure MinusIn (xs ys os : List Int) (n k : Nat) (t : Int) : Prop where
  len : os.length = n
  low : ∀ j, j < k → 0 ≤ os.getD j 0 ∧ os.getD j 0 ≤ 9
  high : ∀ j, k ≤ j → os.getD j 0 = 0
  bit : t = 0 ∨ t = 1
  sum : Dc.val os = Dc.val (xs.take k) - Dc.val (ys.take k) + 10 ^ k * t
theorem minus_step (xs ys os : List Int) (n k : Nat) (t : Int) (hk : k < n) (dx : Dc.Dig xs) (dy : Dc.Dig ys) (h : MinusIn xs ys os n k t) :
    (0 ≤ xs.getD k 0 - t - ys.getD k 0 → MinusIn xs ys (os.set k (xs.getD k 0 - t - ys.getD k 0)) n (k + 1) 0) ∧
    (xs.getD k 0 - t - ys.getD k 0 < 0 → MinusIn xs ys (os.set k (xs.getD k 0 - t - ys.getD k 0 + 10)) n (k + 1) 1) := by
  obtain ⟨l, lo, hi, b, s⟩ := h
  have a1 := dx.getD k
  have a2 := dy.getD k
  have z := hi k (Nat.le_refl _)
  constructor
  · intro hs
    refine ⟨by simpa using l, fun j hj => ?_, fun j hj => ?_, Or.inl rfl, ?_⟩
    · rw [Dc.getD_set _ _ _ _ (by omega)]
      split
      · omega
      · exact lo j (by omega)
    · rw [Dc.getD_set _ _ _ _ (by omega), if_neg (by omega)]; exact hi j (by omega)
    · rw [Dc.val_set _ _ _ (by omega), z, s, Dc.val_take_succ, Dc.val_take_succ]
      have : (10 : Int) ^ k * (xs.getD k 0 - t - ys.getD k 0 - 0) = 10 ^ k * xs.getD k 0 - 10 ^ k * t - 10 ^ k * ys.getD k 0 := by
        rw [← Int.mul_sub, ← Int.mul_sub]; congr 1; omega
      rw [this]; omega
  · intro hs
    refine ⟨by simpa using l, fun j hj => ?_, fun j hj => ?_, Or.inr rfl, ?_⟩
    · rw [Dc.getD_set _ _ _ _ (by omega)]
      split
      · omega
      · exact lo j (by omega)
    · rw [Dc.getD_set _ _ _ _ (by omega), if_neg (by omega)]; exact hi j (by omega)
    · rw [Dc.val_set _ _ _ (by omega), z, s, Dc.val_take_succ, Dc.val_take_succ, Int.pow_succ]
      have : (10 : Int) ^ k * (xs.getD k 0 - t - ys.getD k 0 + 10 - 0) = 10 ^ k * xs.getD k 0 - 10 ^ k * t - 10 ^ k * ys.getD k 0 + 10 ^ k * 10 := by
        rw [← Int.mul_sub, ← Int.mul_sub, ← Int.mul_add]; congr 1; omega
      rw [this]; omega
theorem minus_start (xs ys : List Int) (n : Nat) : MinusIn xs ys (List.replicate n 0) n 0 0 :=
  ⟨by simp, fun j hj => by omega, fun j _ => Dc.getD_zeros _ j, Or.inl rfl, by rw [Dc.val_zeros]; simp [Dc.val]⟩
theorem minus_end (xs ys os : List Int) (n : Nat) (t : Int) (hx : xs.length = n) (hy : ys.length ≤ n) (hle : Dc.val ys ≤ Dc.val xs) (h : MinusIn xs ys os n n t) : Dc.Dig os ∧ Dc.val os = Dc.val xs - Dc.val ys := by
  obtain ⟨l, lo, hi, b, s⟩ := h
  have hd : Dc.Dig os := Dc.dig_of_getD fun i hi => lo i (by omega)
  have hv := Dc.val_lt os hd
  rw [List.take_of_length_le (by omega), List.take_of_length_le hy] at s
  rw [l] at hv
  refine ⟨hd, ?_⟩
  rcases b with b | b
  · rw [s, b]; omega
  · rw [b] at s; omega
theorem len_le (xs ys : List Int) (dx : Dc.Dig xs) (dy : Dc.Dig ys) (cy : Dc.Cn ys) (h : Dc.val ys ≤ Dc.val xs) : ys.length ≤ xs.length := by
  rcases Nat.lt_or_ge xs.length ys.length with h1 | h1
  · have := Dc.lt_of_len xs ys dx dy cy h1; omega
  · exact h1

end Go.Proofs.YteaodfeaidjcnaaDoor

namespace Go.Proofs.YteaodfeaidjcnaaDoor
open Go.RowKit

theorem owns_below {w w' : World} {B n : Nat} {v : Value} {xs : List Value} (h : w.ownsRow B 3 1 v n xs) (hb : Below w.heap.size w w') : w'.ownsRow B 3 1 v n xs := by
  obtain ⟨h1, h2⟩ := h
  refine ⟨h1, ?_⟩
  rcases h2 with h2 | ⟨g, cap, cur, e, hg, hh, r1, r2, r3, r4⟩
  · exact Or.inl h2
  · have hlt : g < w.heap.size := by
      rcases Nat.lt_or_ge g w.heap.size with h' | h'
      · exact h'
      · rw [Array.getElem?_eq_none h'] at hh; cases hh
    exact Or.inr ⟨g, cap, cur, e, hg, by rw [hb.block g hlt]; exact hh, r1, r2, r3, r4⟩

theorem owns_lt {w : World} {B g n cap : Nat} {xs : List Value} (h : w.ownsRow B 3 1 (.slice (some ⟨g, 0, none⟩) n cap) n xs) : g < w.heap.size := by
  rcases h.2 with ⟨e, _⟩ | ⟨g', cap', cur, e, hg, hh, _⟩
  · cases e
  · injection e with e1
    injection e1 with e1
    injection e1 with e1
    subst e1
    rcases Nat.lt_or_ge g w.heap.size with h' | h'
    · exact h'
    · rw [Array.getElem?_eq_none h'] at hh; cases hh
theorem arr_set {w : World} {v : Value} {zs : List Int} {B j : Nat} {u : Value} (h : Arr w v zs) (hf : Fr (B + 1) v) : Arr (w.setCell ⟨B, j, none⟩ u) v zs := by
  rcases h with h | ⟨b, o, cap, rfl, hc, hlt, hcell⟩
  · exact Or.inl h
  · have hb := hf b o _ cap rfl
    refine Or.inr ⟨b, o, cap, rfl, hc, by simpa using hlt, fun i hi => ?_⟩
    rw [World.cell?_setCell_other _ _ _ _ (by intro h; injection h with h1; omega)]
    exact hcell i hi
theorem fr_mono {A B : Nat} {v : Value} (h : Fr A v) (hab : B ≤ A) : Fr B v := fun b o n cap e => Nat.le_trans hab (h b o n cap e)

structure OverIn (xs ys os rs : List Int) (la k : Nat) : Prop where
  len : os.length = la
  zero : ∀ j, j < k → os.getD j 0 = 0
  dig : ∀ j, 0 ≤ os.getD j 0 ∧ os.getD j 0 ≤ 9
  sum : Dc.val (xs.drop k) = Dc.val (os.drop k) * Dc.val ys + Dc.val rs
  rlt : Dc.val rs < Dc.val ys
  rd : Dc.Dig rs
  rc : Dc.Cn rs
theorem over_start (xs ys : List Int) (la : Nat) (hx : xs.length ≤ la) (hy : 0 < Dc.val ys) : OverIn xs ys (List.replicate la 0) [] la la :=
  ⟨by simp, fun j _ => Dc.getD_zeros _ j, fun j => by rw [Dc.getD_zeros]; omega, by rw [List.drop_of_length_le hx, List.drop_of_length_le (by simp)]; simp [Dc.val], by simpa [Dc.val] using hy, fun x hx => by simp at hx, fun x l' e => by simp at e⟩
theorem over_step (xs ys os rs rs' : List Int) (la k : Nat) (c : Int) (h0 : 0 < k) (hk : k ≤ la) (hx : xs.length = la) (h : OverIn xs ys os rs la k)
    (hc : 0 ≤ c ∧ c ≤ 9) (hs : Dc.val rs' + c * Dc.val ys = xs.getD (k - 1) 0 + 10 * Dc.val rs) (hlt : Dc.val rs' < Dc.val ys) (rd : Dc.Dig rs') (rc : Dc.Cn rs') : OverIn xs ys (os.set (k - 1) c) rs' la (k - 1) := by
  obtain ⟨l, z, d, s, _, _, _⟩ := h
  refine ⟨by simpa using l, fun j hj => ?_, fun j => ?_, ?_, hlt, rd, rc⟩
  · rw [Dc.getD_set _ _ _ _ (by omega), if_neg (by omega)]; exact z j (by omega)
  · rw [Dc.getD_set _ _ _ _ (by omega)]
    split
    · exact hc
    · exact d j
  · rw [val_drop xs k h0 (by omega), s]
    have e : (os.set (k - 1) c).drop (k - 1) = c :: os.drop k := by
      rw [drop_pred (os.set (k - 1) c) k h0 (by simp; omega), Dc.getD_set _ _ _ _ (by omega), if_pos rfl, List.drop_set_of_lt (by omega)]
    rw [e]
    show _ = (c + 10 * Dc.val (os.drop k)) * Dc.val ys + Dc.val rs'
    rw [Int.add_mul, Int.mul_assoc]
    omega
theorem set_self (os : List Int) (i : Nat) (hi : i < os.length) (h : os.getD i 0 = 0) : os.set i 0 = os := by
  apply List.ext_getElem?
  intro j
  rw [List.getElem?_set]
  by_cases hj : i = j
  · subst hj
    rw [if_pos rfl, if_pos hi]
    rw [List.getD_eq_getElem?_getD, List.getElem?_eq_getElem hi] at h
    rw [List.getElem?_eq_getElem hi]
    exact congrArg some h.symm
  · rw [if_neg hj]
/-- The number of subtractions stays below ten. -/
theorem over_nine (y x r s c : Int) (hy : 0 < y) (hx : x ≤ 9) (hr : r < y) (hs0 : y ≤ s) (hs : s + c * y = x + 10 * r) : c + 1 ≤ 9 := by
  rcases Int.lt_or_le 8 c with h | h
  · exfalso
    have : 9 * y ≤ c * y := Int.mul_le_mul_of_nonneg_right (by omega) (by omega)
    omega
  · omega

/-- What stands at a cell, as a number. -/
def cellInt (w : World) (a : Addr) : Int := match w.cell? a with
  | some (.int _ n) => n
  | _ => 0

/-- A quotient, and what is left. -/
def OverPost (xs ys : List Int) (w : World) (e : Ending) (w' : World) : Prop :=
  Below w.heap.size w w' ∧ ∃ vq vr qs rs, e = .returned (.tuple #[vq, vr]) ∧ Arr w' vq qs ∧ Arr w' vr rs ∧ Dc.Dig qs ∧ Dc.Cn qs ∧ Dc.Dig rs ∧ Dc.Cn rs ∧ Dc.val xs = Dc.val qs * Dc.val ys + Dc.val rs ∧ Dc.val rs < Dc.val ys ∧ qs.length ≤ xs.length ∧ rs.length ≤ ys.length ∧ Fr w.heap.size vq

end Go.Proofs.YteaodfeaidjcnaaDoor
