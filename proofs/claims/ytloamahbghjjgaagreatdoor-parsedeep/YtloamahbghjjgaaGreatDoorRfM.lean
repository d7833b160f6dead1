/- Plain facts on lists of decimal digits, the lowest first. -/
namespace Go.Proofs.YtloamahbghjjgaaGreatDoor.Dc

def val : List Int → Int
  | [] => 0
  | d :: l => d + 10 * val l
def Dig (l : List Int) : Prop := ∀ x, x ∈ l → 0 ≤ x ∧ x ≤ 9
/-- Without noughts above. -/
def Cn (l : List Int) : Prop := ∀ x l', l = l' ++ [x] → x ≠ 0

theorem Dig.cons {d : Int} {l : List Int} (h : Dig (d :: l)) : (0 ≤ d ∧ d ≤ 9) ∧ Dig l := ⟨h d (by simp), fun x hx => h x (by simp [hx])⟩
theorem Dig.take {l : List Int} (h : Dig l) (n : Nat) : Dig (l.take n) := fun x hx => h x (List.mem_of_mem_take hx)
theorem Dig.getD {l : List Int} (h : Dig l) (i : Nat) : 0 ≤ l.getD i 0 ∧ l.getD i 0 ≤ 9 := by
  rw [List.getD_eq_getElem?_getD]
  rcases Nat.lt_or_ge i l.length with hi | hi
  · rw [List.getElem?_eq_getElem hi]; exact h _ (List.getElem_mem hi)
  · rw [List.getElem?_eq_none hi]; simp
theorem dig_of_getD {l : List Int} (h : ∀ i, i < l.length → 0 ≤ l.getD i 0 ∧ l.getD i 0 ≤ 9) : Dig l := by
  intro x hx
  obtain ⟨i, hi, rfl⟩ := List.getElem_of_mem hx
  have := h i hi
  rw [List.getD_eq_getElem?_getD, List.getElem?_eq_getElem hi] at this
  exact this

theorem val_append (l m : List Int) : val (l ++ m) = val l + 10 ^ l.length * val m := by
  induction l with
  | nil => simp [val]
  | cons d l ih =>
    rw [List.cons_append, val, val, ih, List.length_cons, Int.pow_succ, Int.mul_add]
    rw [Int.mul_comm (10 ^ l.length) 10, Int.mul_assoc]; omega
theorem val_nonneg (l : List Int) (h : Dig l) : 0 ≤ val l := by
  induction l with
  | nil => simp [val]
  | cons d l ih => rw [val]; have := ih h.cons.2; have := h.cons.1; omega
theorem val_lt (l : List Int) (h : Dig l) : val l < 10 ^ l.length := by
  induction l with
  | nil => simp [val]
  | cons d l ih =>
    rw [val, List.length_cons, Int.pow_succ]
    have := ih h.cons.2; have := h.cons.1; omega
theorem val_zeros (n : Nat) : val (List.replicate n 0) = 0 := by
  induction n with
  | zero => rfl
  | succ n ih => rw [List.replicate_succ, val, ih]; rfl
theorem val_take_succ (l : List Int) (k : Nat) : val (l.take (k + 1)) = val (l.take k) + 10 ^ k * l.getD k 0 := by
  rw [List.getD_eq_getElem?_getD]
  rcases Nat.lt_or_ge k l.length with hk | hk
  · rw [List.take_succ_eq_append_getElem hk, val_append, List.getElem?_eq_getElem hk, List.length_take, Nat.min_eq_left (by omega)]
    simp [val]
  · rw [List.getElem?_eq_none hk, List.take_of_length_le (by omega), List.take_of_length_le (by omega)]
    simp
theorem val_set (l : List Int) (i : Nat) (x : Int) (hi : i < l.length) : val (l.set i x) = val l + 10 ^ i * (x - l.getD i 0) := by
  induction l generalizing i with
  | nil => simp at hi
  | cons d l ih =>
    cases i with
    | zero => simp [val]; omega
    | succ i =>
      rw [List.set_cons_succ, val, val, ih i (by simpa using hi), List.getD_cons_succ, Int.pow_succ, Int.mul_add]
      rw [Int.mul_comm (10 ^ i) 10, Int.mul_assoc]; omega

theorem pow_pos (n : Nat) : (0 : Int) < 10 ^ n := Int.pow_pos (by omega)
theorem pow_le {m n : Nat} (h : m ≤ n) : (10 : Int) ^ m ≤ 10 ^ n := by
  obtain ⟨k, rfl⟩ := Nat.exists_eq_add_of_le h
  rw [Int.pow_add]
  have h1 := pow_pos m
  have h2 := pow_pos k
  have : (10 : Int) ^ m * 1 ≤ 10 ^ m * 10 ^ k := Int.mul_le_mul_of_nonneg_left (by omega) (by omega)
  omega

/-- A number without noughts above is at least the power of its place. -/
theorem val_ge (l : List Int) (h : Dig l) (hc : Cn l) (hl : l ≠ []) : 10 ^ (l.length - 1) ≤ val l := by
  obtain ⟨l', x, rfl⟩ : ∃ l' x, l = l' ++ [x] := ⟨l.dropLast, l.getLast hl, (List.dropLast_concat_getLast hl).symm⟩
  have hx := hc x l' rfl
  have hx9 := h x (by simp)
  have hn := val_nonneg l' (fun y hy => h y (by simp [hy]))
  rw [val_append, List.length_append, List.length_singleton, Nat.add_sub_cancel]
  have hp := pow_pos l'.length
  have : (10 : Int) ^ l'.length * 1 ≤ 10 ^ l'.length * val [x] := Int.mul_le_mul_of_nonneg_left (by simp [val]; omega) (by omega)
  omega
theorem lt_of_len (a b : List Int) (ha : Dig a) (hb : Dig b) (hcb : Cn b) (h : a.length < b.length) : val a < val b := by
  have h1 := val_lt a ha
  have h2 := val_ge b hb hcb (by intro h0; subst h0; simp at h)
  have h3 : (10 : Int) ^ a.length ≤ 10 ^ (b.length - 1) := pow_le (by omega)
  omega
/-- The same above a place: there the lesser digit is the lesser number's. -/
theorem lt_at (a b : List Int) (ha : Dig a) (hb : Dig b) (i : Nat) (hi : i < a.length) (hl : a.length = b.length) (hd : a.drop (i + 1) = b.drop (i + 1)) (hlt : a.getD i 0 < b.getD i 0) : val a < val b := by
  have ea : val a = val (a.take (i + 1)) + 10 ^ (i + 1) * val (a.drop (i + 1)) := by
    have := val_append (a.take (i + 1)) (a.drop (i + 1))
    rw [List.take_append_drop, List.length_take, Nat.min_eq_left (by omega)] at this
    exact this
  have eb : val b = val (b.take (i + 1)) + 10 ^ (i + 1) * val (b.drop (i + 1)) := by
    have := val_append (b.take (i + 1)) (b.drop (i + 1))
    rw [List.take_append_drop, List.length_take, Nat.min_eq_left (by omega)] at this
    exact this
  rw [ea, eb, hd, val_take_succ, val_take_succ]
  have h1 := val_lt (a.take i) (ha.take i)
  have h2 := val_nonneg (b.take i) (hb.take i)
  rw [List.length_take, Nat.min_eq_left (by omega)] at h1
  have hp := pow_pos i
  have : (10 : Int) ^ i * (a.getD i 0 + 1) ≤ 10 ^ i * b.getD i 0 := Int.mul_le_mul_of_nonneg_left (by omega) (by omega)
  rw [Int.mul_add] at this
  omega

/-- Cut above the last that isn't nought. -/
theorem val_cut (l : List Int) (n : Nat) (h : ∀ i, n ≤ i → l.getD i 0 = 0) : val (l.take n) = val l := by
  have h2 : l.drop n = List.replicate (l.drop n).length 0 := by
    rw [List.eq_replicate_iff]
    refine ⟨rfl, fun b hb => ?_⟩
    obtain ⟨i, hi, rfl⟩ := List.getElem_of_mem hb
    have := h (n + i) (by omega)
    rw [List.length_drop] at hi
    rw [List.getD_eq_getElem?_getD, List.getElem?_eq_getElem (by omega)] at this
    rw [List.getElem_drop]
    exact this
  have e := val_append (l.take n) (l.drop n)
  rw [List.take_append_drop, h2, val_zeros] at e
  omega
theorem cn_cut (l : List Int) (n : Nat) (hn : n ≤ l.length) (h : n = 0 ∨ l.getD (n - 1) 0 ≠ 0) : Cn (l.take n) := by
  intro x l' e
  rcases h with h | h
  · subst h; simp at e
  · rcases Nat.eq_zero_or_pos n with h0 | h0
    · subst h0; simp at e
    · have hlen : l'.length = n - 1 := by
        have := congrArg List.length e
        rw [List.length_take, Nat.min_eq_left hn, List.length_append, List.length_singleton] at this
        omega
      have hg : (l.take n).getD (n - 1) 0 = x := by rw [e, ← hlen, List.getD_eq_getElem?_getD]; simp
      rw [List.getD_eq_getElem?_getD, List.getElem?_take, if_pos (by omega), ← List.getD_eq_getElem?_getD] at hg
      rw [← hg]; exact h

theorem getD_set (l : List Int) (i j : Nat) (x : Int) (hi : i < l.length) : (l.set i x).getD j 0 = if i = j then x else l.getD j 0 := by
  rw [List.getD_eq_getElem?_getD, List.getElem?_set]
  by_cases h : i = j
  · subst h; rw [if_pos rfl, if_pos hi, if_pos rfl]; rfl
  · rw [if_neg h, if_neg h, ← List.getD_eq_getElem?_getD]
theorem getD_zeros (n j : Nat) : (List.replicate n (0 : Int)).getD j 0 = 0 := by
  rw [List.getD_eq_getElem?_getD, List.getElem?_replicate]; split <;> rfl
end Go.Proofs.YtloamahbghjjgaaGreatDoor.Dc
