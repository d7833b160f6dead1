/- Plain facts for the reference's Parse. -/
import Derived.Test.YtobkmjjdnfimoaaDoorRfL
namespace Go.Proofs.YtobkmjjdnfimoaaDoor

def dgt (c : UInt8) : Int := (c.toNat : Int) - 48
def revD (x : List UInt8) (k : Nat) : List Int := ((x.drop k).reverse).map dgt

theorem revD_len (x : List UInt8) (k : Nat) : (revD x k).length = x.length - k := by unfold revD; simp
theorem revD_full (x : List UInt8) : revD x x.length = [] := by unfold revD; simp
theorem revD_step (x : List UInt8) (k : Nat) (h0 : 0 < k) (hk : k ≤ x.length) : revD x (k - 1) = revD x k ++ [dgt (x[k - 1]'(by omega))] := by
  unfold revD
  rw [List.drop_eq_getElem_cons (show k - 1 < x.length by omega), show k - 1 + 1 = k by omega]
  simp
theorem isDig_at (x : List UInt8) (h : x.all isDig = true) (k : Nat) (hk : k < x.length) : 48 ≤ x[k].toNat ∧ x[k].toNat ≤ 57 :=
  (isDig_iff _).1 (List.all_eq_true.1 h _ (List.getElem_mem hk))
theorem revD_dig (x : List UInt8) (h : x.all isDig = true) (k : Nat) : Dc.Dig (revD x k) := by
  intro y hy
  unfold revD at hy
  obtain ⟨c, hc, rfl⟩ := List.mem_map.1 hy
  have := (isDig_iff c).1 (List.all_eq_true.1 h c (List.mem_of_mem_drop (List.mem_reverse.1 hc)))
  unfold dgt
  omega
theorem dig_append {a b : List Int} (ha : Dc.Dig a) (hb : Dc.Dig b) : Dc.Dig (a ++ b) := by
  intro x hx
  rcases List.mem_append.1 hx with h | h
  · exact ha x h
  · exact hb x h
theorem rev_val : ∀ (x : List UInt8), x.all isDig = true → Dc.val (x.reverse.map dgt) = (numL x : Int)
  | [], _ => rfl
  | c :: x, h => by
    rw [List.all_cons, Bool.and_eq_true, isDig_iff] at h
    rw [List.reverse_cons, List.map_append, Dc.val_append, rev_val x h.2, numL_cons]
    have e : Dc.val (List.map dgt [c]) = ((c.toNat - 48 : Nat) : Int) := by
      show dgt c + 10 * 0 = _
      unfold dgt
      have := h.1
      omega
    rw [e, List.length_map, List.length_reverse, Int.natCast_add, Int.natCast_mul, Int.natCast_pow, Int.mul_comm]
    have : ((10 : Nat) : Int) = 10 := rfl
    rw [this]
    omega
theorem revD_val (x : List UInt8) (h : x.all isDig = true) : Dc.val (revD x 0) = (numL x : Int) := by
  unfold revD
  rw [List.drop_zero]
  exact rev_val x h
theorem both_val (W P : List UInt8) (hW : W.all isDig = true) (hP : P.all isDig = true) : Dc.val (revD P 0 ++ revD W 0) = ((numL W * 10 ^ P.length + numL P : Nat) : Int) := by
  rw [Dc.val_append, revD_val P hP, revD_val W hW, revD_len, Nat.sub_zero, Int.natCast_add, Int.natCast_mul, Int.natCast_pow, Int.mul_comm]
  have : ((10 : Nat) : Int) = 10 := rfl
  rw [this]
  omega

structure CutAt (t W P : List UInt8) (dot : Bool) : Prop where
  noW : ∀ c, c ∈ W → c ≠ 46
  yes : dot = true → t = W ++ 46 :: P
  no : dot = false → t = W ∧ P = []
theorem t_split (t : List UInt8) : (∃ l r, t = l ++ 46 :: r ∧ ∀ c, c ∈ l → c ≠ 46) ∨ (∀ c, c ∈ t → c ≠ 46) := by
  induction t with
  | nil => exact Or.inr (fun c hc => by simp at hc)
  | cons b t ih =>
    by_cases hb : b = 46
    · exact Or.inl ⟨[], t, by rw [hb]; rfl, fun c hc => by simp at hc⟩
    · rcases ih with ⟨l, r, e, h⟩ | h
      · refine Or.inl ⟨b :: l, r, by rw [e]; rfl, fun c hc => ?_⟩
        rcases List.mem_cons.1 hc with h1 | h1
        · rw [h1]; exact hb
        · exact h c h1
      · refine Or.inr (fun c hc => ?_)
        rcases List.mem_cons.1 hc with h1 | h1
        · rw [h1]; exact hb
        · exact h c h1
theorem cut_facts (l : List UInt8) : CutAt (Lib.trimPrefix l [45]) (wholeOf l) (partOf l) (dotOf l) := by
  unfold wholeOf partOf dotOf
  rcases t_split (Lib.trimPrefix l [45]) with ⟨a, r, e, h⟩ | h
  · rw [e, cut_at a r h]
    exact ⟨h, fun _ => rfl, fun h => (by cases h)⟩
  · rw [cut_none _ h]
    exact ⟨h, fun h => (by cases h), fun _ => ⟨rfl, rfl⟩⟩
theorem neg_cons (c : UInt8) (l : List UInt8) : negOf (c :: l) = (c == 45) := by
  unfold negOf Lib.hasPrefix
  simp [List.isPrefixOf]
  by_cases h : c = 45
  · rw [h]
  · rw [beq_eq_false_iff_ne.2 h, beq_eq_false_iff_ne.2 (fun h2 => h h2.symm)]
theorem neg_yes (l : List UInt8) (h : negOf l = true) : Lib.trimPrefix l [45] = l.drop 1 := by
  unfold negOf at h
  unfold Lib.trimPrefix
  rw [h]; rfl
theorem neg_no (l : List UInt8) (h : negOf l = false) : Lib.trimPrefix l [45] = l := by
  unfold negOf at h
  unfold Lib.trimPrefix
  rw [h]; rfl

theorem parse_eq (l : List UInt8) (hf : formB l = true) (v : Int)
    (hv : v = nrI (((numL (wholeOf l) * 10 ^ (partOf l).length + numL (partOf l) : Nat) : Int) * 10000) ((10 ^ (partOf l).length : Nat) : Int)) : (sgnN (negOf l) v, sgnE v) = parseR l := by
  obtain ⟨p1, p2, p3, p4⟩ := part_facts l hf
  have hlt := numL_lt _ p2
  unfold parseR partsOf
  rw [hf, if_pos rfl]
  obtain ⟨W, hW⟩ : ∃ W, numL (wholeOf l) = W := ⟨_, rfl⟩
  obtain ⟨P, hP⟩ : ∃ P, numL (partOf l) = P := ⟨_, rfl⟩
  obtain ⟨z, hz⟩ : ∃ z, 10 ^ (partOf l).length = z := ⟨_, rfl⟩
  rw [hW, hP, hz] at hv ⊢
  rw [hP, hz] at hlt
  have hz0 : 0 < z := by omega
  have hk : nrOk P 10000 z = true := by
    unfold nrOk
    refine decide_eq_true ?_
    have : P * 10000 / z < 10001 := by
      rw [Nat.div_lt_iff_lt_mul hz0]
      have : P * 10000 ≤ z * 10000 := Nat.mul_le_mul_right _ (by omega)
      omega
    omega
  have e0 : (W * z + P) * 10000 = P * 10000 + z * (W * 10000) := by
    rw [Nat.add_mul, Nat.mul_comm W z, Nat.mul_assoc]; omega
  have e1 : v = ((W * 10000 + nrV P 10000 z : Nat) : Int) := by
    rw [hv]
    unfold nrI nrV
    rw [hk, if_pos rfl]
    have ec : ((W * z + P : Nat) : Int) * 10000 = (((W * z + P) * 10000 : Nat) : Int) := by simp
    rw [ec, ← Int.natCast_ediv, ← Int.natCast_emod, e0, Nat.add_mul_div_left _ _ hz0, Nat.add_mul_mod_self_left]
    by_cases h : z ≤ 2 * (P * 10000 % z)
    · rw [if_pos h, if_pos (by omega)]; omega
    · rw [if_neg h, if_neg (by omega)]; omega
  have hle := frac_le P z hlt
  cases hw : nrOk W 10000 1
  · have : 9000000000000000000 < W * 10000 := by
      unfold nrOk at hw
      rw [Nat.div_one] at hw
      have := of_decide_eq_false hw
      omega
    unfold sgnN sgnE
    rw [if_pos (by omega), if_pos (by omega), if_neg (by simp)]
  · rw [if_pos rfl]
    have : nrV W 10000 1 = W * 10000 := by
      unfold nrV
      rw [hw, if_pos rfl, Nat.div_one, Nat.mod_one, if_neg (by omega), Nat.add_zero]
    rw [this, e1]
end Go.Proofs.YtobkmjjdnfimoaaDoor
