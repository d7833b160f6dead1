/- Plain facts: a number's text is parsed to that number. -/
import Derived.Test.YtobkmjjdnfimoaaDoorFxJ
namespace Go.Proofs.YtobkmjjdnfimoaaDoor

theorem cut_none : ∀ (l : List UInt8), (∀ c, c ∈ l → c ≠ 46) → Lib.cut l [46] = (l, [], false) := by
  intro l h
  have hi : Lib.index l [46] = -1 := by
    induction l with
    | nil => rfl
    | cons b l ih =>
      have hb : b ≠ 46 := h b (by simp)
      have := ih (fun c hc => h c (by simp [hc]))
      unfold Lib.index
      rw [this]
      have e : ([46] : List UInt8).isPrefixOf (b :: l) = false := by simp [List.isPrefixOf, Ne.symm hb]
      rw [e]; rfl
  unfold Lib.cut
  rw [hi]; rfl

theorem cut_at (l r : List UInt8) (h : ∀ c, c ∈ l → c ≠ 46) : Lib.cut (l ++ 46 :: r) [46] = (l, r, true) := by
  have hi : Lib.index (l ++ 46 :: r) [46] = (l.length : Int) := by
    induction l with
    | nil => unfold Lib.index; simp [List.isPrefixOf]
    | cons b l ih =>
      have hb : b ≠ 46 := h b (by simp)
      have := ih (fun c hc => h c (by simp [hc]))
      rw [List.cons_append]
      unfold Lib.index
      rw [this]
      have e : ([46] : List UInt8).isPrefixOf (b :: (l ++ 46 :: r)) = false := by simp [List.isPrefixOf, Ne.symm hb]
      have e2 : ((l.length : Int) == -1) = false := by rw [beq_eq_false_iff_ne]; omega
      rw [e, e2]
      simp
  unfold Lib.cut
  rw [hi, if_pos (by omega)]
  simp

theorem dig_of (n : Nat) (h : n < 10) : isDig (UInt8.ofNat (48 + n)) = true ∧ (UInt8.ofNat (48 + n)).toNat - 48 = n := by
  have e : (UInt8.ofNat (48 + n)).toNat = 48 + n := by rw [UInt8.toNat_ofNat']; omega
  refine ⟨?_, by omega⟩
  rw [isDig_iff]; omega

theorem dec_spec (u : Nat) : (Lib.decDigits u).all isDig = true ∧ numL (Lib.decDigits u) = u := by
  induction u using Nat.strongRecOn with
  | ind u ih =>
    rw [Lib.decDigits]
    by_cases h : u < 10
    · rw [dif_pos h]
      obtain ⟨d1, d2⟩ := dig_of u h
      refine ⟨by rw [List.all_cons, d1]; rfl, ?_⟩
      have e := numL_snoc [] (UInt8.ofNat (48 + u))
      rw [List.nil_append] at e
      rw [e, d2]
      show 0 * 10 + u = u
      omega
    · rw [dif_neg h]
      obtain ⟨i1, i2⟩ := ih (u / 10) (by omega)
      obtain ⟨d1, d2⟩ := dig_of (u % 10) (by omega)
      refine ⟨by rw [List.all_append, i1, List.all_cons, d1]; rfl, ?_⟩
      rw [numL_snoc, i2, d2]; omega

theorem numL_cons (c : UInt8) (l : List UInt8) : numL (c :: l) = (c.toNat - 48) * 10 ^ l.length + numL l := by
  have gen : ∀ (l : List UInt8) (n : Nat), l.foldl (fun n c => n * 10 + (c.toNat - 48)) n = n * 10 ^ l.length + numL l := by
    intro l
    induction l with
    | nil => intro n; simp [numL]
    | cons d l ih =>
      intro n
      rw [List.foldl_cons, ih, List.length_cons, Nat.pow_succ]
      have e : numL (d :: l) = (d.toNat - 48) * 10 ^ l.length + numL l := by
        show (d :: l).foldl _ 0 = _
        rw [List.foldl_cons, ih]; simp
      rw [e, Nat.add_mul, Nat.mul_assoc, Nat.mul_comm 10 (10 ^ l.length)]
      omega
  show (c :: l).foldl _ 0 = _
  rw [List.foldl_cons, gen]; simp

theorem numL_zeros (l : List UInt8) (z : Nat) : numL (l ++ List.replicate z 48) = numL l * 10 ^ z := by
  induction z with
  | zero => simp
  | succ z ih =>
    rw [List.replicate_succ', ← List.append_assoc, numL_snoc, ih, Nat.pow_succ, Nat.mul_assoc]
    rfl

theorem tw_zeros (l : List UInt8) : ∃ n, l.takeWhile (· == 48) = List.replicate n 48 := by
  induction l with
  | nil => exact ⟨0, rfl⟩
  | cons c l ih =>
    obtain ⟨n, hn⟩ := ih
    by_cases h : (c == 48) = true
    · refine ⟨n + 1, ?_⟩
      rw [List.takeWhile_cons, if_pos h, hn, List.replicate_succ, beq_iff_eq.1 h]
    · exact ⟨0, by rw [List.takeWhile_cons, if_neg h]; rfl⟩
theorem trim_zeros (l : List UInt8) : ∃ z, l = Lib.trimRightB l 48 ++ List.replicate z 48 := by
  unfold Lib.trimRightB
  obtain ⟨n, hn⟩ := tw_zeros l.reverse
  have h := List.takeWhile_append_dropWhile (p := (· == (48 : UInt8))) (l := l.reverse)
  have h3 := congrArg List.reverse h
  rw [List.reverse_append, List.reverse_reverse, hn, List.reverse_replicate] at h3
  exact ⟨n, h3.symm⟩

/-- The digits behind the stop, of r parts. -/
theorem frac_spec (r : Nat) (h0 : 0 < r) (h1 : r < 10000) :
    digB (Lib.trimRightB ((Lib.decDigits (10000 + r)).drop 1) 48) = true ∧
      nrV (numL (Lib.trimRightB ((Lib.decDigits (10000 + r)).drop 1) 48)) 10000 (10 ^ (Lib.trimRightB ((Lib.decDigits (10000 + r)).drop 1) 48).length) = r := by
  obtain ⟨a1, a2⟩ := dec_spec (10000 + r)
  have hl : (Lib.decDigits (10000 + r)).length = 5 := by
    rw [Lib.decDigits_length]
    exact Lib.nDigits_unique 4 (10000 + r) (by omega) (by omega)
  generalize Lib.decDigits (10000 + r) = E at *
  match E, hl with
  | c :: F, hl =>
    have hF : F.length = 4 := by simpa using hl
    rw [List.all_cons, Bool.and_eq_true, isDig_iff] at a1
    rw [numL_cons, hF] at a2
    have hFb := numL_lt F a1.2
    rw [hF] at hFb
    have hc : numL F = r := by omega
    rw [List.drop_one, List.tail_cons]
    obtain ⟨z, hz⟩ := trim_zeros F
    generalize Lib.trimRightB F 48 = T at *
    have hlen : T.length + z = 4 := by have := congrArg List.length hz; simp at this; omega
    have hnum : numL T * 10 ^ z = r := by rw [← numL_zeros, ← hz]; exact hc
    have hall : T.all isDig = true := by
      have := a1.2
      rw [hz, List.all_append, Bool.and_eq_true] at this
      exact this.1
    have hne : 1 ≤ T.length := by
      rcases Nat.eq_zero_or_pos T.length with h | h
      · have : T = [] := List.eq_nil_of_length_eq_zero h
        subst this
        have e : numL [] = 0 := rfl
        rw [e] at hnum; omega
      · exact h
    refine ⟨?_, ?_⟩
    · unfold digB
      rw [decide_eq_true hne, decide_eq_true (by omega), hall]; rfl
    · have e : numL T * 10000 = r * 10 ^ T.length := by
        have e4 : (10000 : Nat) = 10 ^ z * 10 ^ T.length := by rw [← Nat.pow_add, Nat.add_comm z, hlen]
        rw [e4, ← Nat.mul_assoc, hnum]
      have hp : 0 < 10 ^ T.length := Nat.pow_pos (by omega)
      unfold nrV nrOk
      rw [e, Nat.mul_div_cancel _ hp, Nat.mul_mod_left, decide_eq_true (by omega), if_pos rfl, if_neg (by omega)]
      omega
theorem dec_noStop (u : Nat) : ∀ c, c ∈ Lib.decDigits u → c ≠ 46 ∧ c ≠ 45 := by
  intro c hc
  have h := (dec_spec u).1
  rw [List.all_eq_true] at h
  have := h c hc
  rw [isDig_iff] at this
  constructor
  · intro e; subst e; revert this; decide
  · intro e; subst e; revert this; decide

theorem dec_len' (u : Nat) : 1 ≤ (Lib.decDigits u).length := by rw [Lib.decDigits_length]; exact Lib.nDigits_pos u
theorem dec_lo (u : Nat) (h : 0 < u) : 10 ^ (Lib.nDigits u - 1) ≤ u := by
  induction u using Nat.strongRecOn with
  | ind u ih =>
    by_cases h10 : u < 10
    · rw [Lib.nDigits_small h10]; simp; omega
    · rw [Lib.nDigits_big h10]
      have := ih (u / 10) (by omega) (by omega)
      have hp := Lib.nDigits_pos (u / 10)
      rw [show Lib.nDigits (u / 10) + 1 - 1 = (Lib.nDigits (u / 10) - 1) + 1 by omega, Nat.pow_succ]
      omega

/-- What is shown of p parts is cut, and reckoned, to p parts. -/
theorem abs_spec (p : Nat) (hp : p ≤ 9000000000000000000) (l : List UInt8) (hl : Lib.trimPrefix l [45] = absL p) :
    formB l = true ∧ nrOk (numL (wholeOf l)) 10000 1 = true ∧ partsOf l = p := by
  have hns := dec_noStop (p / 10000)
  obtain ⟨d1, d2⟩ := dec_spec (p / 10000)
  have hdl := dec_len (p / 10000) (by omega)
  have hd18 : (Lib.decDigits (p / 10000)).length ≤ 18 := by
    rw [Lib.decDigits_length]
    rcases Nat.lt_or_ge 18 (Lib.nDigits (p / 10000)) with h | h
    · have hlo := dec_lo (p / 10000) (by
        rcases Nat.eq_zero_or_pos (p / 10000) with h0 | h0
        · rw [h0] at h; exact absurd h (by decide +kernel)
        · exact h0)
      have : 10 ^ 18 ≤ 10 ^ (Lib.nDigits (p / 10000) - 1) := Nat.pow_le_pow_right (by omega) (by omega)
      have e : (10 ^ 18 : Nat) = 1000000000000000000 := by decide
      omega
    · exact h
  have hD : digB (Lib.decDigits (p / 10000)) = true := by
    unfold digB; rw [decide_eq_true hdl.1, decide_eq_true hd18, d1]; rfl
  have hq : nrOk (p / 10000) 10000 1 = true ∧ nrV (p / 10000) 10000 1 = p / 10000 * 10000 := by
    unfold nrV nrOk
    rw [Nat.div_one, Nat.mod_one, decide_eq_true (by omega), if_pos rfl, if_neg (by omega)]
    exact ⟨rfl, Nat.add_zero _⟩
  by_cases hr : p % 10000 = 0
  · have ea : absL p = Lib.decDigits (p / 10000) := by unfold absL fracL; rw [if_pos hr, List.append_nil]
    have ec : Lib.cut (Lib.trimPrefix l [45]) [46] = (Lib.decDigits (p / 10000), [], false) := by
      rw [hl, ea]; exact cut_none _ (fun c hc => (hns c hc).1)
    unfold formB partsOf wholeOf partOf dotOf
    rw [ec]
    refine ⟨by rw [hD]; rfl, by rw [d2]; exact hq.1, ?_⟩
    rw [d2, hq.2]
    have e0 : nrV (numL []) 10000 (10 ^ ([] : List UInt8).length) = 0 := by decide +kernel
    rw [e0]; omega
  · have ea : absL p = Lib.decDigits (p / 10000) ++ 46 :: Lib.trimRightB ((Lib.decDigits (10000 + p % 10000)).drop 1) 48 := by unfold absL fracL; rw [if_neg hr]
    obtain ⟨f1, f2⟩ := frac_spec (p % 10000) (by omega) (by omega)
    have ec : Lib.cut (Lib.trimPrefix l [45]) [46] = (Lib.decDigits (p / 10000), Lib.trimRightB ((Lib.decDigits (10000 + p % 10000)).drop 1) 48, true) := by
      rw [hl, ea]; exact cut_at _ _ (fun c hc => (hns c hc).1)
    unfold formB partsOf wholeOf partOf dotOf
    rw [ec]
    refine ⟨by rw [hD, f1]; rfl, by rw [d2]; exact hq.1, ?_⟩
    rw [d2, hq.2, f2]; omega

theorem abs_head (p : Nat) : Lib.hasPrefix (absL p) [45] = false := by
  unfold absL
  have h := (dec_len' (p / 10000))
  have hns := dec_noStop (p / 10000)
  generalize Lib.decDigits (p / 10000) = D at *
  match D, h with
  | c :: D, _ =>
    have := (hns c (by simp)).2
    unfold Lib.hasPrefix
    simp [List.isPrefixOf, Ne.symm this]

theorem sgn_small (b : Bool) (p : Nat) (h : p ≤ 9000000000000000000) : sgnN b (p : Int) = (if b = true then -(p : Int) else (p : Int)) ∧ sgnE (p : Int) = 0 := by
  unfold sgnN sgnE
  have h' : ¬ (9000000000000000000 : Int) < (p : Int) := by omega
  rw [if_neg h', if_neg h']
  exact ⟨rfl, rfl⟩

/-- A good number is read back from its text. -/
theorem parse_text (a : Int) (h : goodB a = true) : parseR (textL a) = (a, 0) := by
  have hg := (goodB_iff a).1 h
  by_cases hn : a < 0
  · have et : textL a = 45 :: absL a.natAbs := by unfold textL; rw [if_pos h, if_pos hn]
    have hneg : negOf (textL a) = true := by rw [et]; unfold negOf Lib.hasPrefix; simp [List.isPrefixOf]
    have htr : Lib.trimPrefix (textL a) [45] = absL a.natAbs := by
      unfold Lib.trimPrefix
      have : Lib.hasPrefix (textL a) [45] = true := hneg
      rw [this, if_pos rfl, et]; rfl
    obtain ⟨s1, s2, s3⟩ := abs_spec a.natAbs (by omega) _ htr
    unfold parseR
    rw [if_pos s1, if_pos s2, s3, hneg]
    rw [(sgn_small true a.natAbs (by omega)).1, (sgn_small true a.natAbs (by omega)).2]
    exact Prod.ext (by show -(a.natAbs : Int) = a; omega) rfl
  · have et : textL a = absL a.natAbs := by unfold textL; rw [if_pos h, if_neg hn]
    have hneg : negOf (textL a) = false := by rw [et]; exact abs_head _
    have htr : Lib.trimPrefix (textL a) [45] = absL a.natAbs := by
      unfold Lib.trimPrefix
      have : Lib.hasPrefix (textL a) [45] = false := hneg
      rw [this, et]; rfl
    obtain ⟨s1, s2, s3⟩ := abs_spec a.natAbs (by omega) _ htr
    unfold parseR
    rw [if_pos s1, if_pos s2, s3, hneg]
    rw [(sgn_small false a.natAbs (by omega)).1, (sgn_small false a.natAbs (by omega)).2]
    exact Prod.ext (by show (a.natAbs : Int) = a; omega) rfl

theorem text_len (a : Int) : (textL a).length ≤ 100 := by
  unfold textL
  split
  · rename_i h
    have hg := (goodB_iff a).1 h
    have hx : (absL a.natAbs).length ≤ 60 := by
      unfold absL fracL
      have h1 := (dec_len (a.natAbs / 10000) (by omega)).2
      have h2 := (dec_len (10000 + a.natAbs % 10000) (by omega)).2
      have h3 := trim_len ((Lib.decDigits (10000 + a.natAbs % 10000)).drop 1)
      rw [List.length_drop] at h3
      rw [List.length_append]
      split
      · simp; omega
      · rw [List.length_cons]; omega
    split
    · rw [List.length_cons]; omega
    · omega
  · simp
end Go.Proofs.YtobkmjjdnfimoaaDoor
