/- The contract of the reference's find; plain facts on the parts of a text. -/
import Derived.Test.YtloamahbghjjgaaGreatDoorAd9
namespace Go.Proofs.YtloamahbghjjgaaGreatDoor
open Go.RowKit

theorem idx_none (c : UInt8) (l : List UInt8) (h : ∀ x, x ∈ l → x ≠ c) : Lib.index l [c] = -1 := by
  induction l with
  | nil => rfl
  | cons b l ih =>
    have hb : b ≠ c := h b (by simp)
    have := ih (fun x hx => h x (by simp [hx]))
    unfold Lib.index
    rw [this]
    have e : ([c] : List UInt8).isPrefixOf (b :: l) = false := by simp [List.isPrefixOf, Ne.symm hb]
    rw [e]; rfl
theorem idx_at (c : UInt8) (l r : List UInt8) (h : ∀ x, x ∈ l → x ≠ c) : Lib.index (l ++ c :: r) [c] = (l.length : Int) := by
  induction l with
  | nil => unfold Lib.index; simp [List.isPrefixOf]
  | cons b l ih =>
    have hb : b ≠ c := h b (by simp)
    have := ih (fun x hx => h x (by simp [hx]))
    rw [List.cons_append]
    unfold Lib.index
    rw [this]
    have e : ([c] : List UInt8).isPrefixOf (b :: (l ++ c :: r)) = false := by simp [List.isPrefixOf, Ne.symm hb]
    have e2 : ((l.length : Int) == -1) = false := by rw [beq_eq_false_iff_ne]; omega
    rw [e, e2]
    simp
/-- A byte is not there, or it stands at a place, and the text is parted there. -/
theorem idx_cases (c : UInt8) (l : List UInt8) : (Lib.index l [c] = -1 ∧ Lib.cut l [c] = (l, [], false)) ∨ ∃ k : Nat, Lib.index l [c] = (k : Int) ∧ k < l.length ∧ Lib.cut l [c] = (l.take k, l.drop (k + 1), true) := by
  have hge := Lib.index_ge l [c]
  by_cases h : Lib.index l [c] = -1
  · refine Or.inl ⟨h, ?_⟩
    unfold Lib.cut
    rw [h]; rfl
  · have hr := Lib.index_room l [c] (by omega)
    refine Or.inr ⟨(Lib.index l [c]).toNat, by omega, ?_, ?_⟩
    · have : ([c] : List UInt8).length = 1 := rfl
      omega
    · unfold Lib.cut
      rw [if_pos (by omega)]
      rfl
theorem idx_tail (l : List UInt8) (h : bkB l = true) : Lib.index l [93] = if Lib.index l.tail [93] = -1 then -1 else Lib.index l.tail [93] + 1 := by
  cases l with
  | nil => cases h
  | cons b l =>
    have hb : b = 91 := by
      have : (some b == some 91) = true := h
      simpa using this
    subst hb
    show Lib.index (91 :: l) [93] = _
    conv => lhs; unfold Lib.index
    have e : ([93] : List UInt8).isPrefixOf (91 :: l) = false := rfl
    rw [e]
    show (if (Lib.index l [93] == -1) = true then (-1 : Int) else Lib.index l [93] + 1) = if Lib.index l [93] = -1 then -1 else Lib.index l [93] + 1
    by_cases h1 : Lib.index l [93] = -1
    · rw [h1]; rfl
    · rw [if_neg h1, if_neg (by simpa using h1)]
theorem bkB_at (s : ByteArray) (h : 0 < s.size) : bkB s.data.toList = ((s[0].toNat : Int) == 91) := by
  have e := drop_head s 0 h
  rw [List.drop_zero] at e
  rw [e]
  show (some s[0] == some 91) = _
  rw [Bool.eq_iff_iff, beq_iff_eq, beq_iff_eq]
  constructor
  · intro e; rw [Option.some.inj e]; rfl
  · intro e; exact congrArg some (UInt8.toNat_inj.1 (show s[0].toNat = 91 by omega))
theorem ext_mid (s : ByteArray) (i k : Nat) : s.extract i k = ⟨((s.data.toList.take k).drop i).toArray⟩ := by
  rw [Lib.extract_eq]
  congr 2
  rw [List.drop_take]
/-- Names that are parted off make a good reference of a good place. -/
theorem part_good (l : List UInt8) (h : partOk l = true) (a b : Rf) (wd : Bool) : goodF ⟨⟨(partB l).toArray⟩, ⟨(partS l).toArray⟩, a, b, wd⟩ = (if wd = true then areaG a.col a.row b.col b.row else zeroB b && cellG a.col a.row) := by
  unfold partOk at h
  rw [Bool.and_eq_true] at h
  obtain ⟨h1, h2⟩ := h
  unfold bkOk at h1
  unfold shOk at h2
  have hS : (partS l).isEmpty = true ∨ nameG (partS l) = true := by
    unfold partS
    by_cases hc : (shC l).2.2 = true
    · rw [if_pos hc] at h2 ⊢; exact Or.inr h2
    · rw [if_neg hc]; exact Or.inl rfl
  have hB : (partB l).isEmpty = true ∨ ((partS l).isEmpty = false ∧ nameG (partB l) = true) := by
    unfold partB
    by_cases hb : bkB l = true
    · rw [hb] at h1 h2
      rw [if_pos hb]
      refine Or.inr ⟨?_, ?_⟩
      · by_cases hc : (shC l).2.2 = true
        · unfold partS
          rw [if_pos hc] at h2 ⊢
          exact (name_plain _ h2).2
        · rw [if_neg hc] at h2; cases h2
      · rw [Bool.not_true, Bool.false_or, Bool.and_eq_true] at h1; exact h1.2
    · rw [if_neg hb]; exact Or.inl rfl
  unfold goodF
  show (((partS l).isEmpty || nameG (partS l)) && ((partB l).isEmpty || (!(partS l).isEmpty && nameG (partB l))) && _) = _
  have e1 : ((partS l).isEmpty || nameG (partS l)) = true := by rcases hS with h | h <;> rw [h] <;> simp
  have e2 : ((partB l).isEmpty || (!(partS l).isEmpty && nameG (partB l))) = true := by
    rcases hB with h | ⟨h, h'⟩
    · rw [h]; rfl
    · rw [h, h']; simp
  rw [e1, e2, Bool.true_and, Bool.true_and]
  rfl

set_option maxRecDepth 100000 in
set_option maxHeartbeats 2000000 in
theorem find_ref (s : ByteArray) (c : UInt8) (w : World) (hs : s.size ≤ 140000000000000) :
    Calls Tryz.prog 197 #[.string s, .int .u8 (c.toNat : Int)] w fun e w' => e = .returned (.int .i64 (Lib.index s.data.toList [c])) ∧ w' = w := by
  obtain ⟨v, hv⟩ : ∃ v, Lib.index s.data.toList [c] = v := ⟨_, rfl⟩
  rw [hv]
  have HV := hide hv
  clear hv
  have hc8 : c.toNat < 256 := c.toNat_lt
  obtain ⟨q, hq⟩ : ∃ q, c.toNat = q := ⟨_, rfl⟩
  rw [hq] at hc8 ⊢
  have HQ := hide hq
  clear hq
  go_enter Tryz.func197, Tryz.ntmps197
  go_wp2
  go_loop [5] (fun i => ∃ k : Nat, k ≤ s.size ∧ i = .int .i64 k ∧ Hid (∀ x, x ∈ s.data.toList.take k → x ≠ c)) (fun i => s.size - (intOf i).toNat)
  case atStart => exact ⟨0, Nat.zero_le _, rfl, hide (fun x hx => by cases hx)⟩
  case round =>
    obtain ⟨k, hk, rfl, HT⟩ := hrel
    by_cases hlt : k < s.size
    · cases he : ((s[k].toNat : Int) == (q : Int))
      · have HN : Hid (∀ x, x ∈ s.data.toList.take (k + 1) → x ≠ c) := hide (fun x hx => by
          rw [take_snoc4 s k hlt] at hx
          rcases List.mem_append.1 hx with h | h
          · exact unhide HT x h
          · rw [List.mem_singleton] at h
            intro e
            rw [beq_eq_false_iff_ne] at he
            rw [← h, e, unhide HQ] at he
            exact he rfl)
        go_wp2
        go_round
        case rel => exact ⟨k + 1, by omega, by go_num, HN⟩
        case measure => simp [intOf]; omega
      · have HK : Hid (v = (k : Int)) := hide (by
          have e : s.data.toList = s.data.toList.take k ++ c :: s.data.toList.drop (k + 1) := by
            have h1 := drop_head s k hlt
            have h2 : s[k] = c := UInt8.toNat_inj.1 (by rw [beq_iff_eq] at he; rw [unhide HQ]; omega)
            rw [h2] at h1
            rw [← h1, List.take_append_drop]
          have h := idx_at c (s.data.toList.take k) (s.data.toList.drop (k + 1)) (unhide HT)
          rw [← e, unhide HV, List.length_take] at h
          have : min k s.data.toList.length = k := Nat.min_eq_left hk
          rw [this] at h
          exact h)
        go_wp2
        go_ret
        exact ⟨by rw [unhide HK]; rfl, rfl⟩
    · have HK : Hid (v = -1) := hide (by
        have h := unhide HT
        rw [List.take_of_length_le (by show s.size ≤ k; omega)] at h
        rw [← unhide HV]
        exact idx_none c _ h)
      go_wp2
      go_ret
      exact ⟨by rw [unhide HK]; rfl, rfl⟩
end Go.Proofs.YtloamahbghjjgaaGreatDoor
