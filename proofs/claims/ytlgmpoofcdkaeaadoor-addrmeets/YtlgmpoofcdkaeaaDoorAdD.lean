/- The contract of the program's leading, at its three tests. -/
import Derived.Test.YtlgmpoofcdkaeaaDoorAdC
namespace Go.Proofs.YtlgmpoofcdkaeaaDoor
open Go.RowKit

theorem take_snoc4 (s : ByteArray) (k : Nat) (h : k < s.size) : s.data.toList.take (k + 1) = s.data.toList.take k ++ [s[k]] := by
  rw [List.take_succ_eq_append_getElem (by simpa using h)]; rfl
theorem tw_len (p : UInt8 → Bool) : ∀ (l : List UInt8) (k : Nat), k ≤ l.length → (l.take k).all p = true → (l.drop k).takeWhile p = [] → l.takeWhile p = l.take k ∧ l.dropWhile p = l.drop k
  | l, 0, _, _, h => by
    have e : l.drop 0 = l := rfl
    rw [e] at h
    refine ⟨h, ?_⟩
    have h2 := List.takeWhile_append_dropWhile (p := p) (l := l)
    rw [h, List.nil_append] at h2
    exact h2
  | [], k + 1, hk, _, _ => by simp at hk
  | c :: l, k + 1, hk, ha, hd => by
    rw [List.take_succ_cons, List.all_cons, Bool.and_eq_true] at ha
    obtain ⟨i1, i2⟩ := tw_len p l k (by simpa using hk) ha.2 hd
    refine ⟨?_, ?_⟩
    · rw [List.takeWhile_cons, if_pos ha.1, i1]; rfl
    · rw [List.dropWhile_cons, if_pos ha.1, i2]; rfl
theorem tw_here (p : UInt8 → Bool) (s : ByteArray) (k : Nat) (h : k < s.size) (hp : p s[k] = false) : (s.data.toList.drop k).takeWhile p = [] := by
  have hk : k < s.data.toList.length := h
  rw [List.drop_eq_getElem_cons hk, List.takeWhile_cons, if_neg]
  have : s.data.toList[k] = s[k] := rfl
  rw [this, hp]; simp
theorem ext_take (s : ByteArray) (k : Nat) : s.extract 0 k = ⟨(s.data.toList.take k).toArray⟩ := by
  rw [Lib.extract_eq]; simp
theorem ext_drop (s : ByteArray) (k : Nat) : s.extract k s.size = ⟨(s.data.toList.drop k).toArray⟩ := by
  rw [Lib.extract_eq]
  have ht : List.take (s.size - k) (List.drop k s.data.toList) = List.drop k s.data.toList := List.take_of_length_le (by rw [List.length_drop]; exact Nat.le_refl _)
  rw [ht]

set_option maxRecDepth 100000 in
set_option maxHeartbeats 2000000 in
theorem lead_letter (s : ByteArray) (w : World) (hs : s.size ≤ maxLen) :
    Calls Tryd.prog 42 #[.string s, .func (.func 53) #[] #[]] w fun e w' => e = .returned (.tuple #[.string ⟨(s.data.toList.takeWhile isLet).toArray⟩, .string ⟨(s.data.toList.dropWhile isLet).toArray⟩]) ∧ Below w.heap.size w w' := by
  unfold maxLen at hs
  have hsz : s.data.toList.length = s.size := rfl
  have HS := hide hsz
  clear hsz
  go_enter Tryd.func42, Tryd.ntmps42
  go_wp2
  go_loop [6] (fun i => ∃ k : Nat, k ≤ s.size ∧ i = .int .i64 k ∧ Hid ((s.data.toList.take k).all isLet = true)) (fun i => s.size - (intOf i).toNat)
  case atStart => exact ⟨0, Nat.zero_le _, rfl, hide rfl⟩
  case round =>
    obtain ⟨k, hk, rfl, HT⟩ := hrel
    by_cases hlt : k < s.size
    · have HC := hide (fun w => letter_val s[k] w)
      cases hg : isLet s[k]
      · have hw := tw_here isLet s k hlt hg
        have HE := hide (tw_len isLet s.data.toList k hk (unhide HT) hw)
        rw [hg] at HC
        clear hg hw
        have HX := hide (And.intro (ext_take s k) (ext_drop s k))
        have i1 : (0 : Int) ≤ (k : Int) := by omega
        have i2 : (k : Int) ≤ (s.size : Int) := by omega
        go_wp2_with fail
        refine (unhide HC _).mono ?_
        rintro e w1 ⟨rfl, rfl⟩
        go_wp2_with fail
        go_quiet (fail)
        go_wp2
        go_ret2
        exact ⟨by rw [(unhide HE).1, (unhide HE).2, ← (unhide HX).1, ← (unhide HX).2]; rfl, below_drewN (Below.refl _ _) _⟩
      · have hs' : Hid ((s.data.toList.take (k + 1)).all isLet = true) := hide (by rw [take_snoc4 s k hlt, List.all_append, unhide HT, List.all_cons, hg]; rfl)
        rw [hg] at HC
        clear hg
        go_wp2_with fail
        refine (unhide HC _).mono ?_
        rintro e w1 ⟨rfl, rfl⟩
        go_wp2
        go_round
        case rel => exact ⟨k + 1, by omega, by go_num, hs'⟩
        case measure => simp [intOf]; omega
    · have hk' : k = s.size := by omega
      have hw : (s.data.toList.drop k).takeWhile isLet = [] := by rw [List.drop_of_length_le (by rw [unhide HS]; omega)]; rfl
      have HE := hide (tw_len isLet s.data.toList k hk (unhide HT) hw)
      clear hw
      have HX := hide (And.intro (ext_take s k) (ext_drop s k))
      have i1 : (0 : Int) ≤ (k : Int) := by omega
      have i2 : (k : Int) ≤ (s.size : Int) := by omega
      have HK := hide hk'
      clear hk'
      go_wp2_with fail
      go_quiet (fail)
      go_wp2
      go_ret2
      exact ⟨by rw [(unhide HE).1, (unhide HE).2, ← (unhide HX).1, ← (unhide HX).2]; rfl, below_drewN (Below.refl _ _) _⟩
set_option maxRecDepth 100000 in
set_option maxHeartbeats 2000000 in
theorem lead_digit (s : ByteArray) (w : World) (hs : s.size ≤ maxLen) :
    Calls Tryd.prog 42 #[.string s, .func (.func 41) #[] #[]] w fun e w' => e = .returned (.tuple #[.string ⟨(s.data.toList.takeWhile isDg).toArray⟩, .string ⟨(s.data.toList.dropWhile isDg).toArray⟩]) ∧ Below w.heap.size w w' := by
  unfold maxLen at hs
  have hsz : s.data.toList.length = s.size := rfl
  have HS := hide hsz
  clear hsz
  go_enter Tryd.func42, Tryd.ntmps42
  go_wp2
  go_loop [6] (fun i => ∃ k : Nat, k ≤ s.size ∧ i = .int .i64 k ∧ Hid ((s.data.toList.take k).all isDg = true)) (fun i => s.size - (intOf i).toNat)
  case atStart => exact ⟨0, Nat.zero_le _, rfl, hide rfl⟩
  case round =>
    obtain ⟨k, hk, rfl, HT⟩ := hrel
    by_cases hlt : k < s.size
    · have HC := hide (fun w => digit_val s[k] w)
      cases hg : isDg s[k]
      · have hw := tw_here isDg s k hlt hg
        have HE := hide (tw_len isDg s.data.toList k hk (unhide HT) hw)
        rw [hg] at HC
        clear hg hw
        have HX := hide (And.intro (ext_take s k) (ext_drop s k))
        have i1 : (0 : Int) ≤ (k : Int) := by omega
        have i2 : (k : Int) ≤ (s.size : Int) := by omega
        go_wp2_with fail
        refine (unhide HC _).mono ?_
        rintro e w1 ⟨rfl, rfl⟩
        go_wp2_with fail
        go_quiet (fail)
        go_wp2
        go_ret2
        exact ⟨by rw [(unhide HE).1, (unhide HE).2, ← (unhide HX).1, ← (unhide HX).2]; rfl, below_drewN (Below.refl _ _) _⟩
      · have hs' : Hid ((s.data.toList.take (k + 1)).all isDg = true) := hide (by rw [take_snoc4 s k hlt, List.all_append, unhide HT, List.all_cons, hg]; rfl)
        rw [hg] at HC
        clear hg
        go_wp2_with fail
        refine (unhide HC _).mono ?_
        rintro e w1 ⟨rfl, rfl⟩
        go_wp2
        go_round
        case rel => exact ⟨k + 1, by omega, by go_num, hs'⟩
        case measure => simp [intOf]; omega
    · have hk' : k = s.size := by omega
      have hw : (s.data.toList.drop k).takeWhile isDg = [] := by rw [List.drop_of_length_le (by rw [unhide HS]; omega)]; rfl
      have HE := hide (tw_len isDg s.data.toList k hk (unhide HT) hw)
      clear hw
      have HX := hide (And.intro (ext_take s k) (ext_drop s k))
      have i1 : (0 : Int) ≤ (k : Int) := by omega
      have i2 : (k : Int) ≤ (s.size : Int) := by omega
      have HK := hide hk'
      clear hk'
      go_wp2_with fail
      go_quiet (fail)
      go_wp2
      go_ret2
      exact ⟨by rw [(unhide HE).1, (unhide HE).2, ← (unhide HX).1, ← (unhide HX).2]; rfl, below_drewN (Below.refl _ _) _⟩
set_option maxRecDepth 100000 in
set_option maxHeartbeats 2000000 in
theorem lead_name (s : ByteArray) (w : World) (hs : s.size ≤ maxLen) :
    Calls Tryd.prog 42 #[.string s, .func (.func 43) #[] #[]] w fun e w' => e = .returned (.tuple #[.string ⟨(s.data.toList.takeWhile inNm).toArray⟩, .string ⟨(s.data.toList.dropWhile inNm).toArray⟩]) ∧ Below w.heap.size w w' := by
  unfold maxLen at hs
  have hsz : s.data.toList.length = s.size := rfl
  have HS := hide hsz
  clear hsz
  go_enter Tryd.func42, Tryd.ntmps42
  go_wp2
  go_loop [6] (fun i => ∃ k : Nat, k ≤ s.size ∧ i = .int .i64 k ∧ Hid ((s.data.toList.take k).all inNm = true)) (fun i => s.size - (intOf i).toNat)
  case atStart => exact ⟨0, Nat.zero_le _, rfl, hide rfl⟩
  case round =>
    obtain ⟨k, hk, rfl, HT⟩ := hrel
    by_cases hlt : k < s.size
    · have HC := hide (fun w => inName_val s[k] w)
      cases hg : inNm s[k]
      · have hw := tw_here inNm s k hlt hg
        have HE := hide (tw_len inNm s.data.toList k hk (unhide HT) hw)
        rw [hg] at HC
        clear hg hw
        have HX := hide (And.intro (ext_take s k) (ext_drop s k))
        have i1 : (0 : Int) ≤ (k : Int) := by omega
        have i2 : (k : Int) ≤ (s.size : Int) := by omega
        go_wp2_with fail
        refine (unhide HC _).mono ?_
        rintro e w1 ⟨rfl, rfl⟩
        go_wp2_with fail
        go_quiet (fail)
        go_wp2
        go_ret2
        exact ⟨by rw [(unhide HE).1, (unhide HE).2, ← (unhide HX).1, ← (unhide HX).2]; rfl, below_drewN (Below.refl _ _) _⟩
      · have hs' : Hid ((s.data.toList.take (k + 1)).all inNm = true) := hide (by rw [take_snoc4 s k hlt, List.all_append, unhide HT, List.all_cons, hg]; rfl)
        rw [hg] at HC
        clear hg
        go_wp2_with fail
        refine (unhide HC _).mono ?_
        rintro e w1 ⟨rfl, rfl⟩
        go_wp2
        go_round
        case rel => exact ⟨k + 1, by omega, by go_num, hs'⟩
        case measure => simp [intOf]; omega
    · have hk' : k = s.size := by omega
      have hw : (s.data.toList.drop k).takeWhile inNm = [] := by rw [List.drop_of_length_le (by rw [unhide HS]; omega)]; rfl
      have HE := hide (tw_len inNm s.data.toList k hk (unhide HT) hw)
      clear hw
      have HX := hide (And.intro (ext_take s k) (ext_drop s k))
      have i1 : (0 : Int) ≤ (k : Int) := by omega
      have i2 : (k : Int) ≤ (s.size : Int) := by omega
      have HK := hide hk'
      clear hk'
      go_wp2_with fail
      go_quiet (fail)
      go_wp2
      go_ret2
      exact ⟨by rw [(unhide HE).1, (unhide HE).2, ← (unhide HX).1, ← (unhide HX).2]; rfl, below_drewN (Below.refl _ _) _⟩
end Go.Proofs.YtlgmpoofcdkaeaaDoor
