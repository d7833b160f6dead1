/- The contracts of the small tests of layer 5 (the program's and the reference's), of unblanked, and of leading at its two tests. -/
import Derived.Test.YtloamahbghjjgaaGreatDoorLxZ
import Derived.Test.YtloamahbghjjgaaGreatDoorAdY
import Derived.Test.YtloamahbghjjgaaGreatDoorShelf
import Derived.Deep.RegionHeld3
namespace Go.Proofs.YtloamahbghjjgaaGreatDoor
open Go.RowKit

set_option maxHeartbeats 1000000 in
theorem letter5_val (c : UInt8) (w : World) : Calls Tryz.prog 90 #[.int .u8 (c.toNat : Int)] w fun e w' => e = .returned (.bool (isLet c)) ∧ w' = w := by
  unfold isLet
  have hx : c.toNat < 256 := c.toNat_lt
  generalize c.toNat = x at hx ⊢
  by_cases h1 : 65 ≤ x
  · rw [decide_eq_true h1]
    have h1i : decide (65 ≤ (x : Int)) = true := decide_eq_true (by omega)
    by_cases h2 : x ≤ 90
    · rw [decide_eq_true h2]
      have h2i : decide ((x : Int) ≤ 90) = true := decide_eq_true (by omega)
      have hz : ∀ b : Bool, (true && true || b) = true := fun _ => rfl
      rw [hz]
      clear hz
      go_enter Tryz.func90, Tryz.ntmps90
      go_wp2
      go_ret
      exact ⟨rfl, rfl⟩
    · rw [decide_eq_false h2]
      have h2i : decide ((x : Int) ≤ 90) = false := decide_eq_false (by omega)
      have h2n : 90 < (x : Int) := by omega
      clear h2
      by_cases k1 : 97 ≤ x
      · rw [decide_eq_true k1]
        have k1i : decide (97 ≤ (x : Int)) = true := decide_eq_true (by omega)
        by_cases k2 : x ≤ 122
        · rw [decide_eq_true k2]
          have k2i : decide ((x : Int) ≤ 122) = true := decide_eq_true (by omega)
          go_enter Tryz.func90, Tryz.ntmps90
          go_wp2
          go_ret
          exact ⟨rfl, rfl⟩
        · rw [decide_eq_false k2]
          have k2i : decide ((x : Int) ≤ 122) = false := decide_eq_false (by omega)
          have k2n : 122 < (x : Int) := by omega
          clear k2
          go_enter Tryz.func90, Tryz.ntmps90
          go_wp2
          go_ret
          exact ⟨rfl, rfl⟩
      · rw [decide_eq_false k1]
        have k1i : decide (97 ≤ (x : Int)) = false := decide_eq_false (by omega)
        have k1n : (x : Int) < 97 := by omega
        clear k1
        go_enter Tryz.func90, Tryz.ntmps90
        go_wp2
        go_ret
        exact ⟨rfl, rfl⟩
  · rw [decide_eq_false h1]
    have h1i : decide (65 ≤ (x : Int)) = false := decide_eq_false (by omega)
    have h1n : (x : Int) < 65 := by omega
    clear h1
    by_cases k1 : 97 ≤ x
    · rw [decide_eq_true k1]
      have k1i : decide (97 ≤ (x : Int)) = true := decide_eq_true (by omega)
      by_cases k2 : x ≤ 122
      · rw [decide_eq_true k2]
        have k2i : decide ((x : Int) ≤ 122) = true := decide_eq_true (by omega)
        go_enter Tryz.func90, Tryz.ntmps90
        go_wp2
        go_ret
        exact ⟨rfl, rfl⟩
      · rw [decide_eq_false k2]
        have k2i : decide ((x : Int) ≤ 122) = false := decide_eq_false (by omega)
        have k2n : 122 < (x : Int) := by omega
        clear k2
        go_enter Tryz.func90, Tryz.ntmps90
        go_wp2
        go_ret
        exact ⟨rfl, rfl⟩
    · rw [decide_eq_false k1]
      have k1i : decide (97 ≤ (x : Int)) = false := decide_eq_false (by omega)
      have k1n : (x : Int) < 97 := by omega
      clear k1
      go_enter Tryz.func90, Tryz.ntmps90
      go_wp2
      go_ret
      exact ⟨rfl, rfl⟩
set_option maxHeartbeats 1000000 in
theorem letter5_ref (c : UInt8) (w : World) : Calls Tryz.prog 101 #[.int .u8 (c.toNat : Int)] w fun e w' => e = .returned (.bool (isLet c)) ∧ w' = w := by
  unfold isLet
  have hx : c.toNat < 256 := c.toNat_lt
  generalize c.toNat = x at hx ⊢
  by_cases h1 : 65 ≤ x
  · rw [decide_eq_true h1]
    have h1i : decide (65 ≤ (x : Int)) = true := decide_eq_true (by omega)
    by_cases h2 : x ≤ 90
    · rw [decide_eq_true h2]
      have h2i : decide ((x : Int) ≤ 90) = true := decide_eq_true (by omega)
      have hz : ∀ b : Bool, (true && true || b) = true := fun _ => rfl
      rw [hz]
      clear hz
      go_enter Tryz.func101, Tryz.ntmps101
      go_wp2
      go_ret
      exact ⟨rfl, rfl⟩
    · rw [decide_eq_false h2]
      have h2i : decide ((x : Int) ≤ 90) = false := decide_eq_false (by omega)
      have h2n : 90 < (x : Int) := by omega
      clear h2
      by_cases k1 : 97 ≤ x
      · rw [decide_eq_true k1]
        have k1i : decide (97 ≤ (x : Int)) = true := decide_eq_true (by omega)
        by_cases k2 : x ≤ 122
        · rw [decide_eq_true k2]
          have k2i : decide ((x : Int) ≤ 122) = true := decide_eq_true (by omega)
          go_enter Tryz.func101, Tryz.ntmps101
          go_wp2
          go_ret
          exact ⟨rfl, rfl⟩
        · rw [decide_eq_false k2]
          have k2i : decide ((x : Int) ≤ 122) = false := decide_eq_false (by omega)
          have k2n : 122 < (x : Int) := by omega
          clear k2
          go_enter Tryz.func101, Tryz.ntmps101
          go_wp2
          go_ret
          exact ⟨rfl, rfl⟩
      · rw [decide_eq_false k1]
        have k1i : decide (97 ≤ (x : Int)) = false := decide_eq_false (by omega)
        have k1n : (x : Int) < 97 := by omega
        clear k1
        go_enter Tryz.func101, Tryz.ntmps101
        go_wp2
        go_ret
        exact ⟨rfl, rfl⟩
  · rw [decide_eq_false h1]
    have h1i : decide (65 ≤ (x : Int)) = false := decide_eq_false (by omega)
    have h1n : (x : Int) < 65 := by omega
    clear h1
    by_cases k1 : 97 ≤ x
    · rw [decide_eq_true k1]
      have k1i : decide (97 ≤ (x : Int)) = true := decide_eq_true (by omega)
      by_cases k2 : x ≤ 122
      · rw [decide_eq_true k2]
        have k2i : decide ((x : Int) ≤ 122) = true := decide_eq_true (by omega)
        go_enter Tryz.func101, Tryz.ntmps101
        go_wp2
        go_ret
        exact ⟨rfl, rfl⟩
      · rw [decide_eq_false k2]
        have k2i : decide ((x : Int) ≤ 122) = false := decide_eq_false (by omega)
        have k2n : 122 < (x : Int) := by omega
        clear k2
        go_enter Tryz.func101, Tryz.ntmps101
        go_wp2
        go_ret
        exact ⟨rfl, rfl⟩
    · rw [decide_eq_false k1]
      have k1i : decide (97 ≤ (x : Int)) = false := decide_eq_false (by omega)
      have k1n : (x : Int) < 97 := by omega
      clear k1
      go_enter Tryz.func101, Tryz.ntmps101
      go_wp2
      go_ret
      exact ⟨rfl, rfl⟩
set_option maxHeartbeats 1000000 in
theorem digit5_val (c : UInt8) (w : World) : Calls Tryz.prog 88 #[.int .u8 (c.toNat : Int)] w fun e w' => e = .returned (.bool (isDg c)) ∧ w' = w := by
  unfold isDg
  have hx : c.toNat < 256 := c.toNat_lt
  generalize c.toNat = x at hx ⊢
  by_cases h1 : 48 ≤ x
  · rw [decide_eq_true h1]
    have h1i : decide (48 ≤ (x : Int)) = true := decide_eq_true (by omega)
    by_cases h2 : x ≤ 57
    · rw [decide_eq_true h2]
      have h2i : decide ((x : Int) ≤ 57) = true := decide_eq_true (by omega)
      go_enter Tryz.func88, Tryz.ntmps88
      go_wp2
      go_ret
      exact ⟨rfl, rfl⟩
    · rw [decide_eq_false h2]
      have h2i : decide ((x : Int) ≤ 57) = false := decide_eq_false (by omega)
      clear h2
      go_enter Tryz.func88, Tryz.ntmps88
      go_wp2
      go_ret
      exact ⟨rfl, rfl⟩
  · rw [decide_eq_false h1]
    have h1i : decide (48 ≤ (x : Int)) = false := decide_eq_false (by omega)
    clear h1
    go_enter Tryz.func88, Tryz.ntmps88
    go_wp2
    go_ret
    exact ⟨rfl, rfl⟩
set_option maxHeartbeats 1000000 in
theorem digit5_ref (c : UInt8) (w : World) : Calls Tryz.prog 97 #[.int .u8 (c.toNat : Int)] w fun e w' => e = .returned (.bool (isDg c)) ∧ w' = w := by
  unfold isDg
  have hx : c.toNat < 256 := c.toNat_lt
  generalize c.toNat = x at hx ⊢
  by_cases h1 : 48 ≤ x
  · rw [decide_eq_true h1]
    have h1i : decide (48 ≤ (x : Int)) = true := decide_eq_true (by omega)
    by_cases h2 : x ≤ 57
    · rw [decide_eq_true h2]
      have h2i : decide ((x : Int) ≤ 57) = true := decide_eq_true (by omega)
      go_enter Tryz.func97, Tryz.ntmps97
      go_wp2
      go_ret
      exact ⟨rfl, rfl⟩
    · rw [decide_eq_false h2]
      have h2i : decide ((x : Int) ≤ 57) = false := decide_eq_false (by omega)
      clear h2
      go_enter Tryz.func97, Tryz.ntmps97
      go_wp2
      go_ret
      exact ⟨rfl, rfl⟩
  · rw [decide_eq_false h1]
    have h1i : decide (48 ≤ (x : Int)) = false := decide_eq_false (by omega)
    clear h1
    go_enter Tryz.func97, Tryz.ntmps97
    go_wp2
    go_ret
    exact ⟨rfl, rfl⟩
theorem index_in (l : List UInt8) (c : UInt8) : decide (0 ≤ Lib.indexByte l c) = l.contains c := by
  induction l with
  | nil => rfl
  | cons b l ih =>
    rw [List.contains_cons]
    unfold Lib.indexByte
    by_cases h : b = c
    · subst h; simp
    · have hb : (b == c) = false := beq_eq_false_iff_ne.2 h
      have hc : (c == b) = false := beq_eq_false_iff_ne.2 (Ne.symm h)
      rw [hc, Bool.false_or, ← ih]
      simp only [hb]
      by_cases h0 : 0 ≤ Lib.indexByte l c
      · have : ¬ Lib.indexByte l c = -1 := by omega
        simp [h0, this]; omega
      · have := Lib.indexByte_ge l c
        have : Lib.indexByte l c = -1 := by omega
        simp [this]
theorem u8_back (c : UInt8) : ((c.toNat : Int)).toNat.toUInt8 = c := by
  rw [Int.toNat_natCast]
  apply UInt8.toNat_inj.1
  simp
set_option maxHeartbeats 1000000 in
theorem among_val (c : UInt8) (l : ByteArray) (w : World) : Calls Tryz.prog 91 #[.int .u8 (c.toNat : Int), .string l] w fun e w' => e = .returned (.bool (l.data.toList.contains c)) ∧ w' = w := by
  have HI := hide (fun w => Tryz.strings_IndexByte l (c.toNat : Int) w)
  have e := index_in l.data.toList c
  rw [u8_back] at HI
  rw [← e]
  clear e
  generalize Lib.indexByte l.data.toList c = i at HI ⊢
  go_enter Tryz.func91, Tryz.ntmps91
  go_wp2_with fail
  refine (unhide HI _).mono ?_
  rintro e w1 ⟨rfl, rfl⟩
  go_wp2
  go_ret
  exact ⟨rfl, rfl⟩
theorem unbl_eq (l : List UInt8) : Lib.trimLeftB l 32 = unbl l := rfl
set_option maxHeartbeats 1000000 in
theorem unblanked_val (s : ByteArray) (w : World) : Calls Tryz.prog 57 #[.string s] w fun e w' => e = .returned (.string ⟨(unbl s.data.toList).toArray⟩) ∧ w' = w := by
  have HI := hide (fun w => Tryz.strings_TrimLeft_one s 32 (by decide) w)
  rw [unbl_eq] at HI
  go_enter Tryz.func57, Tryz.ntmps57
  go_wp2_with fail
  refine (unhide HI _).mono ?_
  rintro e w1 ⟨rfl, rfl⟩
  go_wp2
  go_ret
  exact ⟨rfl, rfl⟩
theorem byte_eq (c k : UInt8) : (c == k) = ((c.toNat : Int) == (k.toNat : Int)) := by
  rw [Bool.eq_iff_iff, beq_iff_eq, beq_iff_eq]
  constructor
  · intro h; rw [h]
  · intro h; apply UInt8.toNat_inj.1; omega
set_option maxHeartbeats 1000000 in
theorem inNumber_val (c : UInt8) (w : World) : Calls Tryz.prog 142 #[.int .u8 (c.toNat : Int)] w fun e w' => e = .returned (.bool (inNumC c)) ∧ w' = w := by
  unfold inNumC
  have HD := hide (fun w => digit5_val c w)
  rw [byte_eq, show ((46 : UInt8).toNat : Int) = 46 from rfl]
  generalize isDg c = q at HD ⊢
  generalize c.toNat = x at HD ⊢
  cases q
  · cases h9 : ((x : Int) == 46)
    · go_enter Tryz.func142, Tryz.ntmps142
      go_wp2_with fail
      refine (unhide HD _).mono ?_
      rintro e w1 ⟨rfl, rfl⟩
      go_wp2
      go_ret
      exact ⟨rfl, rfl⟩
    · go_enter Tryz.func142, Tryz.ntmps142
      go_wp2_with fail
      refine (unhide HD _).mono ?_
      rintro e w1 ⟨rfl, rfl⟩
      go_wp2
      go_ret
      exact ⟨rfl, rfl⟩
  · go_enter Tryz.func142, Tryz.ntmps142
    go_wp2_with fail
    refine (unhide HD _).mono ?_
    rintro e w1 ⟨rfl, rfl⟩
    go_wp2
    go_ret
    exact ⟨rfl, rfl⟩
set_option maxHeartbeats 1000000 in
theorem inRun_val (c : UInt8) (w : World) : Calls Tryz.prog 145 #[.int .u8 (c.toNat : Int)] w fun e w' => e = .returned (.bool (inRunC c)) ∧ w' = w := by
  unfold inRunC
  have HL := hide (fun w => letter5_val c w)
  have HD := hide (fun w => digit5_val c w)
  have HA := hide (fun w => among_val c ⟨#[95, 36, 91, 93, 33, 58]⟩ w)
  rw [show (⟨#[95, 36, 91, 93, 33, 58]⟩ : ByteArray).data.toList = runL from rfl] at HA
  generalize isLet c = p at HL ⊢
  generalize isDg c = q at HD ⊢
  generalize runL.contains c = r at HA ⊢
  generalize c.toNat = x at HL HD HA ⊢
  cases p
  · cases q
    · go_enter Tryz.func145, Tryz.ntmps145
      go_wp2_with fail
      refine (unhide HL _).mono ?_
      rintro e w1 ⟨rfl, rfl⟩
      go_wp2_with fail
      refine (unhide HD _).mono ?_
      rintro e w2 ⟨rfl, rfl⟩
      go_wp2_with fail
      refine (unhide HA _).mono ?_
      rintro e w3 ⟨rfl, rfl⟩
      go_wp2
      go_ret
      exact ⟨rfl, rfl⟩
    · go_enter Tryz.func145, Tryz.ntmps145
      go_wp2_with fail
      refine (unhide HL _).mono ?_
      rintro e w1 ⟨rfl, rfl⟩
      go_wp2_with fail
      refine (unhide HD _).mono ?_
      rintro e w2 ⟨rfl, rfl⟩
      go_wp2
      go_ret
      exact ⟨rfl, rfl⟩
  · go_enter Tryz.func145, Tryz.ntmps145
    go_wp2_with fail
    refine (unhide HL _).mono ?_
    rintro e w1 ⟨rfl, rfl⟩
    go_wp2
    go_ret
    exact ⟨rfl, rfl⟩
set_option maxRecDepth 100000 in
set_option maxHeartbeats 2000000 in
theorem lead_num (s : ByteArray) (w : World) (hs : s.size ≤ maxLen) :
    Calls Tryz.prog 141 #[.string s, .func (.func 142) #[] #[]] w fun e w' => e = .returned (.string ⟨(s.data.toList.takeWhile inNumC).toArray⟩) ∧ w' = w := by
  unfold maxLen at hs
  have hsz : s.data.toList.length = s.size := rfl
  have HS := hide hsz
  clear hsz
  go_enter Tryz.func141, Tryz.ntmps141
  go_wp2
  go_loop [5] (fun i => ∃ k : Nat, k ≤ s.size ∧ i = .int .i64 k ∧ Hid ((s.data.toList.take k).all inNumC = true)) (fun i => s.size - (intOf i).toNat)
  case atStart => exact ⟨0, Nat.zero_le _, rfl, hide rfl⟩
  case round =>
    obtain ⟨k, hk, rfl, HT⟩ := hrel
    by_cases hlt : k < s.size
    · have HC := hide (fun w => inNumber_val s[k] w)
      cases hg : inNumC s[k]
      · have hw := tw_here inNumC s k hlt hg
        have HE := hide (tw_len inNumC s.data.toList k hk (unhide HT) hw)
        rw [hg] at HC
        clear hg hw
        have HX := hide (ext_take s k)
        have i1 : (0 : Int) ≤ (k : Int) := by omega
        have i2 : (k : Int) ≤ (s.size : Int) := by omega
        go_wp2_with fail
        refine (unhide HC _).mono ?_
        rintro e w1 ⟨rfl, rfl⟩
        go_wp2
        go_ret
        exact ⟨by rw [(unhide HE).1, ← unhide HX]; rfl, rfl⟩
      · have hs' : Hid ((s.data.toList.take (k + 1)).all inNumC = true) := hide (by rw [take_snoc4 s k hlt, List.all_append, unhide HT, List.all_cons, hg]; rfl)
        rw [hg] at HC
        clear hg
        go_wp2_with fail
        refine (unhide HC _).mono ?_
        rintro e w1 ⟨rfl, rfl⟩
        go_wp2
        go_round
        case rel => exact ⟨k + 1, by omega, by go_num, hs'⟩
        case measure => simp [intOf]; omega
    · have hk' : k = s.size := by omega
      have hw : (s.data.toList.drop k).takeWhile inNumC = [] := by rw [List.drop_of_length_le (by rw [unhide HS]; omega)]; rfl
      have HE := hide (tw_len inNumC s.data.toList k hk (unhide HT) hw)
      clear hw
      have HX := hide (ext_take s k)
      have i1 : (0 : Int) ≤ (k : Int) := by omega
      have i2 : (k : Int) ≤ (s.size : Int) := by omega
      have HK := hide hk'
      clear hk'
      go_wp2
      go_ret
      exact ⟨by rw [(unhide HE).1, ← unhide HX]; rfl, rfl⟩
set_option maxRecDepth 100000 in
set_option maxHeartbeats 2000000 in
theorem lead_run (s : ByteArray) (w : World) (hs : s.size ≤ maxLen) :
    Calls Tryz.prog 141 #[.string s, .func (.func 145) #[] #[]] w fun e w' => e = .returned (.string ⟨(s.data.toList.takeWhile inRunC).toArray⟩) ∧ w' = w := by
  unfold maxLen at hs
  have hsz : s.data.toList.length = s.size := rfl
  have HS := hide hsz
  clear hsz
  go_enter Tryz.func141, Tryz.ntmps141
  go_wp2
  go_loop [5] (fun i => ∃ k : Nat, k ≤ s.size ∧ i = .int .i64 k ∧ Hid ((s.data.toList.take k).all inRunC = true)) (fun i => s.size - (intOf i).toNat)
  case atStart => exact ⟨0, Nat.zero_le _, rfl, hide rfl⟩
  case round =>
    obtain ⟨k, hk, rfl, HT⟩ := hrel
    by_cases hlt : k < s.size
    · have HC := hide (fun w => inRun_val s[k] w)
      cases hg : inRunC s[k]
      · have hw := tw_here inRunC s k hlt hg
        have HE := hide (tw_len inRunC s.data.toList k hk (unhide HT) hw)
        rw [hg] at HC
        clear hg hw
        have HX := hide (ext_take s k)
        have i1 : (0 : Int) ≤ (k : Int) := by omega
        have i2 : (k : Int) ≤ (s.size : Int) := by omega
        go_wp2_with fail
        refine (unhide HC _).mono ?_
        rintro e w1 ⟨rfl, rfl⟩
        go_wp2
        go_ret
        exact ⟨by rw [(unhide HE).1, ← unhide HX]; rfl, rfl⟩
      · have hs' : Hid ((s.data.toList.take (k + 1)).all inRunC = true) := hide (by rw [take_snoc4 s k hlt, List.all_append, unhide HT, List.all_cons, hg]; rfl)
        rw [hg] at HC
        clear hg
        go_wp2_with fail
        refine (unhide HC _).mono ?_
        rintro e w1 ⟨rfl, rfl⟩
        go_wp2
        go_round
        case rel => exact ⟨k + 1, by omega, by go_num, hs'⟩
        case measure => simp [intOf]; omega
    · have hk' : k = s.size := by omega
      have hw : (s.data.toList.drop k).takeWhile inRunC = [] := by rw [List.drop_of_length_le (by rw [unhide HS]; omega)]; rfl
      have HE := hide (tw_len inRunC s.data.toList k hk (unhide HT) hw)
      clear hw
      have HX := hide (ext_take s k)
      have i1 : (0 : Int) ≤ (k : Int) := by omega
      have i2 : (k : Int) ≤ (s.size : Int) := by omega
      have HK := hide hk'
      clear hk'
      go_wp2
      go_ret
      exact ⟨by rw [(unhide HE).1, ← unhide HX]; rfl, rfl⟩
end Go.Proofs.YtloamahbghjjgaaGreatDoor
