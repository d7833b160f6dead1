/- The contracts of digits, number. -/
import Derived.Test.YtloamahbghjjgaaGreatDoorFxH
import Derived.Test.YtloamahbghjjgaaGreatDoorFxZ
namespace Go.Proofs.YtloamahbghjjgaaGreatDoor
open Go.RowKit

def isDig (c : UInt8) : Bool := decide (48 ≤ c.toNat) && decide (c.toNat ≤ 57)
theorem isDig_iff (c : UInt8) : isDig c = true ↔ 48 ≤ c.toNat ∧ c.toNat ≤ 57 := by unfold isDig; simp
def digB (l : List UInt8) : Bool := decide (1 ≤ l.length) && decide (l.length ≤ 18) && l.all isDig
def numL (l : List UInt8) : Nat := l.foldl (fun n c => n * 10 + (c.toNat - 48)) 0

theorem take_snoc (s : ByteArray) (k : Nat) (h : k < s.size) : s.data.toList.take (k + 1) = s.data.toList.take k ++ [s[k]] := by
  rw [List.take_succ_eq_append_getElem (by simpa using h)]; rfl
theorem numL_snoc (l : List UInt8) (c : UInt8) : numL (l ++ [c]) = numL l * 10 + (c.toNat - 48) := by
  unfold numL; rw [List.foldl_append]; rfl
theorem fold_lt : ∀ (l : List UInt8) (n : Nat), l.all isDig = true → l.foldl (fun n c => n * 10 + (c.toNat - 48)) n < (n + 1) * 10 ^ l.length
  | [], n, _ => by simp
  | c :: l, n, h => by
    rw [List.all_cons, Bool.and_eq_true, isDig_iff] at h
    have := fold_lt l (n * 10 + (c.toNat - 48)) h.2
    rw [List.foldl_cons, List.length_cons, Nat.pow_succ]
    have h2 : (n * 10 + (c.toNat - 48) + 1) * 10 ^ l.length ≤ ((n + 1) * 10) * 10 ^ l.length := Nat.mul_le_mul_right _ (by omega)
    rw [Nat.mul_comm (10 ^ l.length) 10, ← Nat.mul_assoc]
    omega
theorem numL_lt (l : List UInt8) (h : l.all isDig = true) : numL l < 10 ^ l.length := by
  have := fold_lt l 0 h
  unfold numL
  omega

set_option maxHeartbeats 1000000 in
theorem digits_any (s : ByteArray) (w : World) (hs : s.size ≤ maxLen) :
    Calls Tryz.prog 179 #[.string s] w fun e w' => e = .returned (.bool (digB s.data.toList)) ∧ w' = w := by
  unfold maxLen at hs
  have hsz : s.data.toList.length = s.size := rfl
  by_cases h1 : s.size < 1
  · have ho : digB s.data.toList = false := by unfold digB; rw [hsz]; simp; omega
    rw [ho]
    have HS := hide hsz
    have HO := hide ho
    clear hsz ho
    have h1' : (s.size : Int) < 1 := by omega
    go_enter Tryz.func179, Tryz.ntmps179
    go_wp2
    go_ret
    exact ⟨rfl, rfl⟩
  by_cases h2 : 18 < s.size
  · have ho : digB s.data.toList = false := by unfold digB; rw [hsz]; simp; omega
    rw [ho]
    have HS := hide hsz
    have HO := hide ho
    clear hsz ho
    have h1' : ¬ (s.size : Int) < 1 := by omega
    have h2' : 18 < (s.size : Int) := by omega
    go_enter Tryz.func179, Tryz.ntmps179
    go_wp2
    go_ret
    exact ⟨rfl, rfl⟩
  have ho : digB s.data.toList = s.data.toList.all isDig := by
    unfold digB; rw [hsz, decide_eq_true (by omega), decide_eq_true (by omega)]; rfl
  have HS := hide hsz
  have HO := hide ho
  clear hsz ho
  go_enter Tryz.func179, Tryz.ntmps179
  go_wp2
  go_loop [14] (fun i => ∃ k : Nat, k ≤ s.size ∧ i = .int .i64 k ∧ Hid ((s.data.toList.take k).all isDig = true)) (fun i => s.size - (intOf i).toNat)
  case atStart => exact ⟨0, Nat.zero_le _, rfl, hide rfl⟩
  case round =>
    obtain ⟨k, hk, rfl, HT⟩ := hrel
    by_cases hlt : k < s.size
    · have hsn := take_snoc s k hlt
      by_cases hg : isDig s[k] = true
      · have hs' : Hid ((s.data.toList.take (k + 1)).all isDig = true) := hide (by rw [hsn, List.all_append, unhide HT, List.all_cons, hg]; rfl)
        clear hsn
        rw [isDig_iff] at hg
        obtain ⟨g1, g2⟩ := hg
        go_wp2
        go_round
        case rel => exact ⟨k + 1, by omega, by go_num, hs'⟩
        case measure => simp [intOf]; omega
      · have hs' : Hid (s.data.toList.all isDig = false) := by
          refine hide (List.all_eq_false.2 ⟨s[k], ?_, hg⟩)
          have : s[k] = s.data.toList[k]'(by simpa using hlt) := rfl
          rw [this]
          exact List.getElem_mem _
        clear hsn
        rw [isDig_iff] at hg
        by_cases g1 : s[k].toNat < 48
        · go_wp2
          go_ret
          exact ⟨by rw [unhide HO, unhide hs']; rfl, rfl⟩
        · have g2 : 57 < s[k].toNat := by omega
          go_wp2
          go_ret
          exact ⟨by rw [unhide HO, unhide hs']; rfl, rfl⟩
    · have hs' : Hid (s.data.toList.all isDig = true) := by
        have e : s.data.toList.take k = s.data.toList := List.take_of_length_le (by rw [unhide HS]; omega)
        rw [e] at HT
        exact HT
      go_wp2
      go_ret
      exact ⟨by rw [unhide HO, unhide hs']; rfl, rfl⟩

set_option maxHeartbeats 1000000 in
theorem number_any (s : ByteArray) (w : World) (hs : s.size ≤ 18) (hd : s.data.toList.all isDig = true) :
    Calls Tryz.prog 181 #[.string s] w fun e w' => e = .returned (.int .u64 ((numL s.data.toList : Nat) : Int)) ∧ w' = w := by
  have hsz : s.data.toList.length = s.size := rfl
  have HS := hide hsz
  have HD := hide hd
  clear hsz hd
  go_enter Tryz.func181, Tryz.ntmps181
  go_wp2
  go_loop [3, 7] (fun n i => ∃ k : Nat, k ≤ s.size ∧ i = .int .i64 k ∧ n = .int .u64 ((numL (s.data.toList.take k) : Nat) : Int)) (fun _ i => s.size - (intOf i).toNat)
  case atStart => exact ⟨0, Nat.zero_le _, rfl, rfl⟩
  case round =>
    obtain ⟨k, hk, rfl, rfl⟩ := hrel
    by_cases hlt : k < s.size
    · have hsn := take_snoc s k hlt
      have hns : numL (s.data.toList.take (k + 1)) = numL (s.data.toList.take k) * 10 + (s[k].toNat - 48) := by rw [hsn, numL_snoc]
      have hak : (s.data.toList.take k).all isDig = true := by
        have := unhide HD
        rw [← List.take_append_drop k s.data.toList, List.all_append, Bool.and_eq_true] at this
        exact this.1
      have hkl : (s.data.toList.take k).length = k := by rw [List.length_take, unhide HS]; omega
      have hb := numL_lt _ hak
      rw [hkl] at hb
      have hp : 10 ^ k ≤ 10 ^ 17 := Nat.pow_le_pow_right (by omega) (by omega)
      have hx : (10 ^ 17 : Nat) = 100000000000000000 := by decide
      have hb' : numL (s.data.toList.take k) < 100000000000000000 := by omega
      have hg : isDig s[k] = true := by
        have h := unhide HD
        rw [List.all_eq_true] at h
        exact h s[k] (by
          have : s[k] = s.data.toList[k]'(by simpa using hlt) := rfl
          rw [this]
          exact List.getElem_mem _)
      rw [isDig_iff] at hg
      obtain ⟨g1, g2⟩ := hg
      have HN := hide hns
      have HSN := hide hsn
      clear hns hsn hak hkl hb hp hx
      generalize hN : numL (s.data.toList.take k) = N at *
      have HNN := hide hN
      clear hN
      go_wp2
      go_round
      case rel => exact ⟨k + 1, by omega, by go_num, by rw [unhide HN]; exact int_eq (by omega)⟩
      case measure => simp [intOf]; omega
    · have e : s.data.toList.take k = s.data.toList := List.take_of_length_le (by rw [unhide HS]; omega)
      rw [e]
      go_wp2
      go_ret
      exact ⟨rfl, rfl⟩
end Go.Proofs.YtloamahbghjjgaaGreatDoor

namespace Go.Proofs.YtloamahbghjjgaaGreatDoor
open Go.RowKit

/-- The cell of internal/bytealg.MaxLen holds an int. -/
abbrev lenCell (w : World) : Prop := ∃ m : Int, w.cell? ⟨6, 0, none⟩ = some (.int .i64 m)

def wholeOf (l : List UInt8) : List UInt8 := (Lib.cut (Lib.trimPrefix l [45]) [46]).1
def partOf (l : List UInt8) : List UInt8 := (Lib.cut (Lib.trimPrefix l [45]) [46]).2.1
def dotOf (l : List UInt8) : Bool := (Lib.cut (Lib.trimPrefix l [45]) [46]).2.2
def negOf (l : List UInt8) : Bool := Lib.hasPrefix l [45]
def formB (l : List UInt8) : Bool := digB (wholeOf l) && (!dotOf l || digB (partOf l))
def partsOf (l : List UInt8) : Nat := nrV (numL (wholeOf l)) 10000 1 + nrV (numL (partOf l)) 10000 (10 ^ (partOf l).length)
def parseR (l : List UInt8) : Int × Int :=
  if formB l = true then (if nrOk (numL (wholeOf l)) 10000 1 = true then (sgnN (negOf l) (partsOf l : Nat), sgnE (partsOf l : Nat)) else (0, 5)) else (0, 4)

theorem trimPrefix_len (l : List UInt8) : (Lib.trimPrefix l [45]).length ≤ l.length := by
  unfold Lib.trimPrefix; split
  · simp
  · omega
theorem cut_lens (l : List UInt8) : (Lib.cut l [46]).1.length ≤ l.length ∧ (Lib.cut l [46]).2.1.length ≤ l.length ∧ ((Lib.cut l [46]).2.2 = false → (Lib.cut l [46]).2.1 = []) := by
  unfold Lib.cut; split
  · refine ⟨by simp; omega, by simp, by simp⟩
  · refine ⟨by simp, by simp, by simp⟩
theorem part_facts (l : List UInt8) (h : formB l = true) : (partOf l).length ≤ 18 ∧ (partOf l).all isDig = true ∧ (wholeOf l).length ≤ 18 ∧ (wholeOf l).all isDig = true := by
  unfold formB at h
  rw [Bool.and_eq_true] at h
  obtain ⟨h1, h2⟩ := h
  have hd : ∀ x : List UInt8, digB x = true → x.length ≤ 18 ∧ x.all isDig = true := by
    intro x hx
    unfold digB at hx
    rw [Bool.and_eq_true, Bool.and_eq_true] at hx
    exact ⟨of_decide_eq_true hx.1.2, hx.2⟩
  refine ⟨?_, ?_, (hd _ h1).1, (hd _ h1).2⟩
  · cases hdot : dotOf l
    · have := (cut_lens (Lib.trimPrefix l [45])).2.2 hdot
      unfold partOf; rw [this]; simp
    · rw [hdot] at h2; exact (hd _ h2).1
  · cases hdot : dotOf l
    · have := (cut_lens (Lib.trimPrefix l [45])).2.2 hdot
      unfold partOf; rw [this]; rfl
    · rw [hdot] at h2; exact (hd _ h2).2

theorem frac_le (x z : Nat) (h : x < z) : nrV x 10000 z ≤ 10000 := by
  unfold nrV
  have hz : 0 < z := by omega
  have h1 : x * 10000 / z ≤ 9999 := by
    have : x * 10000 / z < 10000 := by
      rw [Nat.div_lt_iff_lt_mul hz, Nat.mul_comm 10000 z]
      exact Nat.mul_lt_mul_of_pos_right h (by omega)
    omega
  split
  · split <;> omega
  · omega
theorem cut45 (s : ByteArray) (l : List UInt8) (w : World) (hl : s.data.toList = l) :
    Calls Tryz.prog 177 #[.string s, .string ⟨#[45]⟩] w fun e w' => e = .returned (.tuple #[.string ⟨(Lib.trimPrefix l [45]).toArray⟩, .bool (negOf l)]) ∧ w' = w := by
  subst hl
  exact Tryz.strings_CutPrefix s ⟨#[45]⟩ w
theorem cut46 (l : List UInt8) (w : World) (hl : (Lib.trimPrefix l [45]).length < 4294967281) (hm : lenCell w) :
    Calls Tryz.prog 178 #[.string ⟨(Lib.trimPrefix l [45]).toArray⟩, .string ⟨#[46]⟩] w fun e w' => e = .returned (.tuple #[.string ⟨(wholeOf l).toArray⟩, .string ⟨(partOf l).toArray⟩, .bool (dotOf l)]) ∧ ∃ n, w' = w.drewN n := by
  obtain ⟨m, hm⟩ := hm
  exact Tryz.strings_Cut ⟨(Lib.trimPrefix l [45]).toArray⟩ ⟨#[46]⟩ m w hl hm
theorem digits_list (x : List UInt8) (w : World) (hx : x.length ≤ 4294967281) :
    Calls Tryz.prog 179 #[.string ⟨x.toArray⟩] w fun e w' => e = .returned (.bool (digB x)) ∧ w' = w :=
  digits_any ⟨x.toArray⟩ w (by unfold maxLen; show x.length ≤ _; omega)
theorem number_list (x : List UInt8) (w : World) (hx : x.length ≤ 18) (hd : x.all isDig = true) :
    Calls Tryz.prog 181 #[.string ⟨x.toArray⟩] w fun e w' => e = .returned (.int .u64 ((numL x : Nat) : Int)) ∧ w' = w :=
  number_any ⟨x.toArray⟩ w hx hd
theorem numL_18 (x : List UInt8) (hx : x.length ≤ 18) (hd : x.all isDig = true) : numL x < 1000000000000000000 := by
  have h := numL_lt x hd
  have hp : 10 ^ x.length ≤ 10 ^ 18 := Nat.pow_le_pow_right (by omega) hx
  have e : (10 ^ 18 : Nat) = 1000000000000000000 := by decide
  omega

set_option maxHeartbeats 1000000 in
theorem parse_any (s : ByteArray) (w : World) (hs : s.size < 4294967281) (hm : lenCell w) :
    Calls Tryz.prog 143 #[.string s] w fun e w' => e = .returned (.tuple #[.int .i64 (parseR s.data.toList).1, .int .i64 (parseR s.data.toList).2]) ∧ Below w.heap.size w w' := by
  obtain ⟨l, hl⟩ : ∃ l, s.data.toList = l := ⟨_, rfl⟩
  have hsz : s.size = l.length := by rw [← hl]; rfl
  obtain ⟨c1, c2, c3⟩ := cut_lens (Lib.trimPrefix l [45])
  have ct := trimPrefix_len l
  have hwl : (wholeOf l).length ≤ 4294967281 := by unfold wholeOf; omega
  have hpl : (partOf l).length ≤ 4294967281 := by unfold partOf; omega
  rw [hl]
  have HM := hide hm
  have HL := hide hl
  have HTL : Hid ((Lib.trimPrefix l [45]).length < 4294967281) := hide (by omega)
  clear hm hl c1 c2 c3 ct hsz
  cases hf : formB l
  · have hs : parseR l = (0, 4) := by unfold parseR; rw [hf]; rfl
    rw [hs]
    unfold formB at hf
    cases hw : digB (wholeOf l)
    · have HW := hide hw
      clear hs hf hw
      go_enter Tryz.func143, Tryz.ntmps143
      go_wp2_with fail
      refine (cut45 s l _ (unhide HL)).mono ?_
      rintro e w' ⟨rfl, rfl⟩
      go_wp2_with fail
      refine (cut46 l _ (unhide HTL) (unhide HM)).mono ?_
      rintro e w2 ⟨rfl, n, rfl⟩
      go_wp2_with fail
      refine (digits_list (wholeOf l) _ hwl).mono ?_
      rintro e w3 ⟨rfl, rfl⟩
      rw [unhide HW]
      go_wp2
      go_ret2
      exact ⟨rfl, below_drewN (Below.refl _ _) _⟩
    · have hdt : dotOf l = true := by
        rw [hw] at hf
        cases hd : dotOf l
        · rw [hd] at hf; cases hf
        · rfl
      have hpt : digB (partOf l) = false := by rw [hw, hdt] at hf; exact hf
      have HW := hide hw
      have HPT := hide hpt
      clear hs hf hw hpt
      go_enter Tryz.func143, Tryz.ntmps143
      go_wp2_with fail
      refine (cut45 s l _ (unhide HL)).mono ?_
      rintro e w' ⟨rfl, rfl⟩
      go_wp2_with fail
      refine (cut46 l _ (unhide HTL) (unhide HM)).mono ?_
      rintro e w2 ⟨rfl, n, rfl⟩
      go_wp2_with fail
      refine (digits_list (wholeOf l) _ hwl).mono ?_
      rintro e w3 ⟨rfl, rfl⟩
      rw [unhide HW]
      go_wp2_with fail
      refine (digits_list (partOf l) _ hpl).mono ?_
      rintro e w4 ⟨rfl, rfl⟩
      rw [unhide HPT]
      go_wp2
      go_ret2
      exact ⟨rfl, below_drewN (Below.refl _ _) _⟩
  · obtain ⟨p1, p2, p3, p4⟩ := part_facts l hf
    have n1 := numL_18 _ p1 p2
    have n3 := numL_18 _ p3 p4
    have P2 := hide p2
    have P4 := hide p4
    have HF := hide hf
    have hw : digB (wholeOf l) = true := by unfold formB at hf; rw [Bool.and_eq_true] at hf; exact hf.1
    have HW := hide hw
    have hpt : dotOf l = true → digB (partOf l) = true := by
      intro hd
      unfold formB at hf; rw [Bool.and_eq_true, hd] at hf; exact hf.2
    have HPT := hide hpt
    clear p2 p4 hf hw hpt hs
    have hp0 : 0 < 10 ^ (partOf l).length := Nat.pow_pos (by omega)
    have hp9 : 10 ^ (partOf l).length ≤ 10 ^ 18 := Nat.pow_le_pow_right (by omega) p1
    have e18 : (10 ^ 18 : Nat) = 1000000000000000000 := by decide
    rw [e18] at hp9
    clear e18
    have hv1 := nrV_le (numL (wholeOf l)) 10000 1
    have hv2 := frac_le (numL (partOf l)) (10 ^ (partOf l).length) (numL_lt _ (unhide P2))
    cases hk : nrOk (numL (wholeOf l)) 10000 1
    · have hs : parseR l = (0, 5) := by unfold parseR; rw [unhide HF, hk]; rfl
      have HK := hide hk
      rw [hs]
      clear hk hs
      cases hd : dotOf l
      · have HDD := hide hd
        go_enter Tryz.func143, Tryz.ntmps143
        go_wp2_with fail
        refine (cut45 s l _ (unhide HL)).mono ?_
        rintro e w' ⟨rfl, rfl⟩
        go_wp2_with fail
        refine (cut46 l _ (unhide HTL) (unhide HM)).mono ?_
        rintro e w2 ⟨rfl, n, rfl⟩
        go_wp2_with fail
        refine (digits_list (wholeOf l) _ hwl).mono ?_
        rintro e w3 ⟨rfl, rfl⟩
        rw [unhide HW]
        go_wp2_with fail
        refine (number_list (wholeOf l) _ p3 (unhide P4)).mono ?_
        rintro e w5 ⟨rfl, rfl⟩
        go_wp2_with fail
        refine (nearest_any (numL (wholeOf l)) 10000 1 _ (by omega) (by omega) (by omega) (by omega)).mono ?_
        rintro e w6 ⟨rfl, hb⟩
        rw [unhide HK]
        go_wp2
        go_ret2
        exact ⟨rfl, below_then (below_drewN (Below.refl _ _) _) hb⟩
      · have HP2 := hide ((unhide HPT) hd)
        go_enter Tryz.func143, Tryz.ntmps143
        go_wp2_with fail
        refine (cut45 s l _ (unhide HL)).mono ?_
        rintro e w' ⟨rfl, rfl⟩
        go_wp2_with fail
        refine (cut46 l _ (unhide HTL) (unhide HM)).mono ?_
        rintro e w2 ⟨rfl, n, rfl⟩
        go_wp2_with fail
        refine (digits_list (wholeOf l) _ hwl).mono ?_
        rintro e w3 ⟨rfl, rfl⟩
        rw [unhide HW]
        go_wp2_with fail
        refine (digits_list (partOf l) _ hpl).mono ?_
        rintro e w4 ⟨rfl, rfl⟩
        rw [unhide HP2]
        go_wp2_with fail
        refine (number_list (wholeOf l) _ p3 (unhide P4)).mono ?_
        rintro e w5 ⟨rfl, rfl⟩
        go_wp2_with fail
        refine (nearest_any (numL (wholeOf l)) 10000 1 _ (by omega) (by omega) (by omega) (by omega)).mono ?_
        rintro e w6 ⟨rfl, hb⟩
        rw [unhide HK]
        go_wp2
        go_ret2
        exact ⟨rfl, below_then (below_drewN (Below.refl _ _) _) hb⟩
    · have hs : parseR l = (sgnN (negOf l) (partsOf l : Nat), sgnE (partsOf l : Nat)) := by unfold parseR; rw [unhide HF, hk]; rfl
      have HK := hide hk
      have HPO : Hid (partsOf l = nrV (numL (wholeOf l)) 10000 1 + nrV (numL (partOf l)) 10000 (10 ^ (partOf l).length)) := hide rfl
      rw [hs]
      clear hk hs
      cases hd : dotOf l
      · have HDD := hide hd
        go_enter Tryz.func143, Tryz.ntmps143
        go_wp2_with fail
        refine (cut45 s l _ (unhide HL)).mono ?_
        rintro e w' ⟨rfl, rfl⟩
        go_wp2_with fail
        refine (cut46 l _ (unhide HTL) (unhide HM)).mono ?_
        rintro e w2 ⟨rfl, n, rfl⟩
        go_wp2_with fail
        refine (digits_list (wholeOf l) _ hwl).mono ?_
        rintro e w3 ⟨rfl, rfl⟩
        rw [unhide HW]
        go_wp2_with fail
        refine (number_list (wholeOf l) _ p3 (unhide P4)).mono ?_
        rintro e w5 ⟨rfl, rfl⟩
        go_wp2_with fail
        refine (nearest_any (numL (wholeOf l)) 10000 1 _ (by omega) (by omega) (by omega) (by omega)).mono ?_
        rintro e w6 ⟨rfl, hb⟩
        rw [unhide HK]
        go_wp2_with fail
        refine (number_list (partOf l) _ p1 (unhide P2)).mono ?_
        rintro e w7 ⟨rfl, rfl⟩
        go_wp2_with fail
        refine (power_any (partOf l).length _ (by omega)).mono ?_
        rintro e w8 ⟨rfl, rfl⟩
        go_wp2_with fail
        refine (nearest_any (numL (partOf l)) 10000 (10 ^ (partOf l).length) _ (by omega) (by omega) hp0 (by omega)).mono ?_
        rintro e w9 ⟨rfl, hb2⟩
        go_wp2_with fail
        refine (signed_any (negOf l) _ _ (by omega) (by omega)).mono ?_
        rintro e w10 ⟨rfl, rfl⟩
        go_wp2
        go_ret2
        exact ⟨by rw [unhide HPO]; rfl, below_then (below_then (below_drewN (Below.refl _ _) _) hb) hb2⟩
      · have HP2 := hide ((unhide HPT) hd)
        go_enter Tryz.func143, Tryz.ntmps143
        go_wp2_with fail
        refine (cut45 s l _ (unhide HL)).mono ?_
        rintro e w' ⟨rfl, rfl⟩
        go_wp2_with fail
        refine (cut46 l _ (unhide HTL) (unhide HM)).mono ?_
        rintro e w2 ⟨rfl, n, rfl⟩
        go_wp2_with fail
        refine (digits_list (wholeOf l) _ hwl).mono ?_
        rintro e w3 ⟨rfl, rfl⟩
        rw [unhide HW]
        go_wp2_with fail
        refine (digits_list (partOf l) _ hpl).mono ?_
        rintro e w4 ⟨rfl, rfl⟩
        rw [unhide HP2]
        go_wp2_with fail
        refine (number_list (wholeOf l) _ p3 (unhide P4)).mono ?_
        rintro e w5 ⟨rfl, rfl⟩
        go_wp2_with fail
        refine (nearest_any (numL (wholeOf l)) 10000 1 _ (by omega) (by omega) (by omega) (by omega)).mono ?_
        rintro e w6 ⟨rfl, hb⟩
        rw [unhide HK]
        go_wp2_with fail
        refine (number_list (partOf l) _ p1 (unhide P2)).mono ?_
        rintro e w7 ⟨rfl, rfl⟩
        go_wp2_with fail
        refine (power_any (partOf l).length _ (by omega)).mono ?_
        rintro e w8 ⟨rfl, rfl⟩
        go_wp2_with fail
        refine (nearest_any (numL (partOf l)) 10000 (10 ^ (partOf l).length) _ (by omega) (by omega) hp0 (by omega)).mono ?_
        rintro e w9 ⟨rfl, hb2⟩
        go_wp2_with fail
        refine (signed_any (negOf l) _ _ (by omega) (by omega)).mono ?_
        rintro e w10 ⟨rfl, rfl⟩
        go_wp2
        go_ret2
        exact ⟨by rw [unhide HPO]; rfl, below_then (below_then (below_drewN (Below.refl _ _) _) hb) hb2⟩
end Go.Proofs.YtloamahbghjjgaaGreatDoor

namespace Go.Proofs.YtloamahbghjjgaaGreatDoor

theorem cut_none : ∀ (l : List UInt8), (∀ c, c ∈ l → c ≠ 46) → Lib.cut l [46] = (l, [], false) := by
  intro l h
  have hi : Lib.index l [46] = -1 := by
    induction l with
    | nil => rfl
    | cons b l ih =>
      have hb : b ≠ 46 := h b (by simp)
      have := ih (fun c hc => h c (by simp [hc]))
      unfold Lib.index
      rw [this]
      have e : ([46] : List UInt8).isPrefixOf (b :: l) = false := by simp [List.isPrefixOf, Ne.symm hb]
      rw [e]; rfl
  unfold Lib.cut
  rw [hi]; rfl

theorem cut_at (l r : List UInt8) (h : ∀ c, c ∈ l → c ≠ 46) : Lib.cut (l ++ 46 :: r) [46] = (l, r, true) := by
  have hi : Lib.index (l ++ 46 :: r) [46] = (l.length : Int) := by
    induction l with
    | nil => unfold Lib.index; simp [List.isPrefixOf]
    | cons b l ih =>
      have hb : b ≠ 46 := h b (by simp)
      have := ih (fun c hc => h c (by simp [hc]))
      rw [List.cons_append]
      unfold Lib.index
      rw [this]
      have e : ([46] : List UInt8).isPrefixOf (b :: (l ++ 46 :: r)) = false := by simp [List.isPrefixOf, Ne.symm hb]
      have e2 : ((l.length : Int) == -1) = false := by rw [beq_eq_false_iff_ne]; omega
      rw [e, e2]
      simp
  unfold Lib.cut
  rw [hi, if_pos (by omega)]
  simp

theorem dig_of (n : Nat) (h : n < 10) : isDig (UInt8.ofNat (48 + n)) = true ∧ (UInt8.ofNat (48 + n)).toNat - 48 = n := by
  have e : (UInt8.ofNat (48 + n)).toNat = 48 + n := by rw [UInt8.toNat_ofNat']; omega
  refine ⟨?_, by omega⟩
  rw [isDig_iff]; omega

theorem dec_spec (u : Nat) : (Lib.decDigits u).all isDig = true ∧ numL (Lib.decDigits u) = u := by
  induction u using Nat.strongRecOn with
  | ind u ih =>
    rw [Lib.decDigits]
    by_cases h : u < 10
    · rw [dif_pos h]
      obtain ⟨d1, d2⟩ := dig_of u h
      refine ⟨by rw [List.all_cons, d1]; rfl, ?_⟩
      have e := numL_snoc [] (UInt8.ofNat (48 + u))
      rw [List.nil_append] at e
      rw [e, d2]
      show 0 * 10 + u = u
      omega
    · rw [dif_neg h]
      obtain ⟨i1, i2⟩ := ih (u / 10) (by omega)
      obtain ⟨d1, d2⟩ := dig_of (u % 10) (by omega)
      refine ⟨by rw [List.all_append, i1, List.all_cons, d1]; rfl, ?_⟩
      rw [numL_snoc, i2, d2]; omega

theorem numL_cons (c : UInt8) (l : List UInt8) : numL (c :: l) = (c.toNat - 48) * 10 ^ l.length + numL l := by
  have gen : ∀ (l : List UInt8) (n : Nat), l.foldl (fun n c => n * 10 + (c.toNat - 48)) n = n * 10 ^ l.length + numL l := by
    intro l
    induction l with
    | nil => intro n; simp [numL]
    | cons d l ih =>
      intro n
      rw [List.foldl_cons, ih, List.length_cons, Nat.pow_succ]
      have e : numL (d :: l) = (d.toNat - 48) * 10 ^ l.length + numL l := by
        show (d :: l).foldl _ 0 = _
        rw [List.foldl_cons, ih]; simp
      rw [e, Nat.add_mul, Nat.mul_assoc, Nat.mul_comm 10 (10 ^ l.length)]
      omega
  show (c :: l).foldl _ 0 = _
  rw [List.foldl_cons, gen]; simp

theorem numL_zeros (l : List UInt8) (z : Nat) : numL (l ++ List.replicate z 48) = numL l * 10 ^ z := by
  induction z with
  | zero => simp
  | succ z ih =>
    rw [List.replicate_succ', ← List.append_assoc, numL_snoc, ih, Nat.pow_succ, Nat.mul_assoc]
    rfl

theorem tw_zeros (l : List UInt8) : ∃ n, l.takeWhile (· == 48) = List.replicate n 48 := by
  induction l with
  | nil => exact ⟨0, rfl⟩
  | cons c l ih =>
    obtain ⟨n, hn⟩ := ih
    by_cases h : (c == 48) = true
    · refine ⟨n + 1, ?_⟩
      rw [List.takeWhile_cons, if_pos h, hn, List.replicate_succ, beq_iff_eq.1 h]
    · exact ⟨0, by rw [List.takeWhile_cons, if_neg h]; rfl⟩
theorem trim_zeros (l : List UInt8) : ∃ z, l = Lib.trimRightB l 48 ++ List.replicate z 48 := by
  unfold Lib.trimRightB
  obtain ⟨n, hn⟩ := tw_zeros l.reverse
  have h := List.takeWhile_append_dropWhile (p := (· == (48 : UInt8))) (l := l.reverse)
  have h3 := congrArg List.reverse h
  rw [List.reverse_append, List.reverse_reverse, hn, List.reverse_replicate] at h3
  exact ⟨n, h3.symm⟩

/-- The digits behind the stop, of r parts. -/
theorem frac_spec (r : Nat) (h0 : 0 < r) (h1 : r < 10000) :
    digB (Lib.trimRightB ((Lib.decDigits (10000 + r)).drop 1) 48) = true ∧
      nrV (numL (Lib.trimRightB ((Lib.decDigits (10000 + r)).drop 1) 48)) 10000 (10 ^ (Lib.trimRightB ((Lib.decDigits (10000 + r)).drop 1) 48).length) = r := by
  obtain ⟨a1, a2⟩ := dec_spec (10000 + r)
  have hl : (Lib.decDigits (10000 + r)).length = 5 := by
    rw [Lib.decDigits_length]
    exact Lib.nDigits_unique 4 (10000 + r) (by omega) (by omega)
  generalize Lib.decDigits (10000 + r) = E at *
  match E, hl with
  | c :: F, hl =>
    have hF : F.length = 4 := by simpa using hl
    rw [List.all_cons, Bool.and_eq_true, isDig_iff] at a1
    rw [numL_cons, hF] at a2
    have hFb := numL_lt F a1.2
    rw [hF] at hFb
    have hc : numL F = r := by omega
    rw [List.drop_one, List.tail_cons]
    obtain ⟨z, hz⟩ := trim_zeros F
    generalize Lib.trimRightB F 48 = T at *
    have hlen : T.length + z = 4 := by have := congrArg List.length hz; simp at this; omega
    have hnum : numL T * 10 ^ z = r := by rw [← numL_zeros, ← hz]; exact hc
    have hall : T.all isDig = true := by
      have := a1.2
      rw [hz, List.all_append, Bool.and_eq_true] at this
      exact this.1
    have hne : 1 ≤ T.length := by
      rcases Nat.eq_zero_or_pos T.length with h | h
      · have : T = [] := List.eq_nil_of_length_eq_zero h
        subst this
        have e : numL [] = 0 := rfl
        rw [e] at hnum; omega
      · exact h
    refine ⟨?_, ?_⟩
    · unfold digB
      rw [decide_eq_true hne, decide_eq_true (by omega), hall]; rfl
    · have e : numL T * 10000 = r * 10 ^ T.length := by
        have e4 : (10000 : Nat) = 10 ^ z * 10 ^ T.length := by rw [← Nat.pow_add, Nat.add_comm z, hlen]
        rw [e4, ← Nat.mul_assoc, hnum]
      have hp : 0 < 10 ^ T.length := Nat.pow_pos (by omega)
      unfold nrV nrOk
      rw [e, Nat.mul_div_cancel _ hp, Nat.mul_mod_left, decide_eq_true (by omega), if_pos rfl, if_neg (by omega)]
      omega
theorem dec_noStop (u : Nat) : ∀ c, c ∈ Lib.decDigits u → c ≠ 46 ∧ c ≠ 45 := by
  intro c hc
  have h := (dec_spec u).1
  rw [List.all_eq_true] at h
  have := h c hc
  rw [isDig_iff] at this
  constructor
  · intro e; subst e; revert this; decide
  · intro e; subst e; revert this; decide

theorem dec_len' (u : Nat) : 1 ≤ (Lib.decDigits u).length := by rw [Lib.decDigits_length]; exact Lib.nDigits_pos u
theorem dec_lo (u : Nat) (h : 0 < u) : 10 ^ (Lib.nDigits u - 1) ≤ u := by
  induction u using Nat.strongRecOn with
  | ind u ih =>
    by_cases h10 : u < 10
    · rw [Lib.nDigits_small h10]; simp; omega
    · rw [Lib.nDigits_big h10]
      have := ih (u / 10) (by omega) (by omega)
      have hp := Lib.nDigits_pos (u / 10)
      rw [show Lib.nDigits (u / 10) + 1 - 1 = (Lib.nDigits (u / 10) - 1) + 1 by omega, Nat.pow_succ]
      omega

/-- What is shown of p parts is cut, and reckoned, to p parts. -/
theorem abs_spec (p : Nat) (hp : p ≤ 9000000000000000000) (l : List UInt8) (hl : Lib.trimPrefix l [45] = absL p) :
    formB l = true ∧ nrOk (numL (wholeOf l)) 10000 1 = true ∧ partsOf l = p := by
  have hns := dec_noStop (p / 10000)
  obtain ⟨d1, d2⟩ := dec_spec (p / 10000)
  have hdl := dec_len (p / 10000) (by omega)
  have hd18 : (Lib.decDigits (p / 10000)).length ≤ 18 := by
    rw [Lib.decDigits_length]
    rcases Nat.lt_or_ge 18 (Lib.nDigits (p / 10000)) with h | h
    · have hlo := dec_lo (p / 10000) (by
        rcases Nat.eq_zero_or_pos (p / 10000) with h0 | h0
        · rw [h0] at h; exact absurd h (by decide +kernel)
        · exact h0)
      have : 10 ^ 18 ≤ 10 ^ (Lib.nDigits (p / 10000) - 1) := Nat.pow_le_pow_right (by omega) (by omega)
      have e : (10 ^ 18 : Nat) = 1000000000000000000 := by decide
      omega
    · exact h
  have hD : digB (Lib.decDigits (p / 10000)) = true := by
    unfold digB; rw [decide_eq_true hdl.1, decide_eq_true hd18, d1]; rfl
  have hq : nrOk (p / 10000) 10000 1 = true ∧ nrV (p / 10000) 10000 1 = p / 10000 * 10000 := by
    unfold nrV nrOk
    rw [Nat.div_one, Nat.mod_one, decide_eq_true (by omega), if_pos rfl, if_neg (by omega)]
    exact ⟨rfl, Nat.add_zero _⟩
  by_cases hr : p % 10000 = 0
  · have ea : absL p = Lib.decDigits (p / 10000) := by unfold absL fracL; rw [if_pos hr, List.append_nil]
    have ec : Lib.cut (Lib.trimPrefix l [45]) [46] = (Lib.decDigits (p / 10000), [], false) := by
      rw [hl, ea]; exact cut_none _ (fun c hc => (hns c hc).1)
    unfold formB partsOf wholeOf partOf dotOf
    rw [ec]
    refine ⟨by rw [hD]; rfl, by rw [d2]; exact hq.1, ?_⟩
    rw [d2, hq.2]
    have e0 : nrV (numL []) 10000 (10 ^ ([] : List UInt8).length) = 0 := by decide +kernel
    rw [e0]; omega
  · have ea : absL p = Lib.decDigits (p / 10000) ++ 46 :: Lib.trimRightB ((Lib.decDigits (10000 + p % 10000)).drop 1) 48 := by unfold absL fracL; rw [if_neg hr]
    obtain ⟨f1, f2⟩ := frac_spec (p % 10000) (by omega) (by omega)
    have ec : Lib.cut (Lib.trimPrefix l [45]) [46] = (Lib.decDigits (p / 10000), Lib.trimRightB ((Lib.decDigits (10000 + p % 10000)).drop 1) 48, true) := by
      rw [hl, ea]; exact cut_at _ _ (fun c hc => (hns c hc).1)
    unfold formB partsOf wholeOf partOf dotOf
    rw [ec]
    refine ⟨by rw [hD, f1]; rfl, by rw [d2]; exact hq.1, ?_⟩
    rw [d2, hq.2, f2]; omega

theorem abs_head (p : Nat) : Lib.hasPrefix (absL p) [45] = false := by
  unfold absL
  have h := (dec_len' (p / 10000))
  have hns := dec_noStop (p / 10000)
  generalize Lib.decDigits (p / 10000) = D at *
  match D, h with
  | c :: D, _ =>
    have := (hns c (by simp)).2
    unfold Lib.hasPrefix
    simp [List.isPrefixOf, Ne.symm this]

theorem sgn_small (b : Bool) (p : Nat) (h : p ≤ 9000000000000000000) : sgnN b (p : Int) = (if b = true then -(p : Int) else (p : Int)) ∧ sgnE (p : Int) = 0 := by
  unfold sgnN sgnE
  have h' : ¬ (9000000000000000000 : Int) < (p : Int) := by omega
  rw [if_neg h', if_neg h']
  exact ⟨rfl, rfl⟩

/-- A good number is read back from its text. -/
theorem parse_text (a : Int) (h : goodB a = true) : parseR (textL a) = (a, 0) := by
  have hg := (goodB_iff a).1 h
  by_cases hn : a < 0
  · have et : textL a = 45 :: absL a.natAbs := by unfold textL; rw [if_pos h, if_pos hn]
    have hneg : negOf (textL a) = true := by rw [et]; unfold negOf Lib.hasPrefix; simp [List.isPrefixOf]
    have htr : Lib.trimPrefix (textL a) [45] = absL a.natAbs := by
      unfold Lib.trimPrefix
      have : Lib.hasPrefix (textL a) [45] = true := hneg
      rw [this, if_pos rfl, et]; rfl
    obtain ⟨s1, s2, s3⟩ := abs_spec a.natAbs (by omega) _ htr
    unfold parseR
    rw [if_pos s1, if_pos s2, s3, hneg]
    rw [(sgn_small true a.natAbs (by omega)).1, (sgn_small true a.natAbs (by omega)).2]
    exact Prod.ext (by show -(a.natAbs : Int) = a; omega) rfl
  · have et : textL a = absL a.natAbs := by unfold textL; rw [if_pos h, if_neg hn]
    have hneg : negOf (textL a) = false := by rw [et]; exact abs_head _
    have htr : Lib.trimPrefix (textL a) [45] = absL a.natAbs := by
      unfold Lib.trimPrefix
      have : Lib.hasPrefix (textL a) [45] = false := hneg
      rw [this, et]; rfl
    obtain ⟨s1, s2, s3⟩ := abs_spec a.natAbs (by omega) _ htr
    unfold parseR
    rw [if_pos s1, if_pos s2, s3, hneg]
    rw [(sgn_small false a.natAbs (by omega)).1, (sgn_small false a.natAbs (by omega)).2]
    exact Prod.ext (by show (a.natAbs : Int) = a; omega) rfl

theorem text_len (a : Int) : (textL a).length ≤ 100 := by
  unfold textL
  split
  · rename_i h
    have hg := (goodB_iff a).1 h
    have hx : (absL a.natAbs).length ≤ 60 := by
      unfold absL fracL
      have h1 := (dec_len (a.natAbs / 10000) (by omega)).2
      have h2 := (dec_len (10000 + a.natAbs % 10000) (by omega)).2
      have h3 := trim_len ((Lib.decDigits (10000 + a.natAbs % 10000)).drop 1)
      rw [List.length_drop] at h3
      rw [List.length_append]
      split
      · simp; omega
      · rw [List.length_cons]; omega
    split
    · rw [List.length_cons]; omega
    · omega
  · simp
end Go.Proofs.YtloamahbghjjgaaGreatDoor
