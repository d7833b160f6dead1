/- The contracts of digits, number. -/
import Derived.BigQuiet
import Derived.BigRegion
import Derived.Deep.CutBlock
import Derived.Deep.CutRange
import Derived.Deep.DeepFit
import Derived.Deep.QuietTactic
import Derived.Laws.Bits64b
import Derived.Lib.BitFns
import Derived.Lib.ItoaMem
import Derived.Lib.ItoaNum
import Derived.Lib.Walk
import Derived.Shelf.Bits.Mul64
import Derived.Shelf.LaysM
import Derived.Shelf.Small.Bits
import Derived.Shelf.Small.Strs
import Derived.Shelf.Small.Wraps
import Derived.Shelf.Strconv.Itoa0
import Derived.Shelf.Strconv.Itoa1
import Derived.Shelf.Strconv.Itoa2
import Derived.Shelf.Strings.AsciiSet
import Derived.Shelf.Strings.Cut
import Derived.Shelf.Strings.Prefix
import Derived.Shelf.Strings.Search1
import Derived.Shelf.Strings.Search2
import Derived.Shelf.Strings.Shaped
import Derived.Shelf.Strings.Trim
import Derived.Test.YtbeijnflfmjgfaaGreatDoorProg
import Derived.Test.YtbeijnflfmjgfaaGreatDoorRows
import Derived.WalkKit
import Derived.WalkLawsBesides
import Derived.WalkSmall
import Derived.WalkSpells
import Derived.Test.YtbeijnflfmjgfaaGreatDoorZnAA
import Derived.Test.YtbeijnflfmjgfaaGreatDoorZnAB
import Derived.Test.YtbeijnflfmjgfaaGreatDoorZnAD
import Derived.Test.YtbeijnflfmjgfaaGreatDoorZnAE
import Derived.Test.YtbeijnflfmjgfaaGreatDoorZnAC
namespace Go.Proofs.YtbeijnflfmjgfaaGreatDoor
open Go.RowKit

def isDig (c : UInt8) : Bool := decide (48 ≤ c.toNat) && decide (c.toNat ≤ 57)
theorem isDig_iff (c : UInt8) : isDig c = true ↔ 48 ≤ c.toNat ∧ c.toNat ≤ 57 := by unfold isDig; simp
def digB (l : List UInt8) : Bool := decide (1 ≤ l.length) && decide (l.length ≤ 18) && l.all isDig
def numL (l : List UInt8) : Nat := l.foldl (fun n c => n * 10 + (c.toNat - 48)) 0

theorem take_snoc (s : ByteArray) (k : Nat) (h : k < s.size) : s.data.toList.take (k + 1) = s.data.toList.take k ++ [s[k]] := by
  rw [List.take_succ_eq_append_getElem (by simpa using h)]; rfl
theorem numL_snoc (l : List UInt8) (c : UInt8) : numL (l ++ [c]) = numL l * 10 + (c.toNat - 48) := by
  unfold numL; rw [List.foldl_append]; rfl
theorem fold_lt : ∀ (l : List UInt8) (n : Nat), l.all isDig = true → l.foldl (fun n c => n * 10 + (c.toNat - 48)) n < (n + 1) * 10 ^ l.length
  | [], n, _ => by simp
  | c :: l, n, h => by
    rw [List.all_cons, Bool.and_eq_true, isDig_iff] at h
    have := fold_lt l (n * 10 + (c.toNat - 48)) h.2
    rw [List.foldl_cons, List.length_cons, Nat.pow_succ]
    have h2 : (n * 10 + (c.toNat - 48) + 1) * 10 ^ l.length ≤ ((n + 1) * 10) * 10 ^ l.length := Nat.mul_le_mul_right _ (by omega)
    rw [Nat.mul_comm (10 ^ l.length) 10, ← Nat.mul_assoc]
    omega
theorem numL_lt (l : List UInt8) (h : l.all isDig = true) : numL l < 10 ^ l.length := by
  have := fold_lt l 0 h
  unfold numL
  omega

set_option maxHeartbeats 1000000 in
theorem digits_any (s : ByteArray) (w : World) (hs : s.size ≤ maxLen) :
    Calls Tryz.prog 154 #[.string s] w fun e w' => e = .returned (.bool (digB s.data.toList)) ∧ w' = w := by
  unfold maxLen at hs
  have hsz : s.data.toList.length = s.size := rfl
  by_cases h1 : s.size < 1
  · have ho : digB s.data.toList = false := by unfold digB; rw [hsz]; simp; omega
    rw [ho]
    have HS := hide hsz
    have HO := hide ho
    clear hsz ho
    have h1' : (s.size : Int) < 1 := by omega
    go_enter Tryz.func154, Tryz.ntmps154
    go_wp2
    go_ret
    exact ⟨rfl, rfl⟩
  by_cases h2 : 18 < s.size
  · have ho : digB s.data.toList = false := by unfold digB; rw [hsz]; simp; omega
    rw [ho]
    have HS := hide hsz
    have HO := hide ho
    clear hsz ho
    have h1' : ¬ (s.size : Int) < 1 := by omega
    have h2' : 18 < (s.size : Int) := by omega
    go_enter Tryz.func154, Tryz.ntmps154
    go_wp2
    go_ret
    exact ⟨rfl, rfl⟩
  have ho : digB s.data.toList = s.data.toList.all isDig := by
    unfold digB; rw [hsz, decide_eq_true (by omega), decide_eq_true (by omega)]; rfl
  have HS := hide hsz
  have HO := hide ho
  clear hsz ho
  go_enter Tryz.func154, Tryz.ntmps154
  go_wp2
  go_loop [14] (fun i => ∃ k : Nat, k ≤ s.size ∧ i = .int .i64 k ∧ Hid ((s.data.toList.take k).all isDig = true)) (fun i => s.size - (intOf i).toNat)
  case atStart => exact ⟨0, Nat.zero_le _, rfl, hide rfl⟩
  case round =>
    obtain ⟨k, hk, rfl, HT⟩ := hrel
    by_cases hlt : k < s.size
    · have hsn := take_snoc s k hlt
      by_cases hg : isDig s[k] = true
      · have hs' : Hid ((s.data.toList.take (k + 1)).all isDig = true) := hide (by rw [hsn, List.all_append, unhide HT, List.all_cons, hg]; rfl)
        clear hsn
        rw [isDig_iff] at hg
        obtain ⟨g1, g2⟩ := hg
        go_wp2
        go_round
        case rel => exact ⟨k + 1, by omega, by go_num, hs'⟩
        case measure => simp [intOf]; omega
      · have hs' : Hid (s.data.toList.all isDig = false) := by
          refine hide (List.all_eq_false.2 ⟨s[k], ?_, hg⟩)
          have : s[k] = s.data.toList[k]'(by simpa using hlt) := rfl
          rw [this]
          exact List.getElem_mem _
        clear hsn
        rw [isDig_iff] at hg
        by_cases g1 : s[k].toNat < 48
        · go_wp2
          go_ret
          exact ⟨by rw [unhide HO, unhide hs']; rfl, rfl⟩
        · have g2 : 57 < s[k].toNat := by omega
          go_wp2
          go_ret
          exact ⟨by rw [unhide HO, unhide hs']; rfl, rfl⟩
    · have hs' : Hid (s.data.toList.all isDig = true) := by
        have e : s.data.toList.take k = s.data.toList := List.take_of_length_le (by rw [unhide HS]; omega)
        rw [e] at HT
        exact HT
      go_wp2
      go_ret
      exact ⟨by rw [unhide HO, unhide hs']; rfl, rfl⟩

set_option maxHeartbeats 1000000 in
theorem number_any (s : ByteArray) (w : World) (hs : s.size ≤ 18) (hd : s.data.toList.all isDig = true) :
    Calls Tryz.prog 155 #[.string s] w fun e w' => e = .returned (.int .u64 ((numL s.data.toList : Nat) : Int)) ∧ w' = w := by
  have hsz : s.data.toList.length = s.size := rfl
  have HS := hide hsz
  have HD := hide hd
  clear hsz hd
  go_enter Tryz.func155, Tryz.ntmps155
  go_wp2
  go_loop [3, 7] (fun n i => ∃ k : Nat, k ≤ s.size ∧ i = .int .i64 k ∧ n = .int .u64 ((numL (s.data.toList.take k) : Nat) : Int)) (fun _ i => s.size - (intOf i).toNat)
  case atStart => exact ⟨0, Nat.zero_le _, rfl, rfl⟩
  case round =>
    obtain ⟨k, hk, rfl, rfl⟩ := hrel
    by_cases hlt : k < s.size
    · have hsn := take_snoc s k hlt
      have hns : numL (s.data.toList.take (k + 1)) = numL (s.data.toList.take k) * 10 + (s[k].toNat - 48) := by rw [hsn, numL_snoc]
      have hak : (s.data.toList.take k).all isDig = true := by
        have := unhide HD
        rw [← List.take_append_drop k s.data.toList, List.all_append, Bool.and_eq_true] at this
        exact this.1
      have hkl : (s.data.toList.take k).length = k := by rw [List.length_take, unhide HS]; omega
      have hb := numL_lt _ hak
      rw [hkl] at hb
      have hp : 10 ^ k ≤ 10 ^ 17 := Nat.pow_le_pow_right (by omega) (by omega)
      have hx : (10 ^ 17 : Nat) = 100000000000000000 := by decide
      have hb' : numL (s.data.toList.take k) < 100000000000000000 := by omega
      have hg : isDig s[k] = true := by
        have h := unhide HD
        rw [List.all_eq_true] at h
        exact h s[k] (by
          have : s[k] = s.data.toList[k]'(by simpa using hlt) := rfl
          rw [this]
          exact List.getElem_mem _)
      rw [isDig_iff] at hg
      obtain ⟨g1, g2⟩ := hg
      have HN := hide hns
      have HSN := hide hsn
      clear hns hsn hak hkl hb hp hx
      generalize hN : numL (s.data.toList.take k) = N at *
      have HNN := hide hN
      clear hN
      go_wp2
      go_round
      case rel => exact ⟨k + 1, by omega, by go_num, by rw [unhide HN]; exact int_eq (by omega)⟩
      case measure => simp [intOf]; omega
    · have e : s.data.toList.take k = s.data.toList := List.take_of_length_le (by rw [unhide HS]; omega)
      rw [e]
      go_wp2
      go_ret
      exact ⟨rfl, rfl⟩
end Go.Proofs.YtbeijnflfmjgfaaGreatDoor

namespace Go.Proofs.YtbeijnflfmjgfaaGreatDoor
open Go.RowKit

abbrev lenCell (w : World) : Prop := ∃ m : Int, w.cell? ⟨1, 0, none⟩ = some (.int .i64 m)

def wholeOf (l : List UInt8) : List UInt8 := (Lib.cut (Lib.trimPrefix l [45]) [46]).1
def partOf (l : List UInt8) : List UInt8 := (Lib.cut (Lib.trimPrefix l [45]) [46]).2.1
def dotOf (l : List UInt8) : Bool := (Lib.cut (Lib.trimPrefix l [45]) [46]).2.2
def negOf (l : List UInt8) : Bool := Lib.hasPrefix l [45]
def formB (l : List UInt8) : Bool := digB (wholeOf l) && (!dotOf l || digB (partOf l))
def partsOf (l : List UInt8) : Nat := nrV (numL (wholeOf l)) 10000 1 + nrV (numL (partOf l)) 10000 (10 ^ (partOf l).length)
def parseR (l : List UInt8) : Int × Int :=
  if formB l = true then (if nrOk (numL (wholeOf l)) 10000 1 = true then (sgnN (negOf l) (partsOf l : Nat), sgnE (partsOf l : Nat)) else (0, 5)) else (0, 4)

theorem trimPrefix_len (l : List UInt8) : (Lib.trimPrefix l [45]).length ≤ l.length := by
  unfold Lib.trimPrefix; split
  · simp
  · omega
theorem cut_lens (l : List UInt8) : (Lib.cut l [46]).1.length ≤ l.length ∧ (Lib.cut l [46]).2.1.length ≤ l.length ∧ ((Lib.cut l [46]).2.2 = false → (Lib.cut l [46]).2.1 = []) := by
  unfold Lib.cut; split
  · refine ⟨by simp; omega, by simp, by simp⟩
  · refine ⟨by simp, by simp, by simp⟩
theorem part_facts (l : List UInt8) (h : formB l = true) : (partOf l).length ≤ 18 ∧ (partOf l).all isDig = true ∧ (wholeOf l).length ≤ 18 ∧ (wholeOf l).all isDig = true := by
  unfold formB at h
  rw [Bool.and_eq_true] at h
  obtain ⟨h1, h2⟩ := h
  have hd : ∀ x : List UInt8, digB x = true → x.length ≤ 18 ∧ x.all isDig = true := by
    intro x hx
    unfold digB at hx
    rw [Bool.and_eq_true, Bool.and_eq_true] at hx
    exact ⟨of_decide_eq_true hx.1.2, hx.2⟩
  refine ⟨?_, ?_, (hd _ h1).1, (hd _ h1).2⟩
  · cases hdot : dotOf l
    · have := (cut_lens (Lib.trimPrefix l [45])).2.2 hdot
      unfold partOf; rw [this]; simp
    · rw [hdot] at h2; exact (hd _ h2).1
  · cases hdot : dotOf l
    · have := (cut_lens (Lib.trimPrefix l [45])).2.2 hdot
      unfold partOf; rw [this]; rfl
    · rw [hdot] at h2; exact (hd _ h2).2

theorem frac_le (x z : Nat) (h : x < z) : nrV x 10000 z ≤ 10000 := by
  unfold nrV
  have hz : 0 < z := by omega
  have h1 : x * 10000 / z ≤ 9999 := by
    have : x * 10000 / z < 10000 := by
      rw [Nat.div_lt_iff_lt_mul hz, Nat.mul_comm 10000 z]
      exact Nat.mul_lt_mul_of_pos_right h (by omega)
    omega
  split
  · split <;> omega
  · omega
theorem cut45 (s : ByteArray) (l : List UInt8) (w : World) (hl : s.data.toList = l) :
    Calls Tryz.prog 152 #[.string s, .string ⟨#[45]⟩] w fun e w' => e = .returned (.tuple #[.string ⟨(Lib.trimPrefix l [45]).toArray⟩, .bool (negOf l)]) ∧ w' = w := by
  subst hl
  exact Tryz.strings_CutPrefix s ⟨#[45]⟩ w
theorem cut46 (l : List UInt8) (w : World) (hl : (Lib.trimPrefix l [45]).length < 4294967281) (hm : lenCell w) :
    Calls Tryz.prog 153 #[.string ⟨(Lib.trimPrefix l [45]).toArray⟩, .string ⟨#[46]⟩] w fun e w' => e = .returned (.tuple #[.string ⟨(wholeOf l).toArray⟩, .string ⟨(partOf l).toArray⟩, .bool (dotOf l)]) ∧ ∃ n, w' = w.drewN n := by
  obtain ⟨m, hm⟩ := hm
  exact Tryz.strings_Cut ⟨(Lib.trimPrefix l [45]).toArray⟩ ⟨#[46]⟩ m w hl hm
theorem digits_list (x : List UInt8) (w : World) (hx : x.length ≤ 4294967281) :
    Calls Tryz.prog 154 #[.string ⟨x.toArray⟩] w fun e w' => e = .returned (.bool (digB x)) ∧ w' = w :=
  digits_any ⟨x.toArray⟩ w (by unfold maxLen; show x.length ≤ _; omega)
theorem number_list (x : List UInt8) (w : World) (hx : x.length ≤ 18) (hd : x.all isDig = true) :
    Calls Tryz.prog 155 #[.string ⟨x.toArray⟩] w fun e w' => e = .returned (.int .u64 ((numL x : Nat) : Int)) ∧ w' = w :=
  number_any ⟨x.toArray⟩ w hx hd
theorem numL_18 (x : List UInt8) (hx : x.length ≤ 18) (hd : x.all isDig = true) : numL x < 1000000000000000000 := by
  have h := numL_lt x hd
  have hp : 10 ^ x.length ≤ 10 ^ 18 := Nat.pow_le_pow_right (by omega) hx
  have e : (10 ^ 18 : Nat) = 1000000000000000000 := by decide
  omega

set_option maxHeartbeats 1000000 in
theorem parse_any (s : ByteArray) (w : World) (hs : s.size < 4294967281) (hm : lenCell w) :
    Calls Tryz.prog 117 #[.string s] w fun e w' => e = .returned (.tuple #[.int .i64 (parseR s.data.toList).1, .int .i64 (parseR s.data.toList).2]) ∧ Below w.heap.size w w' := by
  obtain ⟨l, hl⟩ : ∃ l, s.data.toList = l := ⟨_, rfl⟩
  have hsz : s.size = l.length := by rw [← hl]; rfl
  obtain ⟨c1, c2, c3⟩ := cut_lens (Lib.trimPrefix l [45])
  have ct := trimPrefix_len l
  have hwl : (wholeOf l).length ≤ 4294967281 := by unfold wholeOf; omega
  have hpl : (partOf l).length ≤ 4294967281 := by unfold partOf; omega
  rw [hl]
  have HM := hide hm
  have HL := hide hl
  have HTL : Hid ((Lib.trimPrefix l [45]).length < 4294967281) := hide (by omega)
  clear hm hl c1 c2 c3 ct hsz
  cases hf : formB l
  · have hs : parseR l = (0, 4) := by unfold parseR; rw [hf]; rfl
    rw [hs]
    unfold formB at hf
    cases hw : digB (wholeOf l)
    · have HW := hide hw
      clear hs hf hw
      go_enter Tryz.func117, Tryz.ntmps117
      go_wp2_with fail
      refine (cut45 s l _ (unhide HL)).mono ?_
      rintro e w' ⟨rfl, rfl⟩
      go_wp2_with fail
      refine (cut46 l _ (unhide HTL) (unhide HM)).mono ?_
      rintro e w2 ⟨rfl, n, rfl⟩
      go_wp2_with fail
      refine (digits_list (wholeOf l) _ hwl).mono ?_
      rintro e w3 ⟨rfl, rfl⟩
      rw [unhide HW]
      go_wp2
      go_ret2
      exact ⟨rfl, below_drewN (Below.refl _ _) _⟩
    · have hdt : dotOf l = true := by
        rw [hw] at hf
        cases hd : dotOf l
        · rw [hd] at hf; cases hf
        · rfl
      have hpt : digB (partOf l) = false := by rw [hw, hdt] at hf; exact hf
      have HW := hide hw
      have HPT := hide hpt
      clear hs hf hw hpt
      go_enter Tryz.func117, Tryz.ntmps117
      go_wp2_with fail
      refine (cut45 s l _ (unhide HL)).mono ?_
      rintro e w' ⟨rfl, rfl⟩
      go_wp2_with fail
      refine (cut46 l _ (unhide HTL) (unhide HM)).mono ?_
      rintro e w2 ⟨rfl, n, rfl⟩
      go_wp2_with fail
      refine (digits_list (wholeOf l) _ hwl).mono ?_
      rintro e w3 ⟨rfl, rfl⟩
      rw [unhide HW]
      go_wp2_with fail
      refine (digits_list (partOf l) _ hpl).mono ?_
      rintro e w4 ⟨rfl, rfl⟩
      rw [unhide HPT]
      go_wp2
      go_ret2
      exact ⟨rfl, below_drewN (Below.refl _ _) _⟩
  · obtain ⟨p1, p2, p3, p4⟩ := part_facts l hf
    have n1 := numL_18 _ p1 p2
    have n3 := numL_18 _ p3 p4
    have P2 := hide p2
    have P4 := hide p4
    have HF := hide hf
    have hw : digB (wholeOf l) = true := by unfold formB at hf; rw [Bool.and_eq_true] at hf; exact hf.1
    have HW := hide hw
    have hpt : dotOf l = true → digB (partOf l) = true := by
      intro hd
      unfold formB at hf; rw [Bool.and_eq_true, hd] at hf; exact hf.2
    have HPT := hide hpt
    clear p2 p4 hf hw hpt hs
    have hp0 : 0 < 10 ^ (partOf l).length := Nat.pow_pos (by omega)
    have hp9 : 10 ^ (partOf l).length ≤ 10 ^ 18 := Nat.pow_le_pow_right (by omega) p1
    have e18 : (10 ^ 18 : Nat) = 1000000000000000000 := by decide
    rw [e18] at hp9
    clear e18
    have hv1 := nrV_le (numL (wholeOf l)) 10000 1
    have hv2 := frac_le (numL (partOf l)) (10 ^ (partOf l).length) (numL_lt _ (unhide P2))
    cases hk : nrOk (numL (wholeOf l)) 10000 1
    · have hs : parseR l = (0, 5) := by unfold parseR; rw [unhide HF, hk]; rfl
      have HK := hide hk
      rw [hs]
      clear hk hs
      cases hd : dotOf l
      · have HDD := hide hd
        go_enter Tryz.func117, Tryz.ntmps117
        go_wp2_with fail
        refine (cut45 s l _ (unhide HL)).mono ?_
        rintro e w' ⟨rfl, rfl⟩
        go_wp2_with fail
        refine (cut46 l _ (unhide HTL) (unhide HM)).mono ?_
        rintro e w2 ⟨rfl, n, rfl⟩
        go_wp2_with fail
        refine (digits_list (wholeOf l) _ hwl).mono ?_
        rintro e w3 ⟨rfl, rfl⟩
        rw [unhide HW]
        go_wp2_with fail
        refine (number_list (wholeOf l) _ p3 (unhide P4)).mono ?_
        rintro e w5 ⟨rfl, rfl⟩
        go_wp2_with fail
        refine (nearest_any (numL (wholeOf l)) 10000 1 _ (by omega) (by omega) (by omega) (by omega)).mono ?_
        rintro e w6 ⟨rfl, hb⟩
        rw [unhide HK]
        go_wp2
        go_ret2
        exact ⟨rfl, below_then (below_drewN (Below.refl _ _) _) hb⟩
      · have HP2 := hide ((unhide HPT) hd)
        go_enter Tryz.func117, Tryz.ntmps117
        go_wp2_with fail
        refine (cut45 s l _ (unhide HL)).mono ?_
        rintro e w' ⟨rfl, rfl⟩
        go_wp2_with fail
        refine (cut46 l _ (unhide HTL) (unhide HM)).mono ?_
        rintro e w2 ⟨rfl, n, rfl⟩
        go_wp2_with fail
        refine (digits_list (wholeOf l) _ hwl).mono ?_
        rintro e w3 ⟨rfl, rfl⟩
        rw [unhide HW]
        go_wp2_with fail
        refine (digits_list (partOf l) _ hpl).mono ?_
        rintro e w4 ⟨rfl, rfl⟩
        rw [unhide HP2]
        go_wp2_with fail
        refine (number_list (wholeOf l) _ p3 (unhide P4)).mono ?_
        rintro e w5 ⟨rfl, rfl⟩
        go_wp2_with fail
        refine (nearest_any (numL (wholeOf l)) 10000 1 _ (by omega) (by omega) (by omega) (by omega)).mono ?_
        rintro e w6 ⟨rfl, hb⟩
        rw [unhide HK]
        go_wp2
        go_ret2
        exact ⟨rfl, below_then (below_drewN (Below.refl _ _) _) hb⟩
    · have hs : parseR l = (sgnN (negOf l) (partsOf l : Nat), sgnE (partsOf l : Nat)) := by unfold parseR; rw [unhide HF, hk]; rfl
      have HK := hide hk
      have HPO : Hid (partsOf l = nrV (numL (wholeOf l)) 10000 1 + nrV (numL (partOf l)) 10000 (10 ^ (partOf l).length)) := hide rfl
      rw [hs]
      clear hk hs
      cases hd : dotOf l
      · have HDD := hide hd
        go_enter Tryz.func117, Tryz.ntmps117
        go_wp2_with fail
        refine (cut45 s l _ (unhide HL)).mono ?_
        rintro e w' ⟨rfl, rfl⟩
        go_wp2_with fail
        refine (cut46 l _ (unhide HTL) (unhide HM)).mono ?_
        rintro e w2 ⟨rfl, n, rfl⟩
        go_wp2_with fail
        refine (digits_list (wholeOf l) _ hwl).mono ?_
        rintro e w3 ⟨rfl, rfl⟩
        rw [unhide HW]
        go_wp2_with fail
        refine (number_list (wholeOf l) _ p3 (unhide P4)).mono ?_
        rintro e w5 ⟨rfl, rfl⟩
        go_wp2_with fail
        refine (nearest_any (numL (wholeOf l)) 10000 1 _ (by omega) (by omega) (by omega) (by omega)).mono ?_
        rintro e w6 ⟨rfl, hb⟩
        rw [unhide HK]
        go_wp2_with fail
        refine (number_list (partOf l) _ p1 (unhide P2)).mono ?_
        rintro e w7 ⟨rfl, rfl⟩
        go_wp2_with fail
        refine (power_any (partOf l).length _ (by omega)).mono ?_
        rintro e w8 ⟨rfl, rfl⟩
        go_wp2_with fail
        refine (nearest_any (numL (partOf l)) 10000 (10 ^ (partOf l).length) _ (by omega) (by omega) hp0 (by omega)).mono ?_
        rintro e w9 ⟨rfl, hb2⟩
        go_wp2_with fail
        refine (signed_any (negOf l) _ _ (by omega) (by omega)).mono ?_
        rintro e w10 ⟨rfl, rfl⟩
        go_wp2
        go_ret2
        exact ⟨by rw [unhide HPO]; rfl, below_then (below_then (below_drewN (Below.refl _ _) _) hb) hb2⟩
      · have HP2 := hide ((unhide HPT) hd)
        go_enter Tryz.func117, Tryz.ntmps117
        go_wp2_with fail
        refine (cut45 s l _ (unhide HL)).mono ?_
        rintro e w' ⟨rfl, rfl⟩
        go_wp2_with fail
        refine (cut46 l _ (unhide HTL) (unhide HM)).mono ?_
        rintro e w2 ⟨rfl, n, rfl⟩
        go_wp2_with fail
        refine (digits_list (wholeOf l) _ hwl).mono ?_
        rintro e w3 ⟨rfl, rfl⟩
        rw [unhide HW]
        go_wp2_with fail
        refine (digits_list (partOf l) _ hpl).mono ?_
        rintro e w4 ⟨rfl, rfl⟩
        rw [unhide HP2]
        go_wp2_with fail
        refine (number_list (wholeOf l) _ p3 (unhide P4)).mono ?_
        rintro e w5 ⟨rfl, rfl⟩
        go_wp2_with fail
        refine (nearest_any (numL (wholeOf l)) 10000 1 _ (by omega) (by omega) (by omega) (by omega)).mono ?_
        rintro e w6 ⟨rfl, hb⟩
        rw [unhide HK]
        go_wp2_with fail
        refine (number_list (partOf l) _ p1 (unhide P2)).mono ?_
        rintro e w7 ⟨rfl, rfl⟩
        go_wp2_with fail
        refine (power_any (partOf l).length _ (by omega)).mono ?_
        rintro e w8 ⟨rfl, rfl⟩
        go_wp2_with fail
        refine (nearest_any (numL (partOf l)) 10000 (10 ^ (partOf l).length) _ (by omega) (by omega) hp0 (by omega)).mono ?_
        rintro e w9 ⟨rfl, hb2⟩
        go_wp2_with fail
        refine (signed_any (negOf l) _ _ (by omega) (by omega)).mono ?_
        rintro e w10 ⟨rfl, rfl⟩
        go_wp2
        go_ret2
        exact ⟨by rw [unhide HPO]; rfl, below_then (below_then (below_drewN (Below.refl _ _) _) hb) hb2⟩
end Go.Proofs.YtbeijnflfmjgfaaGreatDoor

namespace Go.Proofs.YtbeijnflfmjgfaaGreatDoor

theorem cut_none : ∀ (l : List UInt8), (∀ c, c ∈ l → c ≠ 46) → Lib.cut l [46] = (l, [], false) := by
  intro l h
  have hi : Lib.index l [46] = -1 := by
    induction l with
    | nil => rfl
    | cons b l ih =>
      have hb : b ≠ 46 := h b (by simp)
      have := ih (fun c hc => h c (by simp [hc]))
      unfold Lib.index
      rw [this]
      have e : ([46] : List UInt8).isPrefixOf (b :: l) = false := by simp [List.isPrefixOf, Ne.symm hb]
      rw [e]; rfl
  unfold Lib.cut
  rw [hi]; rfl

theorem cut_at (l r : List UInt8) (h : ∀ c, c ∈ l → c ≠ 46) : Lib.cut (l ++ 46 :: r) [46] = (l, r, true) := by
  have hi : Lib.index (l ++ 46 :: r) [46] = (l.length : Int) := by
    induction l with
    | nil => unfold Lib.index; simp [List.isPrefixOf]
    | cons b l ih =>
      have hb : b ≠ 46 := h b (by simp)
      have := ih (fun c hc => h c (by simp [hc]))
      rw [List.cons_append]
      unfold Lib.index
      rw [this]
      have e : ([46] : List UInt8).isPrefixOf (b :: (l ++ 46 :: r)) = false := by simp [List.isPrefixOf, Ne.symm hb]
      have e2 : ((l.length : Int) == -1) = false := by rw [beq_eq_false_iff_ne]; omega
      rw [e, e2]
      simp
  unfold Lib.cut
  rw [hi, if_pos (by omega)]
  simp

theorem numL_cons (c : UInt8) (l : List UInt8) : numL (c :: l) = (c.toNat - 48) * 10 ^ l.length + numL l := by
  have gen : ∀ (l : List UInt8) (n : Nat), l.foldl (fun n c => n * 10 + (c.toNat - 48)) n = n * 10 ^ l.length + numL l := by
    intro l
    induction l with
    | nil => intro n; simp [numL]
    | cons d l ih =>
      intro n
      rw [List.foldl_cons, ih, List.length_cons, Nat.pow_succ]
      have e : numL (d :: l) = (d.toNat - 48) * 10 ^ l.length + numL l := by
        show (d :: l).foldl _ 0 = _
        rw [List.foldl_cons, ih]; simp
      rw [e, Nat.add_mul, Nat.mul_assoc, Nat.mul_comm 10 (10 ^ l.length)]
      omega
  show (c :: l).foldl _ 0 = _
  rw [List.foldl_cons, gen]; simp

theorem text_len (a : Int) : (textL a).length ≤ 100 := by
  unfold textL
  split
  · rename_i h
    have hg := (goodB_iff a).1 h
    have hx : (absL a.natAbs).length ≤ 60 := by
      unfold absL fracL
      have h1 := (dec_len (a.natAbs / 10000) (by omega)).2
      have h2 := (dec_len (10000 + a.natAbs % 10000) (by omega)).2
      have h3 := trim_len ((Lib.decDigits (10000 + a.natAbs % 10000)).drop 1)
      rw [List.length_drop] at h3
      rw [List.length_append]
      split
      · simp; omega
      · rw [List.length_cons]; omega
    split
    · rw [List.length_cons]; omega
    · omega
  · simp
end Go.Proofs.YtbeijnflfmjgfaaGreatDoor

namespace Go.Proofs.YtbeijnflfmjgfaaGreatDoor
open Go.RowKit

set_option maxHeartbeats 1000000 in
theorem all_ref (s : ByteArray) (w : World) (hs : s.size ≤ maxLen) :
    Calls Tryz.prog 128 #[.string s] w fun e w' => e = .returned (.bool (digB s.data.toList)) ∧ w' = w := by
  unfold maxLen at hs
  have hsz : s.data.toList.length = s.size := rfl
  by_cases h1 : s.size < 1
  · have ho : digB s.data.toList = false := by unfold digB; rw [hsz]; simp; omega
    rw [ho]
    have HS := hide hsz
    have HO := hide ho
    clear hsz ho
    have h1' : (s.size : Int) < 1 := by omega
    go_enter Tryz.func128, Tryz.ntmps128
    go_wp2
    go_ret
    exact ⟨rfl, rfl⟩
  by_cases h2 : 18 < s.size
  · have ho : digB s.data.toList = false := by unfold digB; rw [hsz]; simp; omega
    rw [ho]
    have HS := hide hsz
    have HO := hide ho
    clear hsz ho
    have h1' : ¬ (s.size : Int) < 1 := by omega
    have h2' : 18 < (s.size : Int) := by omega
    go_enter Tryz.func128, Tryz.ntmps128
    go_wp2
    go_ret
    exact ⟨rfl, rfl⟩
  have ho : digB s.data.toList = s.data.toList.all isDig := by
    unfold digB; rw [hsz, decide_eq_true (by omega), decide_eq_true (by omega)]; rfl
  have HS := hide hsz
  have HO := hide ho
  clear hsz ho
  go_enter Tryz.func128, Tryz.ntmps128
  go_wp2
  go_loop [3] (fun i => ∃ k : Nat, k ≤ s.size ∧ i = .int .i64 k ∧ Hid ((s.data.toList.take k).all isDig = true)) (fun i => s.size - (intOf i).toNat)
  case atStart => exact ⟨0, Nat.zero_le _, rfl, hide rfl⟩
  case round =>
    obtain ⟨k, hk, rfl, HT⟩ := hrel
    by_cases hlt : k < s.size
    · have hsn := take_snoc s k hlt
      by_cases hg : isDig s[k] = true
      · have hs' : Hid ((s.data.toList.take (k + 1)).all isDig = true) := hide (by rw [hsn, List.all_append, unhide HT, List.all_cons, hg]; rfl)
        clear hsn
        rw [isDig_iff] at hg
        obtain ⟨g1, g2⟩ := hg
        go_wp2
        go_round
        case rel => exact ⟨k + 1, by omega, by go_num, hs'⟩
        case measure => simp [intOf]; omega
      · have hs' : Hid (s.data.toList.all isDig = false) := by
          refine hide (List.all_eq_false.2 ⟨s[k], ?_, hg⟩)
          have : s[k] = s.data.toList[k]'(by simpa using hlt) := rfl
          rw [this]
          exact List.getElem_mem _
        clear hsn
        rw [isDig_iff] at hg
        by_cases g1 : s[k].toNat < 48
        · go_wp2
          go_ret
          exact ⟨by rw [unhide HO, unhide hs']; rfl, rfl⟩
        · have g2 : 57 < s[k].toNat := by omega
          go_wp2
          go_ret
          exact ⟨by rw [unhide HO, unhide hs']; rfl, rfl⟩
    · have hs' : Hid (s.data.toList.all isDig = true) := by
        have e : s.data.toList.take k = s.data.toList := List.take_of_length_le (by rw [unhide HS]; omega)
        rw [e] at HT
        exact HT
      go_wp2
      go_ret
      exact ⟨by rw [unhide HO, unhide hs']; rfl, rfl⟩


end Go.Proofs.YtbeijnflfmjgfaaGreatDoor

namespace Go.Proofs.YtbeijnflfmjgfaaGreatDoor

def dgt (c : UInt8) : Int := (c.toNat : Int) - 48
def revD (x : List UInt8) (k : Nat) : List Int := ((x.drop k).reverse).map dgt

theorem revD_len (x : List UInt8) (k : Nat) : (revD x k).length = x.length - k := by unfold revD; simp
theorem revD_full (x : List UInt8) : revD x x.length = [] := by unfold revD; simp
theorem revD_step (x : List UInt8) (k : Nat) (h0 : 0 < k) (hk : k ≤ x.length) : revD x (k - 1) = revD x k ++ [dgt (x[k - 1]'(by omega))] := by
  unfold revD
  rw [List.drop_eq_getElem_cons (show k - 1 < x.length by omega), show k - 1 + 1 = k by omega]
  simp
theorem isDig_at (x : List UInt8) (h : x.all isDig = true) (k : Nat) (hk : k < x.length) : 48 ≤ x[k].toNat ∧ x[k].toNat ≤ 57 :=
  (isDig_iff _).1 (List.all_eq_true.1 h _ (List.getElem_mem hk))
theorem revD_dig (x : List UInt8) (h : x.all isDig = true) (k : Nat) : Dc.Dig (revD x k) := by
  intro y hy
  unfold revD at hy
  obtain ⟨c, hc, rfl⟩ := List.mem_map.1 hy
  have := (isDig_iff c).1 (List.all_eq_true.1 h c (List.mem_of_mem_drop (List.mem_reverse.1 hc)))
  unfold dgt
  omega
theorem dig_append {a b : List Int} (ha : Dc.Dig a) (hb : Dc.Dig b) : Dc.Dig (a ++ b) := by
  intro x hx
  rcases List.mem_append.1 hx with h | h
  · exact ha x h
  · exact hb x h
theorem rev_val : ∀ (x : List UInt8), x.all isDig = true → Dc.val (x.reverse.map dgt) = (numL x : Int)
  | [], _ => rfl
  | c :: x, h => by
    rw [List.all_cons, Bool.and_eq_true, isDig_iff] at h
    rw [List.reverse_cons, List.map_append, Dc.val_append, rev_val x h.2, numL_cons]
    have e : Dc.val (List.map dgt [c]) = ((c.toNat - 48 : Nat) : Int) := by
      show dgt c + 10 * 0 = _
      unfold dgt
      have := h.1
      omega
    rw [e, List.length_map, List.length_reverse, Int.natCast_add, Int.natCast_mul, Int.natCast_pow, Int.mul_comm]
    have : ((10 : Nat) : Int) = 10 := rfl
    rw [this]
    omega
theorem revD_val (x : List UInt8) (h : x.all isDig = true) : Dc.val (revD x 0) = (numL x : Int) := by
  unfold revD
  rw [List.drop_zero]
  exact rev_val x h
theorem both_val (W P : List UInt8) (hW : W.all isDig = true) (hP : P.all isDig = true) : Dc.val (revD P 0 ++ revD W 0) = ((numL W * 10 ^ P.length + numL P : Nat) : Int) := by
  rw [Dc.val_append, revD_val P hP, revD_val W hW, revD_len, Nat.sub_zero, Int.natCast_add, Int.natCast_mul, Int.natCast_pow, Int.mul_comm]
  have : ((10 : Nat) : Int) = 10 := rfl
  rw [this]
  omega

structure CutAt (t W P : List UInt8) (dot : Bool) : Prop where
  noW : ∀ c, c ∈ W → c ≠ 46
  yes : dot = true → t = W ++ 46 :: P
  no : dot = false → t = W ∧ P = []
theorem t_split (t : List UInt8) : (∃ l r, t = l ++ 46 :: r ∧ ∀ c, c ∈ l → c ≠ 46) ∨ (∀ c, c ∈ t → c ≠ 46) := by
  induction t with
  | nil => exact Or.inr (fun c hc => by simp at hc)
  | cons b t ih =>
    by_cases hb : b = 46
    · exact Or.inl ⟨[], t, by rw [hb]; rfl, fun c hc => by simp at hc⟩
    · rcases ih with ⟨l, r, e, h⟩ | h
      · refine Or.inl ⟨b :: l, r, by rw [e]; rfl, fun c hc => ?_⟩
        rcases List.mem_cons.1 hc with h1 | h1
        · rw [h1]; exact hb
        · exact h c h1
      · refine Or.inr (fun c hc => ?_)
        rcases List.mem_cons.1 hc with h1 | h1
        · rw [h1]; exact hb
        · exact h c h1
theorem cut_facts (l : List UInt8) : CutAt (Lib.trimPrefix l [45]) (wholeOf l) (partOf l) (dotOf l) := by
  unfold wholeOf partOf dotOf
  rcases t_split (Lib.trimPrefix l [45]) with ⟨a, r, e, h⟩ | h
  · rw [e, cut_at a r h]
    exact ⟨h, fun _ => rfl, fun h => (by cases h)⟩
  · rw [cut_none _ h]
    exact ⟨h, fun h => (by cases h), fun _ => ⟨rfl, rfl⟩⟩
theorem neg_cons (c : UInt8) (l : List UInt8) : negOf (c :: l) = (c == 45) := by
  unfold negOf Lib.hasPrefix
  simp [List.isPrefixOf]
  by_cases h : c = 45
  · rw [h]
  · rw [beq_eq_false_iff_ne.2 h, beq_eq_false_iff_ne.2 (fun h2 => h h2.symm)]
theorem neg_yes (l : List UInt8) (h : negOf l = true) : Lib.trimPrefix l [45] = l.drop 1 := by
  unfold negOf at h
  unfold Lib.trimPrefix
  rw [h]; rfl
theorem neg_no (l : List UInt8) (h : negOf l = false) : Lib.trimPrefix l [45] = l := by
  unfold negOf at h
  unfold Lib.trimPrefix
  rw [h]; rfl

theorem parse_eq (l : List UInt8) (hf : formB l = true) (v : Int)
    (hv : v = nrI (((numL (wholeOf l) * 10 ^ (partOf l).length + numL (partOf l) : Nat) : Int) * 10000) ((10 ^ (partOf l).length : Nat) : Int)) : (sgnN (negOf l) v, sgnE v) = parseR l := by
  obtain ⟨p1, p2, p3, p4⟩ := part_facts l hf
  have hlt := numL_lt _ p2
  unfold parseR partsOf
  rw [hf, if_pos rfl]
  obtain ⟨W, hW⟩ : ∃ W, numL (wholeOf l) = W := ⟨_, rfl⟩
  obtain ⟨P, hP⟩ : ∃ P, numL (partOf l) = P := ⟨_, rfl⟩
  obtain ⟨z, hz⟩ : ∃ z, 10 ^ (partOf l).length = z := ⟨_, rfl⟩
  rw [hW, hP, hz] at hv ⊢
  rw [hP, hz] at hlt
  have hz0 : 0 < z := by omega
  have hk : nrOk P 10000 z = true := by
    unfold nrOk
    refine decide_eq_true ?_
    have : P * 10000 / z < 10001 := by
      rw [Nat.div_lt_iff_lt_mul hz0]
      have : P * 10000 ≤ z * 10000 := Nat.mul_le_mul_right _ (by omega)
      omega
    omega
  have e0 : (W * z + P) * 10000 = P * 10000 + z * (W * 10000) := by
    rw [Nat.add_mul, Nat.mul_comm W z, Nat.mul_assoc]; omega
  have e1 : v = ((W * 10000 + nrV P 10000 z : Nat) : Int) := by
    rw [hv]
    unfold nrI nrV
    rw [hk, if_pos rfl]
    have ec : ((W * z + P : Nat) : Int) * 10000 = (((W * z + P) * 10000 : Nat) : Int) := by simp
    rw [ec, ← Int.natCast_ediv, ← Int.natCast_emod, e0, Nat.add_mul_div_left _ _ hz0, Nat.add_mul_mod_self_left]
    by_cases h : z ≤ 2 * (P * 10000 % z)
    · rw [if_pos h, if_pos (by omega)]; omega
    · rw [if_neg h, if_neg (by omega)]; omega
  have hle := frac_le P z hlt
  cases hw : nrOk W 10000 1
  · have : 9000000000000000000 < W * 10000 := by
      unfold nrOk at hw
      rw [Nat.div_one] at hw
      have := of_decide_eq_false hw
      omega
    unfold sgnN sgnE
    rw [if_pos (by omega), if_pos (by omega), if_neg (by simp)]
  · rw [if_pos rfl]
    have : nrV W 10000 1 = W * 10000 := by
      unfold nrV
      rw [hw, if_pos rfl, Nat.div_one, Nat.mod_one, if_neg (by omega), Nat.add_zero]
    rw [this, e1]
end Go.Proofs.YtbeijnflfmjgfaaGreatDoor

namespace Go.Proofs.YtbeijnflfmjgfaaGreatDoor

def chr (d : Int) : UInt8 := UInt8.ofNat (48 + d.toNat)
def revT (zs : List Int) (k : Nat) : List UInt8 := ((zs.drop k).reverse).map chr
def sgnL (a : Int) : List UInt8 := if a < 0 then [45] else []

theorem revT_at (zs : List Int) (m : Nat) (hm : m < zs.length) : revT zs m = revT zs (m + 1) ++ [chr (zs.getD m 0)] := by
  unfold revT
  rw [List.drop_eq_getElem_cons hm, List.getD_eq_getElem?_getD, List.getElem?_eq_getElem hm, List.reverse_cons, List.map_append]
  rfl
theorem revT_full (zs : List Int) (k : Nat) (hk : zs.length = k) : revT zs k = [] := by unfold revT; rw [List.drop_of_length_le (by omega)]; rfl
theorem dec_rev : ∀ (ys : List Int), Dc.Dig ys → ys ≠ [] → (ys.length = 1 ∨ Dc.Cn ys) → ys.reverse.map chr = Lib.decDigits (Dc.val ys).toNat
  | [], _, h, _ => absurd rfl h
  | [d], hd, _, _ => by
    have h9 := hd d (by simp)
    have e : Dc.val [d] = d := by simp [Dc.val]
    rw [e, Lib.decDigits, dif_pos (by omega)]; rfl
  | d :: e :: ys, hd, _, hc => by
    have hc' : Dc.Cn (d :: e :: ys) := by
      rcases hc with h | h
      · simp at h
      · exact h
    have hc2 : Dc.Cn (e :: ys) := fun x l' h => hc' x (d :: l') (by rw [h]; rfl)
    have ih := dec_rev (e :: ys) hd.cons.2 (by simp) (Or.inr hc2)
    have hge := Dc.val_ge (e :: ys) hd.cons.2 hc2 (by simp)
    have hpp := Dc.pow_pos ((e :: ys).length - 1)
    have hv : Dc.val (d :: e :: ys) = d + 10 * Dc.val (e :: ys) := rfl
    have h9 := hd.cons.1
    rw [hv, List.reverse_cons, List.map_append, ih]
    generalize Dc.val (e :: ys) = V at *
    rw [Lib.decDigits.eq_def (d + 10 * V).toNat, dif_neg (by omega), show (d + 10 * V).toNat / 10 = V.toNat by omega, show (d + 10 * V).toNat % 10 = d.toNat by omega]
    rfl

theorem take4 (zs : List Int) : Dc.val (zs.take 4) = zs.getD 0 0 + 10 * zs.getD 1 0 + 100 * zs.getD 2 0 + 1000 * zs.getD 3 0 := by
  rw [Dc.val_take_succ, Dc.val_take_succ, Dc.val_take_succ, Dc.val_take_succ, List.take_zero]
  have e3 : (10 : Int) ^ 3 = 1000 := by decide
  have e2 : (10 : Int) ^ 2 = 100 := by decide
  have e1 : (10 : Int) ^ 1 = 10 := by decide
  have e0 : (10 : Int) ^ 0 = 1 := by decide
  rw [e3, e2, e1, e0]
  show 0 + _ + _ + _ + _ = _
  omega

structure TextIn (zs : List Int) (p : Nat) : Prop where
  dig : Dc.Dig zs
  val : Dc.val zs = (p : Int)
  len : 5 ≤ zs.length
  top : zs.length = 5 ∨ Dc.Cn zs
  hi : zs.length ≤ 19

theorem TextIn.low {zs : List Int} {p : Nat} (h : TextIn zs p) : Dc.val (zs.take 4) = ((p % 10000 : Nat) : Int) ∧ Dc.val (zs.drop 4) = ((p / 10000 : Nat) : Int) := by
  have e := Dc.val_append (zs.take 4) (zs.drop 4)
  have hl := h.len
  rw [List.take_append_drop, List.length_take, Nat.min_eq_left (by omega), h.val] at e
  have b1 := Dc.val_nonneg (zs.take 4) (h.dig.take 4)
  have b2 := Dc.val_lt (zs.take 4) (h.dig.take 4)
  rw [List.length_take, Nat.min_eq_left (by omega)] at b2
  have e4 : (10 : Int) ^ 4 = 10000 := by decide
  rw [e4] at e b2
  omega
theorem TextIn.whole {zs : List Int} {p : Nat} (h : TextIn zs p) : revT zs 4 = Lib.decDigits (p / 10000) := by
  have hl := h.len
  have := dec_rev (zs.drop 4) (fun x hx => h.dig x (List.mem_of_mem_drop hx)) (by intro e; have := congrArg List.length e; simp at this; omega) (by
    rcases h.top with h5 | hc
    · exact Or.inl (by rw [List.length_drop]; omega)
    · refine Or.inr (fun x l' e => hc x (zs.take 4 ++ l') ?_)
      rw [List.append_assoc, ← e, List.take_append_drop])
  rw [h.low.2] at this
  exact this
theorem TextIn.zero {zs : List Int} {p : Nat} (h : TextIn zs p) (hz : ∀ i, i < 4 → zs.getD i 0 = 0) : fracL (p % 10000) = [] := by
  have e := take4 zs
  rw [hz 0 (by omega), hz 1 (by omega), hz 2 (by omega), hz 3 (by omega), h.low.1] at e
  unfold fracL
  rw [if_pos (by omega)]
theorem getD_take (zs : List Int) (n i : Nat) (h : i < n) : (zs.take n).getD i 0 = zs.getD i 0 := by
  rw [List.getD_eq_getElem?_getD, List.getElem?_take, if_pos h, ← List.getD_eq_getElem?_getD]
theorem chr_zero {d : Int} (h : 0 ≤ d ∧ d ≤ 9) : chr d = 48 ↔ d = 0 := by
  unfold chr
  constructor
  · intro e
    have := congrArg UInt8.toNat e
    rw [UInt8.toNat_ofNat'] at this
    have e2 : (48 : UInt8).toNat = 48 := rfl
    rw [e2] at this
    omega
  · rintro rfl; rfl
theorem TextIn.part {zs : List Int} {p : Nat} (h : TextIn zs p) (k : Nat) (hk : k < 4) (hz : ∀ i, i < k → zs.getD i 0 = 0) (hn : zs.getD k 0 ≠ 0) : fracL (p % 10000) = 46 :: revT (zs.take 4) k := by
  have hl := h.len
  have e := take4 zs
  have l1 := h.low.1
  rw [l1] at e
  have d0 := h.dig.getD 0
  have d1 := h.dig.getD 1
  have d2 := h.dig.getD 2
  have d3 := h.dig.getD 3
  have hne : p % 10000 ≠ 0 := by
    have : k = 0 ∨ k = 1 ∨ k = 2 ∨ k = 3 := by omega
    rcases this with rfl | rfl | rfl | rfl <;> omega
  have hlen : (zs.take 4).length = 4 := by rw [List.length_take]; omega
  have hd : Dc.Dig (zs.take 4 ++ [1]) := dig_snoc (h.dig.take 4) (by omega) (by omega)
  have hv := dec_rev (zs.take 4 ++ [1]) hd (by simp) (Or.inr (cn_snoc (by omega)))
  rw [val_snoc, hlen, l1] at hv
  have e4 : (10 : Int) ^ 4 = 10000 := by decide
  rw [e4, show (((p % 10000 : Nat) : Int) + 10000 * 1).toNat = 10000 + p % 10000 by omega] at hv
  unfold fracL
  rw [if_neg hne, ← hv, List.reverse_append]
  show 46 :: Lib.trimRightB ((chr 1 :: (zs.take 4).reverse.map chr).drop 1) 48 = _
  rw [List.drop_one, List.tail_cons]
  unfold Lib.trimRightB
  rw [← List.map_reverse, List.reverse_reverse]
  have hdw := Lib.dropWhile_drop (· == (48 : UInt8)) ((zs.take 4).map chr) k (by
    intro j b hj hb
    rw [List.getElem?_map, List.getElem?_take, if_pos (by omega), List.getElem?_eq_getElem (by omega)] at hb
    injection hb with hb
    have hzj := hz j hj
    rw [List.getD_eq_getElem?_getD, List.getElem?_eq_getElem (by omega)] at hzj
    have hzj : zs[j] = 0 := hzj
    rw [← hb, hzj]; rfl) (by
    intro b hb
    rw [List.getElem?_map, List.getElem?_take, if_pos (by omega), List.getElem?_eq_getElem (by omega)] at hb
    injection hb with hb
    rw [List.getD_eq_getElem?_getD, List.getElem?_eq_getElem (by omega)] at hn
    have hn : zs[k] ≠ 0 := hn
    rw [← hb, beq_eq_false_iff_ne]
    intro h2
    exact hn ((chr_zero (h.dig _ (List.getElem_mem _))).1 h2)) (by simp; omega)
  rw [hdw]
  unfold revT
  rw [← List.map_drop, ← List.map_reverse]

theorem TextIn.text {zs : List Int} {a : Int} (h : TextIn zs a.natAbs) (hg : goodB a = true) (r : List UInt8) (hr : fracL (a.natAbs % 10000) = r) : textL a = sgnL a ++ revT zs 4 ++ r := by
  unfold textL sgnL absL
  rw [if_pos hg, h.whole, hr]
  by_cases ha : a < 0
  · rw [if_pos ha, if_pos ha]; simp
  · rw [if_neg ha, if_neg ha]; simp
end Go.Proofs.YtbeijnflfmjgfaaGreatDoor

namespace Go.Proofs.YtbeijnflfmjgfaaGreatDoor
open Go.RowKit

def OwnPost (n : Int) (w : World) (e : Ending) (w' : World) : Prop :=
  Below w.heap.size w w' ∧ ∃ v zs, e = .returned v ∧ w'.ownsRow w.heap.size 3 1 v zs.length (zs.map (Value.int .i64)) ∧ Dc.Dig zs ∧ Dc.Cn zs ∧ Dc.val zs = n ∧ zs.length ≤ 19

set_option maxRecDepth 100000 in
set_option maxHeartbeats 2000000 in
theorem digits_own (a : Int) (w : World) (h1 : -9223372036854775808 ≤ a) (h2 : a ≤ 9223372036854775807) :
    Calls Tryz.prog 81 #[.int .i64 a] w fun e w' => OwnPost (a.natAbs : Int) w e w' := by
  obtain ⟨i0, hi, hz0, hz1, hz2⟩ := info_parts info3
  go_enter Tryz.func81, Tryz.ntmps81
  go_wp2
  go_loopw [0, 3] (fun t v wr => ∃ (x : Int) (zs : List Int), t = .int .i64 x ∧ -9223372036854775808 ≤ x ∧ x ≤ 9223372036854775807 ∧ wr.ownsRow w.heap.size 3 1 v zs.length (zs.map (Value.int .i64)) ∧ Below w.heap.size w wr ∧
      Hid (Dc.Dig zs ∧ Dc.val zs + 10 ^ zs.length * (x.natAbs : Int) = (a.natAbs : Int) ∧ (x = 0 → Dc.Cn zs) ∧ zs.length ≤ 19)) (fun t _ _ => (intOf t).natAbs)
  case atStart => exact ⟨a, [], rfl, h1, h2, World.ownsRow_nil _ _ _ _, Below.refl _ _, hide ⟨fun x hx => by simp at hx, by simp [Dc.val], fun _ x l' e => by simp at e, by simp⟩⟩
  case round =>
    obtain ⟨x, zs, rfl, hx1, hx2, hown, hb, HZ⟩ := hrel
    by_cases hx0 : x = 0
    · obtain ⟨z1, z2, z3, z4⟩ := unhide HZ
      have HC := hide (z3 hx0)
      subst hx0
      have HV : Hid (Dc.val zs = (a.natAbs : Int)) := hide (by simpa using z2)
      clear HZ z2 z3
      go_wp2
      go_ret
      exact ⟨hb, _, zs, rfl, hown, z1, unhide HC, unhide HV, z4⟩
    · obtain ⟨z1, z2, z3, z4⟩ := unhide HZ
      obtain ⟨s1, s2, s3, s4⟩ := digits_step a x zs z1 z2 hx0 (by omega)
      have hxb : (x == 0) = false := by rw [beq_eq_false_iff_ne]; exact hx0
      have S := hide (And.intro s2 (And.intro s3 s4))
      have e1 : (x.tmod 10).natAbs = x.natAbs % 10 := Int.natAbs_tmod x 10
      have e2 : (x.tdiv 10).natAbs = x.natAbs / 10 := Int.natAbs_tdiv x 10
      obtain ⟨k, hk⟩ : ∃ k : Int, ((x.tmod 10).natAbs : Int) = k := ⟨_, rfl⟩
      rw [hk] at S
      have kb : 0 ≤ k ∧ k ≤ 9 := by omega
      have tb : -9 ≤ x.tmod 10 ∧ x.tmod 10 ≤ 9 := by omega
      have qb : -922337203685477580 ≤ x.tdiv 10 ∧ x.tdiv 10 ≤ 922337203685477580 := by omega
      have HM : Hid ((x.tdiv 10).natAbs < x.natAbs) := hide (by omega)
      obtain ⟨t1, t2⟩ := tb
      obtain ⟨q1, q2⟩ := qb
      have HB := hide hb
      have HO := hide hown
      have HX0 := hide hx0
      clear HZ z1 z2 z3 z4 s2 s3 s4 e1 e2 hb hown hx0
      by_cases ht : x.tmod 10 < 0
      · have ek : k = -(x.tmod 10) := by omega
        have EK := hide ek
        clear ek hk
        go_wp2_with (first
          | (at_builtin; refine wpList_append_own _ rfl _ _ 49 rfl w.heap.size 3 i0 (.int .i64 0) 1 8 Tryz.underlying49 hi hz0 hz1 hz2 rfl (by decide) _ _ _ rfl ((unhide HO).alloc _) ⟨wr.heap.size, 0, none⟩ 1 1 [.int .i64 (-(x.tmod 10))] rfl rfl (one_cell _ _ _) (one_one _) (by unfold maxLen; omega) (by omega) (by have := (unhide HB).size; simp; omega) ?_)
          | go_in)
        · intro v' w1 hown' hgrow _
          have hB := (unhide HB).size
          have R := hide (own_step (unhide HB) hB (unhide HO) hown' hgrow)
          clear hown' hgrow
          go_wp2
          go_roundw
          case rel =>
            have S' := unhide S
            rw [unhide EK] at S'
            exact ⟨_, zs ++ [-(x.tmod 10)], rfl, by omega, by omega, (unhide R).1, (unhide R).2, hide ⟨S'.1, S'.2.1, S'.2.2, by simp; omega⟩⟩
          case measure => exact unhide HM
      · have ek : k = x.tmod 10 := by omega
        have EK := hide ek
        clear ek hk
        go_wp2_with (first
          | (at_builtin; refine wpList_append_own _ rfl _ _ 49 rfl w.heap.size 3 i0 (.int .i64 0) 1 8 Tryz.underlying49 hi hz0 hz1 hz2 rfl (by decide) _ _ _ rfl ((unhide HO).alloc _) ⟨wr.heap.size, 0, none⟩ 1 1 [.int .i64 (x.tmod 10)] rfl rfl (one_cell _ _ _) (one_one _) (by unfold maxLen; omega) (by omega) (by have := (unhide HB).size; simp; omega) ?_)
          | go_in)
        · intro v' w1 hown' hgrow _
          have hB := (unhide HB).size
          have R := hide (own_step (unhide HB) hB (unhide HO) hown' hgrow)
          clear hown' hgrow
          go_wp2
          go_roundw
          case rel =>
            have S' := unhide S
            rw [unhide EK] at S'
            exact ⟨_, zs ++ [x.tmod 10], rfl, by omega, by omega, (unhide R).1, (unhide R).2, hide ⟨S'.1, S'.2.1, S'.2.2, by simp; omega⟩⟩
          case measure => exact unhide HM
end Go.Proofs.YtbeijnflfmjgfaaGreatDoor

namespace Go.Proofs.YtbeijnflfmjgfaaGreatDoor
open Go.RowKit

def sliceLen : Value → Nat
  | .slice _ n _ => n
  | _ => 0

structure PadIn (zs : List Int) (p : Nat) : Prop where
  dig : Dc.Dig zs
  val : Dc.val zs = (p : Int)
  top : zs.length ≤ 5 ∨ Dc.Cn zs
  hi : zs.length ≤ 19
theorem pad_step {zs : List Int} {p : Nat} (h : PadIn zs p) (hl : zs.length < 5) : PadIn (zs ++ [0]) p :=
  ⟨dig_snoc h.dig (by omega) (by omega), by rw [val_snoc, h.val]; omega, Or.inl (by simp; omega), by simp; omega⟩
theorem pad_end {zs : List Int} {p : Nat} (h : PadIn zs p) (hl : 5 ≤ zs.length) : TextIn zs p :=
  ⟨h.dig, h.val, hl, by rcases h.top with h1 | h1; exact Or.inl (by omega); exact Or.inr h1, h.hi⟩
theorem owns_form {w : World} {B : Nat} {v : Value} {n : Nat} {xs : List Value} (h : w.ownsRow B 3 1 v n xs) : ∃ ad cap, v = .slice ad n cap := by
  rcases h.2 with ⟨rfl, h0⟩ | ⟨g, cap, cur, rfl, _⟩
  · exact ⟨none, 0, by rw [h0]⟩
  · exact ⟨_, cap, rfl⟩

theorem conv_one (w : World) (x : Int) (h0 : 0 ≤ x) (h9 : x ≤ 9) :
    (convert 133 9 (.slice (some ⟨w.heap.size, 0, none⟩) 1 1)).run Tryz.prog (w.alloc (.cells #[.int .u8 (48 + x)] 5)) = .ok (.string ⟨#[chr x]⟩) (w.alloc (.cells #[.int .u8 (48 + x)] 5)) := by
  have e : ((chr x).toNat : Int) = 48 + x := by
    unfold chr
    rw [UInt8.toNat_ofNat']
    omega
  exact run_convert_bytes_back (P := Tryz.prog) (w.alloc (.cells #[.int .u8 (48 + x)] 5)) 133 9 5 ⟨w.heap.size, 0, none⟩ 1 [chr x] Tryz.underlying133 Tryz.underlying5 Tryz.underlying9 (fun j hj => by
    have : j = 0 := by simp at hj; exact hj
    subst this
    show _ = some (Value.int .u8 ((chr x).toNat : Int))
    rw [e]
    simp [Addr.add])

theorem size_snoc (sb : ByteArray) (c : UInt8) : (sb ++ (⟨#[c]⟩ : ByteArray)).size = sb.size + 1 := by
  rw [ByteArray.size_append]; rfl
theorem list_snoc (sb : ByteArray) (c : UInt8) : (sb ++ (⟨#[c]⟩ : ByteArray)).data.toList = sb.data.toList ++ [c] := by
  rw [ByteArray.data_append, Array.toList_append]
theorem str_eq {sb : ByteArray} {l : List UInt8} (h : sb.data.toList = l) : Ending.returned (Value.string sb) = Ending.returned (Value.string ⟨l.toArray⟩) := by
  subst h; rfl

set_option maxRecDepth 100000 in
set_option maxHeartbeats 2000000 in
theorem text_ref (a : Int) (w : World) : Calls Tryz.prog 126 #[.int .i64 a] w fun e w' => e = .returned (.string ⟨(textL a).toArray⟩) ∧ Below w.heap.size w w' := by
  obtain ⟨i0, hi, hz0, hz1, hz2⟩ := info_parts info3
  cases hg : goodB a
  · have hs : textL a = [] := by unfold textL; rw [hg]; rfl
    have HG := hide hg
    rw [hs]
    clear hg hs
    go_enter Tryz.func126, Tryz.ntmps126
    go_wp2_with fail
    refine (good_ref a _).mono ?_
    rintro e w1 ⟨rfl, rfl⟩
    rw [unhide HG]
    go_wp2
    go_ret
    exact ⟨rfl, Below.refl _ _⟩
  · have HG := hide hg
    rw [goodB_iff] at hg
    obtain ⟨a1, a2⟩ := hg
    obtain ⟨l, hl⟩ : ∃ l, textL a = l := ⟨_, rfl⟩
    rw [hl]
    have HL := hide hl
    clear hl
    go_enter Tryz.func126, Tryz.ntmps126
    go_wp2_with fail
    refine (good_ref a _).mono ?_
    rintro e w1 ⟨rfl, rfl⟩
    rw [unhide HG]
    go_wp2_with fail
    refine (digits_own a _ (by omega) (by omega)).mono ?_
    rintro e w2 ⟨b2, vd, zs, rfl, x0, x2, x3, x4, x5⟩
    have HB := hide b2
    have HO := hide x0
    have HI : Hid (PadIn zs a.natAbs) := hide ⟨x2, x4, Or.inr x3, x5⟩
    clear b2 x0 x2 x3 x4 x5
    go_wp2
    go_loopw [4] (fun v wr => ∃ (ad : Option Addr) (n cap : Nat) (zs : List Int), v = .slice ad n cap ∧ n ≤ 19 ∧ Hid (zs.length = n) ∧ Hid (wr.ownsRow w1.heap.size 3 1 v n (zs.map (Value.int .i64))) ∧ Hid (Below w1.heap.size w1 wr) ∧ Hid (PadIn zs a.natAbs)) (fun v _ => 5 - sliceLen v)
    case atStart =>
      obtain ⟨ad, cap, rfl⟩ := owns_form (unhide HO)
      exact ⟨ad, zs.length, cap, zs, rfl, (unhide HI).hi, hide rfl, HO, HB, HI⟩
    case round =>
      clear HO HB HI
      obtain ⟨ad, n, cap, zs, rfl, hn, HN, HO, HB, HI⟩ := hrel
      by_cases h5 : n < 5
      · go_wp2_with (first
          | (at_builtin; refine wpList_append_own _ rfl _ _ 49 rfl w1.heap.size 3 i0 (.int .i64 0) 1 8 Tryz.underlying49 hi hz0 hz1 hz2 rfl (by decide) _ _ _ rfl ((unhide HO).alloc _) ⟨wr.heap.size, 0, none⟩ 1 1 [.int .i64 0] rfl rfl (one_cell _ _ _) (one_one _) (by unfold maxLen; omega) (by omega) (by have := (unhide HB).size; simp; omega) ?_)
          | go_in)
        · intro v' w3 hown' hgrow _
          have hB := (unhide HB).size
          have HO' := unhide HO
          rw [← unhide HN] at hown' HO' hgrow
          have R := own_step (unhide HB) hB HO' hown' hgrow
          have RL : (zs ++ [0]).length = n + 1 := by rw [List.length_append, unhide HN]; rfl
          rw [RL] at R
          obtain ⟨ad', cap', rfl⟩ := owns_form R.1
          have R := hide R
          have RL := hide RL
          have PI := hide (pad_step (unhide HI) (by rw [unhide HN]; exact h5))
          clear hown' hgrow HO'
          go_wp2
          go_roundw
          case rel => exact ⟨ad', n + 1, cap', zs ++ [0], rfl, by omega, RL, hide (unhide R).1, hide (unhide R).2, PI⟩
          case measure => simp [sliceLen]; omega
      · have TI := hide (pad_end (unhide HI) (by rw [unhide HN]; omega))
        obtain ⟨wo, rfl⟩ : ∃ wo, wo = wr := ⟨_, rfl⟩
        have HA := hide (arr_of_owns (unhide HN).symm (unhide HO))
        clear HI HO
        obtain ⟨b, o, rfl, hb, hcell⟩ : ∃ b o, ad = some ⟨b, o, none⟩ ∧ b < wo.heap.size ∧ Hid (∀ i, i < n → wo.cell? ⟨b, o + i, none⟩ = some (.int .i64 (zs.getD i 0))) := by
          rcases unhide HA with ⟨e, _⟩ | ⟨b, o, cap', e, _, hlt, hc⟩
          · exfalso; have := unhide HN; rw [e] at this; simp at this; omega
          · injection e with e1 e2 e3
            exact ⟨b, o, e1, hlt, hide (by rw [← unhide HN]; exact hc)⟩
        clear HA
        go_upto_if 22 with fail
        go_cut [5] from 22 (fun v wx => (∃ sb : ByteArray, v = .string sb ∧ sb.size ≤ 1 ∧ Hid (sb.data.toList = sgnL a)) ∧ wx = wo)
        case first =>
          by_cases ha : a < 0
          · have HS : Hid (sgnL a = [45]) := hide (by unfold sgnL; rw [if_pos ha])
            go_wp2
            go_meet
            case rel => exact ⟨⟨_, rfl, Nat.le_refl _, hide (by rw [unhide HS])⟩, rfl⟩
          · have HS : Hid (sgnL a = []) := hide (by unfold sgnL; rw [if_neg ha])
            go_wp2
            go_meet
            case rel => exact ⟨⟨_, rfl, Nat.zero_le _, hide (by rw [unhide HS])⟩, rfl⟩
        case rest =>
          obtain ⟨⟨sb, rfl, hsb, HS⟩, rfl⟩ := hcut
          go_wp2
          go_loopw [5, 6] (fun v t wr => ∃ (sb : ByteArray) (k : Nat), v = .string sb ∧ t = .int .i64 ((k : Int) - 1) ∧ 4 ≤ k ∧ k ≤ n ∧ sb.size + k ≤ 20 ∧ Hid (sb.data.toList = sgnL a ++ revT zs k) ∧ Hid (Below wc.heap.size wc wr)) (fun _ t _ => (intOf t + 1).toNat)
          case atStart => exact ⟨sb, n, rfl, rfl, by omega, Nat.le_refl _, by omega, hide (by rw [revT_full zs n (unhide HN), List.append_nil]; exact unhide HS), hide (Below.refl _ _)⟩
          case round =>
            clear hsb HS
            obtain ⟨sb, k, rfl, rfl, hk4, hkn, hsk, HS, HBL⟩ := hrel
            by_cases hk : k = 4
            · subst hk
              rw [show (((4 : Nat) : Int) - 1) = 3 from rfl]
              obtain ⟨wt, rfl⟩ : ∃ wt, wt = wr := ⟨_, rfl⟩
              go_wp2
              go_loopw [7] (fun t wr => ∃ k : Nat, t = .int .i64 (k : Int) ∧ k ≤ 4 ∧ Hid (∀ i, i < k → zs.getD i 0 = 0) ∧ Hid (Below wc.heap.size wc wr)) (fun t _ => 4 - (intOf t).toNat)
              case atStart => exact ⟨0, rfl, Nat.zero_le _, hide (fun i hi => by omega), HBL⟩
              case round =>
                clear HBL hk4 hkn
                obtain ⟨k, rfl, hk4, HZ, HBL⟩ := hrel
                by_cases hk : k = 4
                · subst hk
                  have HFIN : Hid (textL a = sgnL a ++ revT zs 4 ++ []) := hide ((unhide TI).text (unhide HG) [] ((unhide TI).zero (unhide HZ)))
                  go_wp2
                  refine wp_loop_rounds 1 ?_
                  rw [rounds_succ]
                  go_wp2
                  go_ret
                  exact ⟨str_eq (by rw [← unhide HL, unhide HFIN, List.append_nil]; exact unhide HS), below_then (unhide HB) (unhide HBL)⟩
                · have hk3 : k < 4 := by omega
                  have hc := unhide hcell k (by omega)
                  rw [← (unhide HBL).cell (p := ⟨b, o + k, none⟩) hb] at hc
                  obtain ⟨x, hx⟩ : ∃ x, zs.getD k 0 = x := ⟨_, rfl⟩
                  rw [hx] at hc
                  have HX := hide hx
                  clear hx hk
                  by_cases hx0 : x = 0
                  · subst hx0
                    go_wp2
                    exact ⟨⟨k + 1, int_eqv (by omega), by omega, hide (fun i hi => by
                      by_cases he : i = k
                      · subst he; exact unhide HX
                      · exact unhide HZ i (by omega)), HBL⟩, by simp [intOf]; omega⟩
                  · have hxb : (x == 0) = false := by rw [beq_eq_false_iff_ne]; exact hx0
                    have HFIN : Hid (textL a = sgnL a ++ revT zs 4 ++ 46 :: revT (zs.take 4) k) := hide ((unhide TI).text (unhide HG) _ ((unhide TI).part k hk3 (unhide HZ) (by rw [unhide HX]; exact hx0)))
                    have HX0 := hide hx0
                    clear hx0
                    go_wp2
                    go_loopw [5, 8] (fun v t wr => ∃ (sb : ByteArray) (j : Nat), v = .string sb ∧ t = .int .i64 ((j : Int) - 1) ∧ k ≤ j ∧ j ≤ 4 ∧ sb.size + j ≤ 30 ∧ Hid (sb.data.toList = sgnL a ++ revT zs 4 ++ 46 :: revT (zs.take 4) j) ∧ Hid (Below wc.heap.size wc wr)) (fun _ t _ => (intOf t + 1).toNat)
                    case atStart => exact ⟨_, 4, rfl, rfl, hk4, Nat.le_refl _, by rw [size_snoc]; omega, hide (by
                      rw [list_snoc, unhide HS, revT_full (zs.take 4) 4 (by rw [List.length_take, unhide HN]; omega)]), HBL⟩
                    case round =>
                      clear HS HBL hsk hc
                      obtain ⟨sb, j, rfl, rfl, hjk, hj4, hsj, HS, HBL⟩ := hrel
                      by_cases hj : j = k
                      · subst hj
                        go_wp2
                        go_ret
                        exact ⟨str_eq (by rw [← unhide HL, unhide HFIN]; exact unhide HS), below_then (unhide HB) (unhide HBL)⟩
                      · obtain ⟨m, rfl⟩ : ∃ m, j = m + 1 := ⟨j - 1, by omega⟩
                        have e1 : ((m + 1 : Nat) : Int) - 1 = (m : Int) := by omega
                        rw [e1]
                        have hmk : k ≤ m := by omega
                        clear e1 hj
                        have hmn : m < n := by omega
                        have hc := unhide hcell m hmn
                        rw [← (unhide HBL).cell (p := ⟨b, o + m, none⟩) hb] at hc
                        have hdg := (unhide TI).dig.getD m
                        obtain ⟨y, hy⟩ : ∃ y, zs.getD m 0 = y := ⟨_, rfl⟩
                        rw [hy] at hc hdg
                        have HY := hide hy
                        clear hy
                        obtain ⟨y0, y9⟩ := hdg
                        have hcv := conv_one wr y y0 y9
                        go_wp2
                        exact ⟨⟨_, m, rfl, rfl, hmk, by omega, by rw [size_snoc]; omega, hide (by
                          rw [list_snoc, unhide HS, revT_at (zs.take 4) m (by rw [List.length_take, unhide HN]; omega), getD_take zs 4 m (by omega), unhide HY]
                          simp), hide ((unhide HBL).alloc (unhide HBL).size _)⟩, by simp [intOf]⟩
            · obtain ⟨m, rfl⟩ : ∃ m, k = m + 1 := ⟨k - 1, by omega⟩
              have e1 : ((m + 1 : Nat) : Int) - 1 = (m : Int) := by omega
              rw [e1]
              have hm4 : 4 ≤ m := by omega
              clear e1 hk
              have hmn : m < n := by omega
              have hc := unhide hcell m hmn
              rw [← (unhide HBL).cell (p := ⟨b, o + m, none⟩) hb] at hc
              have hdg := (unhide TI).dig.getD m
              obtain ⟨x, hx⟩ : ∃ x, zs.getD m 0 = x := ⟨_, rfl⟩
              rw [hx] at hc hdg
              have HX := hide hx
              clear hx
              obtain ⟨x0, x9⟩ := hdg
              have hcv := conv_one wr x x0 x9
              go_wp2
              exact ⟨⟨_, m, rfl, rfl, hm4, by omega, by rw [size_snoc]; omega, hide (by
                rw [list_snoc, unhide HS, revT_at zs m (by rw [unhide HN]; exact hmn), unhide HX, List.append_assoc]), hide ((unhide HBL).alloc (unhide HBL).size _)⟩, by simp [intOf]⟩
end Go.Proofs.YtbeijnflfmjgfaaGreatDoor
