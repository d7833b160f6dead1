/- The contract of Parse. -/
import Derived.Test.YtobkmjjdnfimoaaDoorFxF
import Derived.Test.YtobkmjjdnfimoaaDoorFxI
namespace Go.Proofs.YtobkmjjdnfimoaaDoor
open Go.RowKit

/-- The cell of internal/bytealg.MaxLen holds an int. -/
abbrev lenCell (w : World) : Prop := ∃ m : Int, w.cell? ⟨2, 0, none⟩ = some (.int .i64 m)

def wholeOf (l : List UInt8) : List UInt8 := (Lib.cut (Lib.trimPrefix l [45]) [46]).1
def partOf (l : List UInt8) : List UInt8 := (Lib.cut (Lib.trimPrefix l [45]) [46]).2.1
def dotOf (l : List UInt8) : Bool := (Lib.cut (Lib.trimPrefix l [45]) [46]).2.2
def negOf (l : List UInt8) : Bool := Lib.hasPrefix l [45]
def formB (l : List UInt8) : Bool := digB (wholeOf l) && (!dotOf l || digB (partOf l))
def partsOf (l : List UInt8) : Nat := nrV (numL (wholeOf l)) 10000 1 + nrV (numL (partOf l)) 10000 (10 ^ (partOf l).length)
def parseR (l : List UInt8) : Int × Int :=
  if formB l = true then (if nrOk (numL (wholeOf l)) 10000 1 = true then (sgnN (negOf l) (partsOf l : Nat), sgnE (partsOf l : Nat)) else (0, 5)) else (0, 4)

theorem trimPrefix_len (l : List UInt8) : (Lib.trimPrefix l [45]).length ≤ l.length := by
  unfold Lib.trimPrefix; split
  · simp
  · omega
theorem cut_lens (l : List UInt8) : (Lib.cut l [46]).1.length ≤ l.length ∧ (Lib.cut l [46]).2.1.length ≤ l.length ∧ ((Lib.cut l [46]).2.2 = false → (Lib.cut l [46]).2.1 = []) := by
  unfold Lib.cut; split
  · refine ⟨by simp; omega, by simp, by simp⟩
  · refine ⟨by simp, by simp, by simp⟩
theorem part_facts (l : List UInt8) (h : formB l = true) : (partOf l).length ≤ 18 ∧ (partOf l).all isDig = true ∧ (wholeOf l).length ≤ 18 ∧ (wholeOf l).all isDig = true := by
  unfold formB at h
  rw [Bool.and_eq_true] at h
  obtain ⟨h1, h2⟩ := h
  have hd : ∀ x : List UInt8, digB x = true → x.length ≤ 18 ∧ x.all isDig = true := by
    intro x hx
    unfold digB at hx
    rw [Bool.and_eq_true, Bool.and_eq_true] at hx
    exact ⟨of_decide_eq_true hx.1.2, hx.2⟩
  refine ⟨?_, ?_, (hd _ h1).1, (hd _ h1).2⟩
  · cases hdot : dotOf l
    · have := (cut_lens (Lib.trimPrefix l [45])).2.2 hdot
      unfold partOf; rw [this]; simp
    · rw [hdot] at h2; exact (hd _ h2).1
  · cases hdot : dotOf l
    · have := (cut_lens (Lib.trimPrefix l [45])).2.2 hdot
      unfold partOf; rw [this]; rfl
    · rw [hdot] at h2; exact (hd _ h2).2

theorem frac_le (x z : Nat) (h : x < z) : nrV x 10000 z ≤ 10000 := by
  unfold nrV
  have hz : 0 < z := by omega
  have h1 : x * 10000 / z ≤ 9999 := by
    have : x * 10000 / z < 10000 := by
      rw [Nat.div_lt_iff_lt_mul hz, Nat.mul_comm 10000 z]
      exact Nat.mul_lt_mul_of_pos_right h (by omega)
    omega
  split
  · split <;> omega
  · omega
theorem cut45 (s : ByteArray) (l : List UInt8) (w : World) (hl : s.data.toList = l) :
    Calls Tryd.prog 45 #[.string s, .string ⟨#[45]⟩] w fun e w' => e = .returned (.tuple #[.string ⟨(Lib.trimPrefix l [45]).toArray⟩, .bool (negOf l)]) ∧ w' = w := by
  subst hl
  exact Tryd.strings_CutPrefix s ⟨#[45]⟩ w
theorem cut46 (l : List UInt8) (w : World) (hl : (Lib.trimPrefix l [45]).length < 4294967281) (hm : lenCell w) :
    Calls Tryd.prog 46 #[.string ⟨(Lib.trimPrefix l [45]).toArray⟩, .string ⟨#[46]⟩] w fun e w' => e = .returned (.tuple #[.string ⟨(wholeOf l).toArray⟩, .string ⟨(partOf l).toArray⟩, .bool (dotOf l)]) ∧ ∃ n, w' = w.drewN n := by
  obtain ⟨m, hm⟩ := hm
  exact Tryd.strings_Cut ⟨(Lib.trimPrefix l [45]).toArray⟩ ⟨#[46]⟩ m w hl hm
theorem digits_list (x : List UInt8) (w : World) (hx : x.length ≤ 4294967281) :
    Calls Tryd.prog 47 #[.string ⟨x.toArray⟩] w fun e w' => e = .returned (.bool (digB x)) ∧ w' = w :=
  digits_any ⟨x.toArray⟩ w (by unfold maxLen; show x.length ≤ _; omega)
theorem number_list (x : List UInt8) (w : World) (hx : x.length ≤ 18) (hd : x.all isDig = true) :
    Calls Tryd.prog 48 #[.string ⟨x.toArray⟩] w fun e w' => e = .returned (.int .u64 ((numL x : Nat) : Int)) ∧ w' = w :=
  number_any ⟨x.toArray⟩ w hx hd
theorem numL_18 (x : List UInt8) (hx : x.length ≤ 18) (hd : x.all isDig = true) : numL x < 1000000000000000000 := by
  have h := numL_lt x hd
  have hp : 10 ^ x.length ≤ 10 ^ 18 := Nat.pow_le_pow_right (by omega) hx
  have e : (10 ^ 18 : Nat) = 1000000000000000000 := by decide
  omega

set_option maxHeartbeats 1000000 in
theorem parse_any (s : ByteArray) (w : World) (hs : s.size < 4294967281) (hm : lenCell w) :
    Calls Tryd.prog 29 #[.string s] w fun e w' => e = .returned (.tuple #[.int .i64 (parseR s.data.toList).1, .int .i64 (parseR s.data.toList).2]) ∧ Below w.heap.size w w' := by
  obtain ⟨l, hl⟩ : ∃ l, s.data.toList = l := ⟨_, rfl⟩
  have hsz : s.size = l.length := by rw [← hl]; rfl
  obtain ⟨c1, c2, c3⟩ := cut_lens (Lib.trimPrefix l [45])
  have ct := trimPrefix_len l
  have hwl : (wholeOf l).length ≤ 4294967281 := by unfold wholeOf; omega
  have hpl : (partOf l).length ≤ 4294967281 := by unfold partOf; omega
  rw [hl]
  have HM := hide hm
  have HL := hide hl
  have HTL : Hid ((Lib.trimPrefix l [45]).length < 4294967281) := hide (by omega)
  clear hm hl c1 c2 c3 ct hsz
  cases hf : formB l
  · have hs : parseR l = (0, 4) := by unfold parseR; rw [hf]; rfl
    rw [hs]
    unfold formB at hf
    cases hw : digB (wholeOf l)
    · have HW := hide hw
      clear hs hf hw
      go_enter Tryd.func29, Tryd.ntmps29
      go_wp2_with fail
      refine (cut45 s l _ (unhide HL)).mono ?_
      rintro e w' ⟨rfl, rfl⟩
      go_wp2_with fail
      refine (cut46 l _ (unhide HTL) (unhide HM)).mono ?_
      rintro e w2 ⟨rfl, n, rfl⟩
      go_wp2_with fail
      refine (digits_list (wholeOf l) _ hwl).mono ?_
      rintro e w3 ⟨rfl, rfl⟩
      rw [unhide HW]
      go_wp2
      go_ret2
      exact ⟨rfl, below_drewN (Below.refl _ _) _⟩
    · have hdt : dotOf l = true := by
        rw [hw] at hf
        cases hd : dotOf l
        · rw [hd] at hf; cases hf
        · rfl
      have hpt : digB (partOf l) = false := by rw [hw, hdt] at hf; exact hf
      have HW := hide hw
      have HPT := hide hpt
      clear hs hf hw hpt
      go_enter Tryd.func29, Tryd.ntmps29
      go_wp2_with fail
      refine (cut45 s l _ (unhide HL)).mono ?_
      rintro e w' ⟨rfl, rfl⟩
      go_wp2_with fail
      refine (cut46 l _ (unhide HTL) (unhide HM)).mono ?_
      rintro e w2 ⟨rfl, n, rfl⟩
      go_wp2_with fail
      refine (digits_list (wholeOf l) _ hwl).mono ?_
      rintro e w3 ⟨rfl, rfl⟩
      rw [unhide HW]
      go_wp2_with fail
      refine (digits_list (partOf l) _ hpl).mono ?_
      rintro e w4 ⟨rfl, rfl⟩
      rw [unhide HPT]
      go_wp2
      go_ret2
      exact ⟨rfl, below_drewN (Below.refl _ _) _⟩
  · obtain ⟨p1, p2, p3, p4⟩ := part_facts l hf
    have n1 := numL_18 _ p1 p2
    have n3 := numL_18 _ p3 p4
    have P2 := hide p2
    have P4 := hide p4
    have HF := hide hf
    have hw : digB (wholeOf l) = true := by unfold formB at hf; rw [Bool.and_eq_true] at hf; exact hf.1
    have HW := hide hw
    have hpt : dotOf l = true → digB (partOf l) = true := by
      intro hd
      unfold formB at hf; rw [Bool.and_eq_true, hd] at hf; exact hf.2
    have HPT := hide hpt
    clear p2 p4 hf hw hpt hs
    have hp0 : 0 < 10 ^ (partOf l).length := Nat.pow_pos (by omega)
    have hp9 : 10 ^ (partOf l).length ≤ 10 ^ 18 := Nat.pow_le_pow_right (by omega) p1
    have e18 : (10 ^ 18 : Nat) = 1000000000000000000 := by decide
    rw [e18] at hp9
    clear e18
    have hv1 := nrV_le (numL (wholeOf l)) 10000 1
    have hv2 := frac_le (numL (partOf l)) (10 ^ (partOf l).length) (numL_lt _ (unhide P2))
    cases hk : nrOk (numL (wholeOf l)) 10000 1
    · have hs : parseR l = (0, 5) := by unfold parseR; rw [unhide HF, hk]; rfl
      have HK := hide hk
      rw [hs]
      clear hk hs
      cases hd : dotOf l
      · have HDD := hide hd
        go_enter Tryd.func29, Tryd.ntmps29
        go_wp2_with fail
        refine (cut45 s l _ (unhide HL)).mono ?_
        rintro e w' ⟨rfl, rfl⟩
        go_wp2_with fail
        refine (cut46 l _ (unhide HTL) (unhide HM)).mono ?_
        rintro e w2 ⟨rfl, n, rfl⟩
        go_wp2_with fail
        refine (digits_list (wholeOf l) _ hwl).mono ?_
        rintro e w3 ⟨rfl, rfl⟩
        rw [unhide HW]
        go_wp2_with fail
        refine (number_list (wholeOf l) _ p3 (unhide P4)).mono ?_
        rintro e w5 ⟨rfl, rfl⟩
        go_wp2_with fail
        refine (nearest_any (numL (wholeOf l)) 10000 1 _ (by omega) (by omega) (by omega) (by omega)).mono ?_
        rintro e w6 ⟨rfl, hb⟩
        rw [unhide HK]
        go_wp2
        go_ret2
        exact ⟨rfl, below_then (below_drewN (Below.refl _ _) _) hb⟩
      · have HP2 := hide ((unhide HPT) hd)
        go_enter Tryd.func29, Tryd.ntmps29
        go_wp2_with fail
        refine (cut45 s l _ (unhide HL)).mono ?_
        rintro e w' ⟨rfl, rfl⟩
        go_wp2_with fail
        refine (cut46 l _ (unhide HTL) (unhide HM)).mono ?_
        rintro e w2 ⟨rfl, n, rfl⟩
        go_wp2_with fail
        refine (digits_list (wholeOf l) _ hwl).mono ?_
        rintro e w3 ⟨rfl, rfl⟩
        rw [unhide HW]
        go_wp2_with fail
        refine (digits_list (partOf l) _ hpl).mono ?_
        rintro e w4 ⟨rfl, rfl⟩
        rw [unhide HP2]
        go_wp2_with fail
        refine (number_list (wholeOf l) _ p3 (unhide P4)).mono ?_
        rintro e w5 ⟨rfl, rfl⟩
        go_wp2_with fail
        refine (nearest_any (numL (wholeOf l)) 10000 1 _ (by omega) (by omega) (by omega) (by omega)).mono ?_
        rintro e w6 ⟨rfl, hb⟩
        rw [unhide HK]
        go_wp2
        go_ret2
        exact ⟨rfl, below_then (below_drewN (Below.refl _ _) _) hb⟩
    · have hs : parseR l = (sgnN (negOf l) (partsOf l : Nat), sgnE (partsOf l : Nat)) := by unfold parseR; rw [unhide HF, hk]; rfl
      have HK := hide hk
      have HPO : Hid (partsOf l = nrV (numL (wholeOf l)) 10000 1 + nrV (numL (partOf l)) 10000 (10 ^ (partOf l).length)) := hide rfl
      rw [hs]
      clear hk hs
      cases hd : dotOf l
      · have HDD := hide hd
        go_enter Tryd.func29, Tryd.ntmps29
        go_wp2_with fail
        refine (cut45 s l _ (unhide HL)).mono ?_
        rintro e w' ⟨rfl, rfl⟩
        go_wp2_with fail
        refine (cut46 l _ (unhide HTL) (unhide HM)).mono ?_
        rintro e w2 ⟨rfl, n, rfl⟩
        go_wp2_with fail
        refine (digits_list (wholeOf l) _ hwl).mono ?_
        rintro e w3 ⟨rfl, rfl⟩
        rw [unhide HW]
        go_wp2_with fail
        refine (number_list (wholeOf l) _ p3 (unhide P4)).mono ?_
        rintro e w5 ⟨rfl, rfl⟩
        go_wp2_with fail
        refine (nearest_any (numL (wholeOf l)) 10000 1 _ (by omega) (by omega) (by omega) (by omega)).mono ?_
        rintro e w6 ⟨rfl, hb⟩
        rw [unhide HK]
        go_wp2_with fail
        refine (number_list (partOf l) _ p1 (unhide P2)).mono ?_
        rintro e w7 ⟨rfl, rfl⟩
        go_wp2_with fail
        refine (power_any (partOf l).length _ (by omega)).mono ?_
        rintro e w8 ⟨rfl, rfl⟩
        go_wp2_with fail
        refine (nearest_any (numL (partOf l)) 10000 (10 ^ (partOf l).length) _ (by omega) (by omega) hp0 (by omega)).mono ?_
        rintro e w9 ⟨rfl, hb2⟩
        go_wp2_with fail
        refine (signed_any (negOf l) _ _ (by omega) (by omega)).mono ?_
        rintro e w10 ⟨rfl, rfl⟩
        go_wp2
        go_ret2
        exact ⟨by rw [unhide HPO]; rfl, below_then (below_then (below_drewN (Below.refl _ _) _) hb) hb2⟩
      · have HP2 := hide ((unhide HPT) hd)
        go_enter Tryd.func29, Tryd.ntmps29
        go_wp2_with fail
        refine (cut45 s l _ (unhide HL)).mono ?_
        rintro e w' ⟨rfl, rfl⟩
        go_wp2_with fail
        refine (cut46 l _ (unhide HTL) (unhide HM)).mono ?_
        rintro e w2 ⟨rfl, n, rfl⟩
        go_wp2_with fail
        refine (digits_list (wholeOf l) _ hwl).mono ?_
        rintro e w3 ⟨rfl, rfl⟩
        rw [unhide HW]
        go_wp2_with fail
        refine (digits_list (partOf l) _ hpl).mono ?_
        rintro e w4 ⟨rfl, rfl⟩
        rw [unhide HP2]
        go_wp2_with fail
        refine (number_list (wholeOf l) _ p3 (unhide P4)).mono ?_
        rintro e w5 ⟨rfl, rfl⟩
        go_wp2_with fail
        refine (nearest_any (numL (wholeOf l)) 10000 1 _ (by omega) (by omega) (by omega) (by omega)).mono ?_
        rintro e w6 ⟨rfl, hb⟩
        rw [unhide HK]
        go_wp2_with fail
        refine (number_list (partOf l) _ p1 (unhide P2)).mono ?_
        rintro e w7 ⟨rfl, rfl⟩
        go_wp2_with fail
        refine (power_any (partOf l).length _ (by omega)).mono ?_
        rintro e w8 ⟨rfl, rfl⟩
        go_wp2_with fail
        refine (nearest_any (numL (partOf l)) 10000 (10 ^ (partOf l).length) _ (by omega) (by omega) hp0 (by omega)).mono ?_
        rintro e w9 ⟨rfl, hb2⟩
        go_wp2_with fail
        refine (signed_any (negOf l) _ _ (by omega) (by omega)).mono ?_
        rintro e w10 ⟨rfl, rfl⟩
        go_wp2
        go_ret2
        exact ⟨by rw [unhide HPO]; rfl, below_then (below_then (below_drewN (Below.refl _ _) _) hb) hb2⟩
end Go.Proofs.YtobkmjjdnfimoaaDoor
