/- The contract of the reference's Whole. -/
import Derived.Test.YtobkmjjdnfimoaaDoorRfJ
namespace Go.Proofs.YtobkmjjdnfimoaaDoor
open Go.RowKit

theorem whole_eq (a : Int) (zs : List Int) (hd : Dc.Dig zs) (hv : Dc.val zs = (a.natAbs : Int)) (hl : 4 < zs.length) (h1 : -9000000000000000000 ≤ a) (h2 : a ≤ 9000000000000000000) :
    Dc.val (zs.drop 4) = (a.natAbs : Int) / 10000 ∧ sgnN (decide (a < 0)) ((a.natAbs : Int) / 10000) = a.tdiv 10000 := by
  have e := Dc.val_append (zs.take 4) (zs.drop 4)
  rw [List.take_append_drop, List.length_take, Nat.min_eq_left (by omega), hv] at e
  have b1 := Dc.val_nonneg (zs.take 4) (hd.take 4)
  have b2 := Dc.val_lt (zs.take 4) (hd.take 4)
  rw [List.length_take, Nat.min_eq_left (by omega)] at b2
  have e4 : (10 : Int) ^ 4 = 10000 := by decide
  rw [e4] at e b2
  have ht : (a.tdiv 10000).natAbs = a.natAbs / 10000 := Int.natAbs_tdiv a 10000
  refine ⟨by omega, ?_⟩
  unfold sgnN
  rw [if_neg (by omega)]
  by_cases ha : a < 0
  · rw [decide_eq_true ha, if_pos rfl]
    have h3 : a.tdiv 10000 ≤ 0 := by
      have := Int.tdiv_nonneg (show 0 ≤ -a by omega) (show (0 : Int) ≤ 10000 by omega)
      rw [Int.neg_tdiv] at this
      omega
    omega
  · rw [decide_eq_false ha]
    have h3 : 0 ≤ a.tdiv 10000 := Int.tdiv_nonneg (by omega) (by omega)
    show (a.natAbs : Int) / 10000 = a.tdiv 10000
    omega
theorem whole_small (a : Int) (zs : List Int) (hd : Dc.Dig zs) (hv : Dc.val zs = (a.natAbs : Int)) (hl : zs.length ≤ 4) : a.tdiv 10000 = 0 := by
  have b2 := Dc.val_lt zs hd
  have h3 : (10 : Int) ^ zs.length ≤ 10 ^ 4 := Dc.pow_le hl
  have e4 : (10 : Int) ^ 4 = 10000 := by decide
  have ht : (a.tdiv 10000).natAbs = a.natAbs / 10000 := Int.natAbs_tdiv a 10000
  omega
theorem cn_drop {zs : List Int} (h : Dc.Cn zs) (k : Nat) : Dc.Cn (zs.drop k) := by
  intro x l' e
  refine h x (zs.take k ++ l') ?_
  rw [List.append_assoc, ← e, List.take_append_drop]
theorem getD_drop (zs : List Int) (k i : Nat) : (zs.drop k).getD i 0 = zs.getD (k + i) 0 := by
  rw [List.getD_eq_getElem?_getD, List.getD_eq_getElem?_getD, List.getElem?_drop]

set_option maxRecDepth 100000 in
set_option maxHeartbeats 4000000 in
theorem whole_ref (a : Int) (w : World) : Calls Tryd.prog 28 #[.int .i64 a] w fun e w' => e = .returned (.int .i64 (wholeV a)) ∧ Below w.heap.size w w' := by
  cases hg : goodB a
  · have hs : wholeV a = 0 := by unfold wholeV; rw [hg]; rfl
    have HG := hide hg
    rw [hs]
    clear hg hs
    go_enter Tryd.func28, Tryd.ntmps28
    go_wp2_with fail
    refine (good_ref a _).mono ?_
    rintro e w1 ⟨rfl, rfl⟩
    rw [unhide HG]
    go_wp2
    go_ret
    exact ⟨rfl, Below.refl _ _⟩
  · have hs : wholeV a = a.tdiv 10000 := by unfold wholeV; rw [hg]; rfl
    have HG := hide hg
    rw [goodB_iff] at hg
    obtain ⟨a1, a2⟩ := hg
    rw [hs]
    clear hs
    go_enter Tryd.func28, Tryd.ntmps28
    go_wp2_with fail
    refine (good_ref a _).mono ?_
    rintro e w1 ⟨rfl, rfl⟩
    rw [unhide HG]
    go_wp2_with fail
    refine (digits_ref a _ (by omega) (by omega)).mono ?_
    rintro e w2 ⟨b2, vd, zs, rfl, x1, x2, x3, x4, x5⟩
    obtain ⟨lz, hlz⟩ : ∃ lz, zs.length = lz := ⟨_, rfl⟩
    have hlz9 : lz ≤ 19 := by omega
    rcases x1 with ⟨ez, ad, cap, rfl⟩ | ⟨b, o, cap, rfl, hc, hlt, hcell⟩
    · have HT := hide (whole_small a zs x2 x4 (by rw [ez]; simp))
      clear x2 x3 x4 x5 ez hlz hlz9
      go_wp2
      go_ret
      exact ⟨by rw [unhide HT]; rfl, b2⟩
    · rw [hlz] at hc hcell ⊢
      by_cases h4 : lz ≤ 4
      · have HT := hide (whole_small a zs x2 x4 (by omega))
        have HC := hide hcell
        have HX := hide (And.intro x2 (And.intro x3 (And.intro x4 x5)))
        have HLZ := hide hlz
        clear x2 x3 x4 x5 hlz hcell
        go_wp2
        go_ret
        exact ⟨by rw [unhide HT]; rfl, b2⟩
      · obtain ⟨w1', w2'⟩ := whole_eq a zs x2 x4 (by omega) a1 a2
        have HW := hide (And.intro w1' w2')
        have HA : Hid (Arr w2 (.slice (some ⟨b, o + 4, none⟩) (lz - 4) (cap - 4)) (zs.drop 4)) := hide (Or.inr ⟨b, o + 4, cap - 4, by rw [List.length_drop, hlz], by rw [List.length_drop, hlz]; omega, hlt, fun i hi => by
          rw [List.length_drop, hlz] at hi
          rw [Nat.add_assoc, hcell (4 + i) (by omega), getD_drop]⟩)
        have HX := hide (And.intro x2 (And.intro x3 (And.intro x4 x5)))
        have HLZ := hide hlz
        clear x2 x3 x4 x5 hlz hcell w1' w2'
        go_wp2_with fail
        refine (number_ref _ (zs.drop 4) _ _ (by rw [List.length_drop]; have := unhide HLZ; omega) (unhide HA) (fun x hx => (unhide HX).1 x (List.mem_of_mem_drop hx)) (cn_drop (unhide HX).2.1 4)).mono ?_
        rintro e w3 ⟨rfl, b3⟩
        rw [(unhide HW).1, (unhide HW).2]
        go_wp2
        go_ret
        exact ⟨rfl, below_next b2 b3⟩
end Go.Proofs.YtobkmjjdnfimoaaDoor
