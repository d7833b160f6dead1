/- What layer 9 tells, plainly. -/
import Derived.BigQuiet
import Derived.BigRegion
import Derived.Deep.CutBlock
import Derived.Deep.CutRange
import Derived.Deep.DeepFit
import Derived.Deep.QuietTactic
import Derived.Laws.Bits64b
import Derived.Laws.BitsAllLaws
import Derived.Laws.IdiomStrings
import Derived.Laws.Rows
import Derived.Lib.BitFns
import Derived.Lib.IndexBytes
import Derived.Lib.ItoaMem
import Derived.Lib.ItoaNum
import Derived.Lib.Walk
import Derived.Shelf.Bits.Mul64
import Derived.Shelf.LaysM
import Derived.Shelf.Small.Bits
import Derived.Shelf.Small.Strs
import Derived.Shelf.Small.Wraps
import Derived.Shelf.Strconv.Itoa0
import Derived.Shelf.Strconv.Itoa1
import Derived.Shelf.Strconv.Itoa2
import Derived.Shelf.Strings.AsciiSet
import Derived.Shelf.Strings.Cut
import Derived.Shelf.Strings.Prefix
import Derived.Shelf.Strings.Search1
import Derived.Shelf.Strings.Search2
import Derived.Shelf.Strings.Shaped
import Derived.Shelf.Strings.Trim
import Derived.Test.YtbeijnflfmjgfaaGreatDoorProg
import Derived.Test.YtbeijnflfmjgfaaGreatDoorRows
import Derived.WalkKit
import Derived.WalkLawsBesides
import Derived.WalkSmall
import Derived.WalkSpells
import Ieee.Arith
import Derived.Test.YtbeijnflfmjgfaaGreatDoorZnAA
import Derived.Test.YtbeijnflfmjgfaaGreatDoorZnAB
import Derived.Test.YtbeijnflfmjgfaaGreatDoorZnAC
import Derived.Test.YtbeijnflfmjgfaaGreatDoorZnAD
import Derived.Test.YtbeijnflfmjgfaaGreatDoorZnAE
import Derived.Test.YtbeijnflfmjgfaaGreatDoorZnAF
import Derived.Test.YtbeijnflfmjgfaaGreatDoorZnAG
import Derived.Test.YtbeijnflfmjgfaaGreatDoorZnAH
namespace Go.Proofs.YtbeijnflfmjgfaaGreatDoor
open Go.RowKit

def zV : Vl := ⟨0, 0, noText, false, 0⟩
def toldV (r : Int × Int) : Vl := if r.2 = 6 then vE 1 else if r.2 = 0 then vN r.1 else vE 2
def powL (a : Int) : Nat → Int → Int × Int
  | 0, p => (p, 0)
  | n + 1, p => if (mulR p a).2 = 0 then powL a n (mulR p a).1 else (0, (mulR p a).2)
def powV (a b : Int) : Vl :=
  if b.tmod 10000 ≠ 0 ∨ b < -10000000 ∨ 10000000 < b then vE 2
  else if (powL a (b.tdiv 10000).natAbs 10000).2 ≠ 0 then toldV (powL a (b.tdiv 10000).natAbs 10000)
  else if b < 0 then toldV (divR 10000 (powL a (b.tdiv 10000).natAbs 10000).1) else vN (powL a (b.tdiv 10000).natAbs 10000).1
def lineL (s : List UInt8) : Nat :=
  if s = [61] ∨ s = [60, 62] ∨ s = [60] ∨ s = [60, 61] ∨ s = [62] ∨ s = [62, 61] then 1
  else if s = [38] then 2 else if s = [43] ∨ s = [45] then 3 else if s = [42] ∨ s = [47] then 4 else if s = [94] then 5 else 0
def cmpL (s : List UInt8) (o : Int) : Bool :=
  if s = [61] then decide (o = 0) else if s = [60, 62] then !decide (o = 0) else if s = [60] then decide (o = -1)
  else if s = [60, 61] then !decide (o = 1) else if s = [62] then decide (o = 1) else !decide (o = -1)
def arithV (s : List UInt8) (x y : Int) : Vl :=
  if s = [43] then toldV (addN x y, addE x y) else if s = [45] then toldV (subR x y) else if s = [42] then toldV (mulR x y)
  else if s = [47] then toldV (divR x y) else powV x y
def joinV (x y : ByteArray × Int) : Vl := if x.2 ≠ 0 then vE x.2 else if y.2 ≠ 0 then vE y.2 else vT (x.1 ++ y.1)
def bothV (s : List UInt8) (x y : Int × Int) : Vl := if x.2 ≠ 0 then vE x.2 else if y.2 ≠ 0 then vE y.2 else arithV s x.1 y.1
def binS (s : List UInt8) (a b : Vl) : Vl :=
  if lineL s = 0 then zV
  else if lineL s = 1 then (if (ordV3 a b).2 ≠ 0 then vE (ordV3 a b).2 else vB (cmpL s (ordV3 a b).1))
  else if lineL s = 2 then joinV (asTextV a) (asTextV b) else bothV s (asNumV a) (asNumV b)
def binB (s : List UInt8) : Bool := decide (lineL s ≠ 0)
def negV (x : Int × Int) : Vl := if x.2 ≠ 0 then vE x.2 else vN (-x.1)
def pctV (x : Int × Int) : Vl := if x.2 ≠ 0 then vE x.2 else toldV (divR x.1 1000000)
def takesL (s : List UInt8) : Nat :=
  if s = [65, 66, 83] ∨ s = [83, 73, 71, 78] ∨ s = [73, 78, 84] ∨ s = [84, 82, 85, 78, 67] ∨ s = [83, 81, 82, 84] ∨ s = [70, 65, 67, 84] ∨ s = [69, 86, 69, 78] then 1
  else if s = [82, 79, 85, 78, 68] ∨ s = [82, 79, 85, 78, 68, 85, 80] ∨ s = [77, 79, 68] ∨ s = [81, 85, 79, 84, 73, 69, 78, 84] ∨ s = [80, 79, 87, 69, 82] ∨ s = [71, 67, 68] ∨ s = [82, 65, 84, 73, 79] then 2
  else 0
def upP (a : Nat) (k : Nat) : Nat := (a + (10 ^ k - 1)) / 10 ^ k * 10 ^ k
def upV (a p : Int) : Vl := if 3 < p then vN a else toldV (sgnN (decide (a < 0)) (upP a.natAbs (4 - p).toNat : Nat), sgnE (upP a.natAbs (4 - p).toNat : Nat))
def factL : Nat → Int → Int → Int × Int
  | 0, _, p => (p, 0)
  | n + 1, k, p => if (mulR p k).2 = 0 then factL n (k + 10000) (mulR p k).1 else (0, (mulR p k).2)
def factV (a : Int) : Vl := if a.tmod 10000 ≠ 0 ∨ a < 0 then vE 2 else toldV (factL (a / 10000 - 1).toNat 20000 10000)
def quoV (a b : Int) : Vl := if b = 0 then vE 1 else if wholeB (a.tdiv b) = true then vN (10000 * a.tdiv b) else vE 2
def gcdV (a b : Int) : Vl := if a.tmod 10000 ≠ 0 ∨ b.tmod 10000 ≠ 0 ∨ a < 0 ∨ b < 0 then vE 2 else vN (Nat.gcd a.toNat b.toNat : Nat)
theorem toList_lit {s : ByteArray} {l : List UInt8} (h : s.toList = l) : s = ⟨l.toArray⟩ := by
  subst h
  rw [ByteArray.toList_eq]
theorem ne_lit {s : ByteArray} {l : List UInt8} (h : s.toList ≠ l) : (s.toList == l) = false := by simpa using h
theorem vE_bare {f : Int} (h1 : 1 ≤ f) (h2 : f ≤ 8) : vE f = ⟨4, 0, noText, false, f⟩ := by unfold vE; rw [if_neg (by omega)]
end Go.Proofs.YtbeijnflfmjgfaaGreatDoor

namespace Go.Proofs.YtbeijnflfmjgfaaGreatDoor
open Go.RowKit

theorem five_all {w : World} {B : Nat} {t : TypeId} {cs : Array Value} (h : FiveAt w B t cs) :
    ((∃ x, w.cell? ⟨B, 0, none⟩ = some x) ∧ (∃ x, w.cell? ⟨B, 1, none⟩ = some x) ∧ (∃ x, w.cell? ⟨B, 2, none⟩ = some x) ∧ (∃ x, w.cell? ⟨B, 3, none⟩ = some x) ∧ ∃ x, w.cell? ⟨B, 4, none⟩ = some x) ∧
    w.frozen? ⟨B, 0, none⟩ = false ∧ w.frozen? ⟨B, 1, none⟩ = false ∧ w.frozen? ⟨B, 2, none⟩ = false ∧ w.frozen? ⟨B, 3, none⟩ = false ∧ w.frozen? ⟨B, 4, none⟩ = false :=
  ⟨⟨five_c h 0 (by omega), five_c h 1 (by omega), five_c h 2 (by omega), five_c h 3 (by omega), five_c h 4 (by omega)⟩, five_f h 0, five_f h 1, five_f h 2, five_f h 3, five_f h 4⟩

set_option maxHeartbeats 1000000 in
theorem e9_ref (f : Int) (w : World) (h1 : 1 ≤ f) (h2 : f ≤ 8) :
    Calls Tryz.prog 37 #[.int .i64 f] w fun e w' => e = .returned (.agg (vE f).cells) ∧ Below w.heap.size w w' := by
  rw [vE_bare h1 h2]
  unfold Vl.cells
  go_enter Tryz.func37, Tryz.ntmps37
  go_wp2
  refine bodyPost_ret (results_cell_row rfl _ _ _ _ _ _ _ rfl (heap_alloc_new _ _) Tryz.underlying29 rfl infoRef) rfl ?_
  exact ⟨rfl, (Below.refl _ _).alloc (Nat.le_refl _) _⟩

set_option maxHeartbeats 1000000 in
theorem told_ref (n c : Int) (w : World) :
    Calls Tryz.prog 48 #[.int .i64 n, .int .i64 c] w fun e w' => e = .returned (.agg (toldV (n, c)).cells) ∧ Below w.heap.size w w' := by
  unfold toldV
  simp only []
  by_cases h6 : c = 6
  · rw [if_pos h6]
    subst h6
    have HC := hide (fun w => e9_ref 1 w (by omega) (by omega))
    generalize (vE 1) = V at HC ⊢
    go_enter Tryz.func48, Tryz.ntmps48
    go_wp2_with fail
    refine (unhide HC _).mono ?_
    rintro e w1 ⟨rfl, b1⟩
    have hf := five_below (five_new w 29 _ _ _ _ _) b1 (by simp)
    obtain ⟨⟨⟨x0, c0⟩, ⟨x1, c1⟩, ⟨x2, c2⟩, ⟨x3, c3⟩, x4, c4⟩, f0, f1, f2, f3, f4⟩ := five_all hf
    have HF := hide hf
    have HB := hide ((below_al w _).trans (b1.mono (by simp)))
    clear hf b1
    unfold Vl.cells
    go_wp2
    refine bodyPost_ret (results_cell_row rfl _ _ _ _ _ _ _ rfl (five_set (unhide HF) _ _ _ _ _).1 Tryz.underlying29 rfl infoRef) rfl ?_
    exact ⟨rfl, below_five (unhide HB) (Nat.le_refl _) _ _ _ _ _⟩
  · rw [if_neg h6]
    by_cases h0 : c = 0
    · rw [if_pos h0]
      subst h0
      have HC := hide (fun w => n_ref n w)
      generalize (vN n) = V at HC ⊢
      go_enter Tryz.func48, Tryz.ntmps48
      go_wp2_with fail
      refine (unhide HC _).mono ?_
      rintro e w1 ⟨rfl, b1⟩
      have hf := five_below (five_new w 29 _ _ _ _ _) b1 (by simp)
      obtain ⟨⟨⟨x0, c0⟩, ⟨x1, c1⟩, ⟨x2, c2⟩, ⟨x3, c3⟩, x4, c4⟩, f0, f1, f2, f3, f4⟩ := five_all hf
      have HF := hide hf
      have HB := hide ((below_al w _).trans (b1.mono (by simp)))
      clear hf b1
      unfold Vl.cells
      go_wp2
      refine bodyPost_ret (results_cell_row rfl _ _ _ _ _ _ _ rfl (five_set (unhide HF) _ _ _ _ _).1 Tryz.underlying29 rfl infoRef) rfl ?_
      exact ⟨rfl, below_five (unhide HB) (Nat.le_refl _) _ _ _ _ _⟩
    · rw [if_neg h0]
      have c6 : (c == 6) = false := by rw [beq_eq_false_iff_ne]; exact h6
      have c0 : (c == 0) = false := by rw [beq_eq_false_iff_ne]; exact h0
      clear h6 h0
      have HC := hide (fun w => e9_ref 2 w (by omega) (by omega))
      generalize (vE 2) = V at HC ⊢
      go_enter Tryz.func48, Tryz.ntmps48
      go_wp2_with fail
      refine (unhide HC _).mono ?_
      rintro e w1 ⟨rfl, b1⟩
      have hf := five_below (five_new w 29 _ _ _ _ _) b1 (by simp)
      obtain ⟨⟨⟨x0, c0⟩, ⟨x1, c1⟩, ⟨x2, c2⟩, ⟨x3, c3⟩, x4, c4⟩, f0, f1, f2, f3, f4⟩ := five_all hf
      have HF := hide hf
      have HB := hide ((below_al w _).trans (b1.mono (by simp)))
      clear hf b1
      unfold Vl.cells
      go_wp2
      refine bodyPost_ret (results_cell_row rfl _ _ _ _ _ _ _ rfl (five_set (unhide HF) _ _ _ _ _).1 Tryz.underlying29 rfl infoRef) rfl ?_
      exact ⟨rfl, below_five (unhide HB) (Nat.le_refl _) _ _ _ _ _⟩

set_option maxHeartbeats 4000000 in
theorem line9_ref (s : ByteArray) (w : World) : Calls Tryz.prog 35 #[.string s] w fun e w' => e = .returned (.int .i64 (lineL s.toList : Nat)) ∧ w' = w := by
  unfold lineL
  by_cases h1 : s.toList = [61] ∨ s.toList = [60, 62] ∨ s.toList = [60] ∨ s.toList = [60, 61] ∨ s.toList = [62] ∨ s.toList = [62, 61]
  · rw [if_pos h1]
    rcases h1 with h | h | h | h | h | h
    all_goals
      obtain rfl := toList_lit h
      clear h
      go_enter Tryz.func35, Tryz.ntmps35
      go_wp2
      go_ret
      exact ⟨rfl, rfl⟩
  rw [if_neg h1]
  simp only [not_or, ← ne_eq] at h1
  obtain ⟨a1, a2, a3, a4, a5, a6⟩ := h1
  replace a1 := ne_lit a1
  replace a2 := ne_lit a2
  replace a3 := ne_lit a3
  replace a4 := ne_lit a4
  replace a5 := ne_lit a5
  replace a6 := ne_lit a6
  by_cases h2 : s.toList = [38]
  · rw [if_pos h2]
    obtain rfl := toList_lit h2
    clear a1 a2 a3 a4 a5 a6 h2
    go_enter Tryz.func35, Tryz.ntmps35
    go_wp2
    go_ret
    exact ⟨rfl, rfl⟩
  rw [if_neg h2]
  replace h2 := ne_lit h2
  by_cases h3 : s.toList = [43] ∨ s.toList = [45]
  · rw [if_pos h3]
    clear a1 a2 a3 a4 a5 a6 h2
    rcases h3 with h | h
    all_goals
      obtain rfl := toList_lit h
      clear h
      go_enter Tryz.func35, Tryz.ntmps35
      go_wp2
      go_ret
      exact ⟨rfl, rfl⟩
  rw [if_neg h3]
  by_cases h4 : s.toList = [42] ∨ s.toList = [47]
  · rw [if_pos h4]
    clear a1 a2 a3 a4 a5 a6 h2 h3
    rcases h4 with h | h
    all_goals
      obtain rfl := toList_lit h
      clear h
      go_enter Tryz.func35, Tryz.ntmps35
      go_wp2
      go_ret
      exact ⟨rfl, rfl⟩
  rw [if_neg h4]
  by_cases h5 : s.toList = [94]
  · rw [if_pos h5]
    obtain rfl := toList_lit h5
    clear a1 a2 a3 a4 a5 a6 h2 h3 h4 h5
    go_enter Tryz.func35, Tryz.ntmps35
    go_wp2
    go_ret
    exact ⟨rfl, rfl⟩
  rw [if_neg h5]
  simp only [not_or, ← ne_eq] at h3 h4
  obtain ⟨c1, c2⟩ := h3
  obtain ⟨c3, c4⟩ := h4
  replace c1 := ne_lit c1
  replace c2 := ne_lit c2
  replace c3 := ne_lit c3
  replace c4 := ne_lit c4
  replace h5 := ne_lit h5
  go_enter Tryz.func35, Tryz.ntmps35
  go_wp2
  go_ret
  exact ⟨rfl, rfl⟩

set_option maxHeartbeats 4000000 in
theorem compare_ref (s : ByteArray) (o : Int) (w : World) : Calls Tryz.prog 38 #[.string s, .int .i64 o] w fun e w' => e = .returned (.bool (cmpL s.toList o)) ∧ w' = w := by
  unfold cmpL
  by_cases h1 : s.toList = [61]
  · rw [if_pos h1]
    obtain rfl := toList_lit h1
    clear h1
    go_enter Tryz.func38, Tryz.ntmps38
    go_wp2
    go_ret
    exact ⟨by congr 2, rfl⟩
  rw [if_neg h1]
  by_cases h2 : s.toList = [60, 62]
  · rw [if_pos h2]
    obtain rfl := toList_lit h2
    clear h1 h2
    go_enter Tryz.func38, Tryz.ntmps38
    go_wp2
    go_ret
    exact ⟨by congr 2, rfl⟩
  rw [if_neg h2]
  by_cases h3 : s.toList = [60]
  · rw [if_pos h3]
    obtain rfl := toList_lit h3
    clear h1 h2 h3
    go_enter Tryz.func38, Tryz.ntmps38
    go_wp2
    go_ret
    exact ⟨by congr 2, rfl⟩
  rw [if_neg h3]
  by_cases h4 : s.toList = [60, 61]
  · rw [if_pos h4]
    obtain rfl := toList_lit h4
    clear h1 h2 h3 h4
    go_enter Tryz.func38, Tryz.ntmps38
    go_wp2
    go_ret
    exact ⟨by congr 2, rfl⟩
  rw [if_neg h4]
  by_cases h5 : s.toList = [62]
  · rw [if_pos h5]
    obtain rfl := toList_lit h5
    clear h1 h2 h3 h4 h5
    go_enter Tryz.func38, Tryz.ntmps38
    go_wp2
    go_ret
    exact ⟨by congr 2, rfl⟩
  rw [if_neg h5]
  replace h1 := ne_lit h1
  replace h2 := ne_lit h2
  replace h3 := ne_lit h3
  replace h4 := ne_lit h4
  replace h5 := ne_lit h5
  go_enter Tryz.func38, Tryz.ntmps38
  go_wp2
  go_ret
  exact ⟨by congr 2, rfl⟩
end Go.Proofs.YtbeijnflfmjgfaaGreatDoor

namespace Go.Proofs.YtbeijnflfmjgfaaGreatDoor
open Go.RowKit

set_option maxRecDepth 100000 in
set_option maxHeartbeats 8000000 in
theorem pow9_ref (a b : Int) (w : World) (hb1 : -9223372036854775808 ≤ b) (hb2 : b ≤ 9223372036854775807) :
    Calls Tryz.prog 47 #[.int .i64 a, .int .i64 b] w fun e w' => e = .returned (.agg (powV a b).cells) ∧ Below w.heap.size w w' := by
  unfold powV
  by_cases h1 : b.tmod 10000 = 0
  rotate_left
  · rw [if_pos (Or.inl h1)]
    have h1b : (b.tmod 10000 == 0) = false := by rw [beq_eq_false_iff_ne]; exact h1

    have HC := hide (fun w => e9_ref 2 w (by omega) (by omega))
    generalize (vE 2) = V at HC ⊢
    go_enter Tryz.func47, Tryz.ntmps47
    go_wp2_with fail
    refine (unhide HC _).mono ?_
    rintro e wz ⟨rfl, bz⟩
    have hf := five_below (five_new w 29 _ _ _ _ _) bz (five_lt (five_new w 29 _ _ _ _ _))
    obtain ⟨⟨⟨x0, c0⟩, ⟨x1, c1⟩, ⟨x2, c2⟩, ⟨x3, c3⟩, x4, c4⟩, f0, f1, f2, f3, f4⟩ := five_all hf
    have HF := hide hf
    have HB := hide (below_nx (below_al w _) bz)
    clear hf bz
    unfold Vl.cells
    go_wp2
    refine bodyPost_ret (results_cell_row rfl _ _ _ _ _ _ _ rfl (five_set (unhide HF) _ _ _ _ _).1 Tryz.underlying29 rfl infoRef) rfl ?_
    exact ⟨rfl, below_five (unhide HB) (Nat.le_refl _) _ _ _ _ _⟩
  by_cases h2 : b < -10000000
  · rw [if_pos (Or.inr (Or.inl h2))]

    have HC := hide (fun w => e9_ref 2 w (by omega) (by omega))
    generalize (vE 2) = V at HC ⊢
    go_enter Tryz.func47, Tryz.ntmps47
    go_wp2_with fail
    refine (unhide HC _).mono ?_
    rintro e wz ⟨rfl, bz⟩
    have hf := five_below (five_new w 29 _ _ _ _ _) bz (five_lt (five_new w 29 _ _ _ _ _))
    obtain ⟨⟨⟨x0, c0⟩, ⟨x1, c1⟩, ⟨x2, c2⟩, ⟨x3, c3⟩, x4, c4⟩, f0, f1, f2, f3, f4⟩ := five_all hf
    have HF := hide hf
    have HB := hide (below_nx (below_al w _) bz)
    clear hf bz
    unfold Vl.cells
    go_wp2
    refine bodyPost_ret (results_cell_row rfl _ _ _ _ _ _ _ rfl (five_set (unhide HF) _ _ _ _ _).1 Tryz.underlying29 rfl infoRef) rfl ?_
    exact ⟨rfl, below_five (unhide HB) (Nat.le_refl _) _ _ _ _ _⟩
  by_cases h3 : 10000000 < b
  · rw [if_pos (Or.inr (Or.inr h3))]

    have HC := hide (fun w => e9_ref 2 w (by omega) (by omega))
    generalize (vE 2) = V at HC ⊢
    go_enter Tryz.func47, Tryz.ntmps47
    go_wp2_with fail
    refine (unhide HC _).mono ?_
    rintro e wz ⟨rfl, bz⟩
    have hf := five_below (five_new w 29 _ _ _ _ _) bz (five_lt (five_new w 29 _ _ _ _ _))
    obtain ⟨⟨⟨x0, c0⟩, ⟨x1, c1⟩, ⟨x2, c2⟩, ⟨x3, c3⟩, x4, c4⟩, f0, f1, f2, f3, f4⟩ := five_all hf
    have HF := hide hf
    have HB := hide (below_nx (below_al w _) bz)
    clear hf bz
    unfold Vl.cells
    go_wp2
    refine bodyPost_ret (results_cell_row rfl _ _ _ _ _ _ _ rfl (five_set (unhide HF) _ _ _ _ _).1 Tryz.underlying29 rfl infoRef) rfl ?_
    exact ⟨rfl, below_five (unhide HB) (Nat.le_refl _) _ _ _ _ _⟩
  rw [if_neg (by omega)]
  obtain ⟨n, hn⟩ : ∃ n, (b.tdiv 10000).natAbs = n := ⟨_, rfl⟩
  have hq : (b < 0 → b.tdiv 10000 < 0) ∧ (¬ b < 0 → 0 ≤ b.tdiv 10000) ∧ -1000 ≤ b.tdiv 10000 ∧ b.tdiv 10000 ≤ 1000 := by
    have e := Int.mul_tdiv_add_tmod b 10000
    omega
  rw [hn]
  obtain ⟨R, hR⟩ : ∃ R, powL a n 10000 = R := ⟨_, rfl⟩
  rw [hR]
  have HR := hide hR
  clear hR
  by_cases hneg : b < 0
  · have hqn := hq.1 hneg
    have hqn2 : -(b.tdiv 10000) = (n : Int) := by omega
    obtain ⟨q1, q2⟩ := hq.2.2
    rw [if_pos hneg]
    obtain ⟨V, hV⟩ : ∃ V, (if R.2 ≠ 0 then toldV R else toldV (divR 10000 R.1)) = V := ⟨_, rfl⟩
    rw [hV]
    have HV := hide hV
    clear hV hq hn
    go_enter Tryz.func47, Tryz.ntmps47
    go_wp2
    go_loopw [6, 7] (fun t u wr => ∃ (k : Nat) (P : Int), t = .int .i64 P ∧ u = .int .i64 (k : Int) ∧ k ≤ n ∧ Hid (FiveAt wr w.heap.size 29 #[.int .i64 0, .int .i64 0, .string ⟨#[]⟩, .bool false, .int .i64 0]) ∧ Hid (Below w.heap.size w wr) ∧ Hid (powL a (n - k) P = R)) (fun _ u _ => (n - intOf u).toNat)
    case atStart => exact ⟨0, 10000, rfl, rfl, Nat.zero_le _, hide (five_new w 29 _ _ _ _ _), hide (below_al w _), hide (by simpa using unhide HR)⟩
    case round =>
      obtain ⟨k, P, rfl, rfl, hk, HX, HB, HP⟩ := hrel
      by_cases hlt : (k : Int) < n
      · go_wp2_with fail
        refine (mul_ref P a _).mono ?_
        rintro e w1 ⟨rfl, b1⟩
        have HX1 := hide (five_below (unhide HX) b1 (five_lt (unhide HX)))
        have HB1 := hide (below_nx (unhide HB) b1)
        clear b1
        obtain ⟨m, hm⟩ : ∃ m, n - k = m + 1 := ⟨n - k - 1, by omega⟩
        have HM : Hid (n - (k + 1) = m) := hide (by omega)
        have hp := unhide HP
        rw [hm, powL] at hp
        obtain ⟨r, hr⟩ : ∃ r, mulR P a = r := ⟨_, rfl⟩
        rw [hr] at hp ⊢
        clear hm hr HP
        by_cases h0 : r.2 = 0
        · rw [if_pos h0] at hp
          have HP := hide hp
          clear hp
          go_wp2
          go_roundw
          case rel => exact ⟨k + 1, r.1, rfl, int_eqv (by omega), by omega, HX1, HB1, hide (by rw [unhide HM]; exact unhide HP)⟩
          case measure => simp [intOf]; omega
        · rw [if_neg h0] at hp
          have hb0 : (r.2 == 0) = false := by rw [beq_eq_false_iff_ne]; exact h0
          have HC := hide (fun w => told_ref 0 r.2 w)
          have HE1 : toldV (0, r.2) = V := by
            rw [← unhide HV, ← hp]
            rw [if_pos h0]
          rw [HE1] at HC
          clear HE1 hp
          go_wp2_with fail
          refine (unhide HC _).mono ?_
          rintro e wz ⟨rfl, bz⟩
          have hf := five_below (unhide HX1) bz (five_lt (unhide HX1))
          obtain ⟨⟨⟨x0, c0⟩, ⟨x1, c1⟩, ⟨x2, c2⟩, ⟨x3, c3⟩, x4, c4⟩, f0, f1, f2, f3, f4⟩ := five_all hf
          have HF := hide hf
          have HB := hide (below_nx (unhide HB1) bz)
          clear hf bz
          unfold Vl.cells
          go_wp2
          try simp only [Exit.inBlock, Exit.then]
          refine bodyPost_ret (results_cell_row rfl _ _ _ _ _ _ _ rfl (five_set (unhide HF) _ _ _ _ _).1 Tryz.underlying29 rfl infoRef) rfl ?_
          exact ⟨rfl, below_five (unhide HB) (Nat.le_refl _) _ _ _ _ _⟩
      · have hn : n - k = 0 := by omega
        have hp := unhide HP
        rw [hn, powL] at hp
        have HE1 : toldV (divR 10000 P) = V := by
          rw [← unhide HV, ← hp]
          simp only [ne_eq, not_true_eq_false, if_false]
        clear hp hn
        go_wp2_with fail
        refine (div_ref 10000 P _).mono ?_
        rintro e w2 ⟨rfl, b2⟩
        have HX2 := hide (five_below (unhide HX) b2 (five_lt (unhide HX)))
        have HB2 := hide (below_nx (unhide HB) b2)
        have HC := hide (fun w => told_ref (divR 10000 P).1 (divR 10000 P).2 w)
        rw [show toldV ((divR 10000 P).1, (divR 10000 P).2) = V from HE1] at HC
        clear b2
        go_wp2_with fail
        refine (unhide HC _).mono ?_
        rintro e wz ⟨rfl, bz⟩
        have hf := five_below (unhide HX2) bz (five_lt (unhide HX2))
        obtain ⟨⟨⟨x0, c0⟩, ⟨x1, c1⟩, ⟨x2, c2⟩, ⟨x3, c3⟩, x4, c4⟩, f0, f1, f2, f3, f4⟩ := five_all hf
        have HF := hide hf
        have HB := hide (below_nx (unhide HB2) bz)
        clear hf bz
        unfold Vl.cells
        go_wp2
        try simp only [Exit.inBlock, Exit.then]
        refine bodyPost_ret (results_cell_row rfl _ _ _ _ _ _ _ rfl (five_set (unhide HF) _ _ _ _ _).1 Tryz.underlying29 rfl infoRef) rfl ?_
        exact ⟨rfl, below_five (unhide HB) (Nat.le_refl _) _ _ _ _ _⟩
  · have hqn := hq.2.1 hneg
    have hqn2 : b.tdiv 10000 = (n : Int) := by omega
    obtain ⟨q1, q2⟩ := hq.2.2
    rw [if_neg hneg]
    obtain ⟨V, hV⟩ : ∃ V, (if R.2 ≠ 0 then toldV R else vN R.1) = V := ⟨_, rfl⟩
    rw [hV]
    have HV := hide hV
    clear hV hq hn
    go_enter Tryz.func47, Tryz.ntmps47
    go_wp2
    go_loopw [6, 7] (fun t u wr => ∃ (k : Nat) (P : Int), t = .int .i64 P ∧ u = .int .i64 (k : Int) ∧ k ≤ n ∧ Hid (FiveAt wr w.heap.size 29 #[.int .i64 0, .int .i64 0, .string ⟨#[]⟩, .bool false, .int .i64 0]) ∧ Hid (Below w.heap.size w wr) ∧ Hid (powL a (n - k) P = R)) (fun _ u _ => (n - intOf u).toNat)
    case atStart => exact ⟨0, 10000, rfl, rfl, Nat.zero_le _, hide (five_new w 29 _ _ _ _ _), hide (below_al w _), hide (by simpa using unhide HR)⟩
    case round =>
      obtain ⟨k, P, rfl, rfl, hk, HX, HB, HP⟩ := hrel
      by_cases hlt : (k : Int) < n
      · go_wp2_with fail
        refine (mul_ref P a _).mono ?_
        rintro e w1 ⟨rfl, b1⟩
        have HX1 := hide (five_below (unhide HX) b1 (five_lt (unhide HX)))
        have HB1 := hide (below_nx (unhide HB) b1)
        clear b1
        obtain ⟨m, hm⟩ : ∃ m, n - k = m + 1 := ⟨n - k - 1, by omega⟩
        have HM : Hid (n - (k + 1) = m) := hide (by omega)
        have hp := unhide HP
        rw [hm, powL] at hp
        obtain ⟨r, hr⟩ : ∃ r, mulR P a = r := ⟨_, rfl⟩
        rw [hr] at hp ⊢
        clear hm hr HP
        by_cases h0 : r.2 = 0
        · rw [if_pos h0] at hp
          have HP := hide hp
          clear hp
          go_wp2
          go_roundw
          case rel => exact ⟨k + 1, r.1, rfl, int_eqv (by omega), by omega, HX1, HB1, hide (by rw [unhide HM]; exact unhide HP)⟩
          case measure => simp [intOf]; omega
        · rw [if_neg h0] at hp
          have hb0 : (r.2 == 0) = false := by rw [beq_eq_false_iff_ne]; exact h0
          have HC := hide (fun w => told_ref 0 r.2 w)
          have HE1 : toldV (0, r.2) = V := by
            rw [← unhide HV, ← hp]
            rw [if_pos h0]
          rw [HE1] at HC
          clear HE1 hp
          go_wp2_with fail
          refine (unhide HC _).mono ?_
          rintro e wz ⟨rfl, bz⟩
          have hf := five_below (unhide HX1) bz (five_lt (unhide HX1))
          obtain ⟨⟨⟨x0, c0⟩, ⟨x1, c1⟩, ⟨x2, c2⟩, ⟨x3, c3⟩, x4, c4⟩, f0, f1, f2, f3, f4⟩ := five_all hf
          have HF := hide hf
          have HB := hide (below_nx (unhide HB1) bz)
          clear hf bz
          unfold Vl.cells
          go_wp2
          try simp only [Exit.inBlock, Exit.then]
          refine bodyPost_ret (results_cell_row rfl _ _ _ _ _ _ _ rfl (five_set (unhide HF) _ _ _ _ _).1 Tryz.underlying29 rfl infoRef) rfl ?_
          exact ⟨rfl, below_five (unhide HB) (Nat.le_refl _) _ _ _ _ _⟩
      · have hn : n - k = 0 := by omega
        have hp := unhide HP
        rw [hn, powL] at hp
        have HE1 : vN P = V := by
          rw [← unhide HV, ← hp]
          simp only [ne_eq, not_true_eq_false, if_false]
        clear hp hn
        have HC := hide (fun w => n_ref P w)
        rw [show vN P = V from HE1] at HC
        go_wp2_with fail
        refine (unhide HC _).mono ?_
        rintro e wz ⟨rfl, bz⟩
        have hf := five_below (unhide HX) bz (five_lt (unhide HX))
        obtain ⟨⟨⟨x0, c0⟩, ⟨x1, c1⟩, ⟨x2, c2⟩, ⟨x3, c3⟩, x4, c4⟩, f0, f1, f2, f3, f4⟩ := five_all hf
        have HF := hide hf
        have HB := hide (below_nx (unhide HB) bz)
        clear hf bz
        unfold Vl.cells
        go_wp2
        try simp only [Exit.inBlock, Exit.then]
        refine bodyPost_ret (results_cell_row rfl _ _ _ _ _ _ _ rfl (five_set (unhide HF) _ _ _ _ _).1 Tryz.underlying29 rfl infoRef) rfl ?_
        exact ⟨rfl, below_five (unhide HB) (Nat.le_refl _) _ _ _ _ _⟩
end Go.Proofs.YtbeijnflfmjgfaaGreatDoor

namespace Go.Proofs.YtbeijnflfmjgfaaGreatDoor
open Go.RowKit

def RootOf (a : Int) (r : Int) : Prop := ∃ n m : Nat, a = (n : Int) ∧ r = (m : Int) ∧ m ≤ 549755813887 ∧ (m = 0 ∨ m * (m - 1) < n * 10000) ∧ n * 10000 ≤ (m + 1) * m
def rootF (k : Nat) : Nat → Nat → Nat
  | 0, m => m
  | f + 1, m => if k ≤ (m + 1) * m then m else rootF k f (m + 1)
def rootV (a : Int) : Int := (rootF (a.natAbs * 10000) (a.natAbs * 10000) 0 : Nat)
theorem rootF_eq {k r : Nat} (h1 : r = 0 ∨ r * (r - 1) < k) (h2 : k ≤ (r + 1) * r) : ∀ f m : Nat, m ≤ r → r ≤ m + f → rootF k f m = r := by
  intro f
  induction f with
  | zero => intro m a b; unfold rootF; omega
  | succ f ih =>
    intro m a b
    unfold rootF
    split
    · rename_i hk
      rcases Nat.lt_or_ge m r with hlt | hge
      · exfalso
        rcases h1 with h1 | h1
        · omega
        · have : (m + 1) * m ≤ r * (r - 1) := Nat.mul_le_mul (by omega) (by omega)
          omega
      · omega
    · rename_i hk
      have : m ≠ r := fun e => hk (by rw [e]; exact h2)
      exact ih (m + 1) (by omega) (by omega)
theorem rootV_eq {a r : Int} (h : RootOf a r) : rootV a = r := by
  obtain ⟨n, m, rfl, rfl, _, h1, h2⟩ := h
  unfold rootV
  rw [show ((n : Int).natAbs) = n from rfl, rootF_eq h1 h2 _ 0 (Nat.zero_le _) ?_]
  rcases h1 with h1 | h1
  · omega
  · rcases Nat.lt_or_ge m 2 with hm | hm
    · omega
    · have : m * 1 ≤ m * (m - 1) := Nat.mul_le_mul (Nat.le_refl _) (by omega)
      omega
end Go.Proofs.YtbeijnflfmjgfaaGreatDoor

namespace Go.Proofs.YtbeijnflfmjgfaaGreatDoor
open Go.RowKit

def oneV (s : List UInt8) (a : Int) : Vl :=
  if s = [65, 66, 83] then vN (a.natAbs : Int)
  else if s = [83, 73, 71, 78] then (if a < 0 then vN (-10000) else if 0 < a then vN 10000 else vN 0)
  else if s = [73, 78, 84] then vN (floorV a)
  else if s = [84, 82, 85, 78, 67] then vN (a - a.tmod 10000)
  else if s = [83, 81, 82, 84] then (if a < 0 then vE 2 else vN (rootV a))
  else if s = [70, 65, 67, 84] then factV a
  else if a.tmod 10000 ≠ 0 then vE 2 else vB (decide (a.tmod 20000 = 0))

end Go.Proofs.YtbeijnflfmjgfaaGreatDoor

namespace Go.Proofs.YtbeijnflfmjgfaaGreatDoor
open Go.RowKit

theorem up_none (n q s : Nat) (hs : 0 < s) (h : n = q * s) : (n + (s - 1)) / s * s = q * s := by
  subst h
  rw [Nat.add_comm, Nat.add_mul_div_right _ _ hs, Nat.div_eq_of_lt (by omega), Nat.zero_add]
theorem up_some (n q r s : Nat) (h : n = q * s + r) (h1 : 0 < r) (h2 : r < s) : (n + (s - 1)) / s * s = (q + 1) * s := by
  have e : n + (s - 1) = (r - 1) + (q + 1) * s := by rw [Nat.add_mul]; omega
  rw [e, Nat.add_mul_div_right _ _ (by omega), Nat.div_eq_of_lt (by omega), Nat.zero_add]
end Go.Proofs.YtbeijnflfmjgfaaGreatDoor

namespace Go.Proofs.YtbeijnflfmjgfaaGreatDoor.Fl
open Ieee

theorem sw : double.signWeight = 9223372036854775808 := by decide
theorem bn : double.binade = 4503599627370496 := by decide
theorem ir : double.infRung = 9218868437227405312 := by decide
theorem lp : double.leastPlace = -1074 := by decide
theorem fb : double.fractionBits = 52 := rfl

def sgn (b : Nat) : Bool := b / 9223372036854775808 % 2 == 1
def rng (b : Nat) : Nat := b % 9223372036854775808
def mg (r : Nat) : Nat := if r < 4503599627370496 then r else (4503599627370496 + r % 4503599627370496) * 2 ^ (r / 4503599627370496 - 1)
def sg (s : Bool) (x : Nat) : Int := if s then -(x : Int) else x
def kv (b : Nat) : Int := sg (sgn b) (rng b)

def mm (r : Nat) : Nat := if r < 4503599627370496 then r else 4503599627370496 + r % 4503599627370496
def mk (r : Nat) : Nat := r / 4503599627370496 - 1
theorem mg_eq (r : Nat) : mg r = mm r * 2 ^ mk r := by
  unfold mg mm mk
  split
  · rename_i h
    rw [Nat.div_eq_of_lt h]; simp
  · rfl

theorem read_fin (b : Nat) (h : rng b < 9218868437227405312) : double.read b = .number (sgn b) (mm (rng b)) (-1074 + (mk (rng b) : Int)) := by
  unfold Format.read
  rw [sw, bn, ir, lp]
  show (if rng b < 4503599627370496 then Datum.number (sgn b) (rng b) (-1074) else _) = _
  unfold mm mk
  split
  · rename_i h1
    rw [Nat.div_eq_of_lt h1]; rfl
  · rename_i h1
    rw [if_pos (by exact h)]; rfl
theorem read_inf (b : Nat) (h : rng b = 9218868437227405312) : double.read b = .infinity (sgn b) := by
  unfold Format.read
  rw [sw, bn, ir, lp]
  show (if rng b < 4503599627370496 then _ else if rng b < 9218868437227405312 then _ else if rng b = 9218868437227405312 then Datum.infinity (sgn b) else _) = _
  rw [if_neg (by omega), if_neg (by omega), if_pos h]
theorem read_nan (b : Nat) (h : 9218868437227405312 < rng b) : ∃ s t, double.read b = .nan s t := by
  unfold Format.read
  rw [sw, bn, ir, lp]
  refine ⟨sgn b, rng b - 9218868437227405312, ?_⟩
  show (if rng b < 4503599627370496 then _ else if rng b < 9218868437227405312 then _ else if rng b = 9218868437227405312 then _ else Datum.nan (sgn b) (rng b - 9218868437227405312)) = _
  rw [if_neg (by omega), if_neg (by omega), if_neg (by omega)]

theorem flcmp_lt (a b : Int) : (compare a b = .lt) ↔ a < b := by
  show compareOfLessAndEq a b = .lt ↔ _
  unfold compareOfLessAndEq
  split
  · simp [*]
  · split <;> simp [*]
theorem cmp_eq (a b : Int) : (compare a b = .eq) ↔ a = b := by
  show compareOfLessAndEq a b = .eq ↔ _
  unfold compareOfLessAndEq
  split
  · simp; omega
  · split <;> simp [*]
theorem cmp_gt (a b : Int) : (compare a b = .gt) ↔ b < a := by
  show compareOfLessAndEq a b = .gt ↔ _
  unfold compareOfLessAndEq
  split
  · simp; omega
  · split
    · simp [*]
    · simp; omega
theorem cmp_same {a b c d : Int} (h1 : a < b ↔ c < d) (h2 : a = b ↔ c = d) : compare a b = compare c d := by
  show compareOfLessAndEq a b = compareOfLessAndEq c d
  unfold compareOfLessAndEq
  simp only [h1, h2]

theorem mm_lt (r : Nat) : mm r < 9007199254740992 := by
  unfold mm; split
  · omega
  · have := Nat.mod_lt r (show 0 < 4503599627370496 by omega); omega
theorem mm_ge (r : Nat) (h : 4503599627370496 ≤ r) : 4503599627370496 ≤ mm r := by
  unfold mm; rw [if_neg (by omega)]; omega
theorem mg_lt {r s : Nat} (h : r < s) : mg r < mg s := by
  rw [mg_eq, mg_eq]
  by_cases h1 : s < 4503599627370496
  · have e1 : mk r = 0 := by unfold mk; rw [Nat.div_eq_of_lt (by omega)]
    have e2 : mk s = 0 := by unfold mk; rw [Nat.div_eq_of_lt (by omega)]
    rw [e1, e2]; unfold mm; rw [if_pos (by omega), if_pos h1]; omega
  · have hs := mm_ge s (by omega)
    have ps : 0 < 2 ^ mk s := Nat.two_pow_pos _
    by_cases h2 : r < 4503599627370496
    · have e1 : mk r = 0 := by unfold mk; rw [Nat.div_eq_of_lt (by omega)]
      rw [e1, Nat.pow_zero, Nat.mul_one]
      have : mm r = r := by unfold mm; rw [if_pos h2]
      rw [this]
      have : mm s * 1 ≤ mm s * 2 ^ mk s := Nat.mul_le_mul_left _ ps
      omega
    · have hr : mm r < 9007199254740992 := mm_lt r
      rcases Nat.lt_or_ge (mk r) (mk s) with h3 | h3
      · obtain ⟨c, hc⟩ := Nat.exists_eq_add_of_lt h3
        rw [hc, show mk r + c + 1 = 1 + c + mk r by omega, Nat.pow_add, ← Nat.mul_assoc]
        refine Nat.mul_lt_mul_of_pos_right ?_ (Nat.two_pow_pos _)
        rw [Nat.pow_add, Nat.pow_one]
        have : mm s * 2 * 1 ≤ mm s * 2 * 2 ^ c := Nat.mul_le_mul_left _ (Nat.two_pow_pos _)
        rw [← Nat.mul_assoc]; omega
      · have e : mk r = mk s := by
          have : r / 4503599627370496 ≤ s / 4503599627370496 := Nat.div_le_div_right (by omega)
          unfold mk at h3 ⊢; omega
        rw [e]
        refine Nat.mul_lt_mul_of_pos_right ?_ ps
        have e1 : r / 4503599627370496 = s / 4503599627370496 := by
          unfold mk at e; omega
        unfold mm; rw [if_neg h2, if_neg h1]
        omega
theorem mg_le {r s : Nat} (h : r ≤ s) : mg r ≤ mg s := by
  rcases Nat.lt_or_ge r s with h1 | h1
  · exact Nat.le_of_lt (mg_lt h1)
  · have : r = s := by omega
    rw [this]; exact Nat.le_refl _
theorem mg_lt_iff (r s : Nat) : mg r < mg s ↔ r < s := by
  refine ⟨fun h => ?_, mg_lt⟩
  rcases Nat.lt_or_ge r s with h1 | h1
  · exact h1
  · have := mg_le h1; omega
theorem mg_inj {r s : Nat} (h : mg r = mg s) : r = s := by
  rcases Nat.lt_trichotomy r s with h1 | h1 | h1
  · have := mg_lt h1; omega
  · exact h1
  · have := mg_lt h1; omega
theorem mg_zero : mg 0 = 0 := by decide
theorem mg_pos {r : Nat} (h : 0 < r) : 0 < mg r := by have := mg_lt h; rw [mg_zero] at this; exact this

theorem sg_cmp (s t : Bool) (a b c d : Nat) (h2 : a = b ↔ c = d) (h3 : b < a ↔ d < c) (h4 : a = 0 ↔ c = 0) (h5 : b = 0 ↔ d = 0) : compare (sg s a) (sg t b) = compare (sg s c) (sg t d) := by
  cases s <;> cases t <;> refine cmp_same ?_ ?_ <;> simp only [sg] <;> simp only [Bool.false_eq_true, if_false, if_true] <;> omega

theorem order_num (s t : Bool) (m n k l : Nat) : Datum.order (.number s m (-1074 + (k : Int))) (.number t n (-1074 + (l : Int))) = some (compare (sg s (m * 2 ^ k)) (sg t (n * 2 ^ l))) := by
  show some (compare (signed s m ((-1074 + (k : Int)) - min (-1074 + (k : Int)) (-1074 + (l : Int))).toNat) (signed t n ((-1074 + (l : Int)) - min (-1074 + (k : Int)) (-1074 + (l : Int))).toNat)) = _
  have hs : ∀ (s : Bool) (m a : Nat), signed s m a = sg s (m * 2 ^ a) := by
    intro s m a; unfold signed sg; rw [Nat.shiftLeft_eq]
  have e1 : ((-1074 + (k : Int)) - min (-1074 + (k : Int)) (-1074 + (l : Int))).toNat = k - min k l := by omega
  have e2 : ((-1074 + (l : Int)) - min (-1074 + (k : Int)) (-1074 + (l : Int))).toNat = l - min k l := by omega
  rw [e1, e2, hs, hs]
  have p : 0 < 2 ^ min k l := Nat.two_pow_pos _
  have f1 : m * 2 ^ k = m * 2 ^ (k - min k l) * 2 ^ min k l := by rw [Nat.mul_assoc, ← Nat.pow_add, Nat.sub_add_cancel (Nat.min_le_left _ _)]
  have f2 : n * 2 ^ l = n * 2 ^ (l - min k l) * 2 ^ min k l := by rw [Nat.mul_assoc, ← Nat.pow_add, Nat.sub_add_cancel (Nat.min_le_right _ _)]
  rw [f1, f2]
  generalize m * 2 ^ (k - min k l) = x
  generalize n * 2 ^ (l - min k l) = y
  generalize 2 ^ min k l = q at *
  refine congrArg some (sg_cmp s t _ _ _ _ ?_ ?_ ?_ ?_)
  · exact ⟨fun h => by rw [h], fun h => Nat.eq_of_mul_eq_mul_right p h⟩
  · exact (Nat.mul_lt_mul_right p).symm
  · constructor
    · intro h; rw [h, Nat.zero_mul]
    · intro h; rcases Nat.mul_eq_zero.1 h with h | h <;> omega
  · constructor
    · intro h; rw [h, Nat.zero_mul]
    · intro h; rcases Nat.mul_eq_zero.1 h with h | h <;> omega

theorem order_key (x y : Nat) (hx : rng x ≤ 9218868437227405312) (hy : rng y ≤ 9218868437227405312) : double.order x y = some (compare (kv x) (kv y)) := by
  unfold Format.order kv
  rcases Nat.lt_or_eq_of_le hx with h1 | h1 <;> rcases Nat.lt_or_eq_of_le hy with h2 | h2
  · rw [read_fin x h1, read_fin y h2, order_num, ← mg_eq, ← mg_eq]
    refine congrArg some (sg_cmp _ _ _ _ _ _ ⟨mg_inj, fun h => by rw [h]⟩ (mg_lt_iff _ _) ?_ ?_)
    · exact ⟨fun h => mg_inj (by rw [h, mg_zero]), fun h => by rw [h, mg_zero]⟩
    · exact ⟨fun h => mg_inj (by rw [h, mg_zero]), fun h => by rw [h, mg_zero]⟩
  · rw [read_fin x h1, read_inf y h2, h2]
    show some (if sgn y then Ordering.gt else .lt) = _
    refine congrArg some ?_
    cases hs : sgn y
    · refine ((flcmp_lt _ _).2 ?_).symm
      cases hx' : sgn x <;> cases hy' : sgn y <;> simp_all [sg] <;> omega
    · refine ((cmp_gt _ _).2 ?_).symm
      cases hx' : sgn x <;> cases hy' : sgn y <;> simp_all [sg] <;> omega
  · rw [read_inf x h1, read_fin y h2, h1]
    show some (if sgn x then Ordering.lt else .gt) = _
    refine congrArg some ?_
    cases hs : sgn x
    · refine ((cmp_gt _ _).2 ?_).symm
      cases hx' : sgn x <;> cases hy' : sgn y <;> simp_all [sg] <;> omega
    · refine ((flcmp_lt _ _).2 ?_).symm
      cases hx' : sgn x <;> cases hy' : sgn y <;> simp_all [sg] <;> omega
  · rw [read_inf x h1, read_inf y h2, h1, h2]
    show some (compare (sgn y).toNat (sgn x).toNat) = _
    cases sgn x <;> cases sgn y <;> decide
theorem order_nan_l (x y : Nat) (hx : 9218868437227405312 < rng x) : double.order x y = none := by
  unfold Format.order
  obtain ⟨s, t, e⟩ := read_nan x hx
  rw [e]; rfl
theorem some_beq (a b : Ordering) : (some a == some b) = decide (a = b) := by cases a <;> cases b <;> rfl
theorem key_lt (x y : Nat) (hx : rng x ≤ 9218868437227405312) (hy : rng y ≤ 9218868437227405312) : (double.order x y == some .lt) = decide (kv x < kv y) := by
  rw [order_key x y hx hy, some_beq]; exact decide_eq_decide.2 (flcmp_lt _ _)
theorem key_gt (x y : Nat) (hx : rng x ≤ 9218868437227405312) (hy : rng y ≤ 9218868437227405312) : (double.order x y == some .gt) = decide (kv y < kv x) := by
  rw [order_key x y hx hy, some_beq]; exact decide_eq_decide.2 (cmp_gt _ _)
theorem key_eq (x y : Nat) (hx : rng x ≤ 9218868437227405312) (hy : rng y ≤ 9218868437227405312) : (double.order x y == some .eq) = decide (kv x = kv y) := by
  rw [order_key x y hx hy, some_beq]; exact decide_eq_decide.2 (cmp_eq _ _)
end Go.Proofs.YtbeijnflfmjgfaaGreatDoor.Fl

namespace Go.Proofs.YtbeijnflfmjgfaaGreatDoor
open Go.RowKit

def clsV (b : Nat) : Int :=
  if 9218868437227405312 < Fl.rng b then 0 else if Fl.rng b = 9218868437227405312 then (if Fl.sgn b = true then 1 else 6)
    else if Fl.rng b = 0 then (if Fl.sgn b = true then 3 else 4) else if Fl.sgn b = true then 2 else 5

theorem f64_format : FloatKind.f64.format = Ieee.double := rfl
theorem word_eq (b : Nat) (h : b < 18446744073709551616) : b = (if Fl.sgn b = true then 9223372036854775808 + Fl.rng b else Fl.rng b) := by
  unfold Fl.sgn Fl.rng
  by_cases h1 : b < 9223372036854775808
  · rw [Nat.div_eq_of_lt h1, Nat.mod_eq_of_lt h1]; rfl
  · have e : b / 9223372036854775808 = 1 := by omega
    rw [e]; simp; omega
theorem nan_ne (b : Nat) (h : 9218868437227405312 < Fl.rng b) (c : Nat) (o : Ordering) : (FloatKind.f64.format.order b c == some o) = false := by
  rw [f64_format, Fl.order_nan_l b c h]; rfl
theorem kv_max : Fl.kv 9218868437227405311 = 9218868437227405311 := by decide
theorem kv_min : Fl.kv 18442240474082181119 = -9218868437227405311 := by decide
theorem kv_zero : Fl.kv 0 = 0 := by decide
theorem kv_pos {b : Nat} (h : Fl.sgn b = false) : Fl.kv b = (Fl.rng b : Int) := by unfold Fl.kv Fl.sg; rw [h]; rfl
theorem kv_neg {b : Nat} (h : Fl.sgn b = true) : Fl.kv b = -(Fl.rng b : Int) := by unfold Fl.kv Fl.sg; rw [h]; rfl
theorem self_eq (b : Nat) (h : Fl.rng b ≤ 9218868437227405312) : (FloatKind.f64.format.order b b != some .eq) = false := by
  unfold bne; rw [f64_format, Fl.key_eq b b h h]; simp
theorem self_ne (b : Nat) (h : 9218868437227405312 < Fl.rng b) : (FloatKind.f64.format.order b b != some .eq) = true := by
  unfold bne; rw [nan_ne b h]; rfl
theorem below_min (b : Nat) (h : Fl.rng b ≤ 9218868437227405312) : (FloatKind.f64.format.order b 18442240474082181119 == some .lt) = decide (Fl.kv b < -9218868437227405311) := by
  rw [f64_format, Fl.key_lt b _ h (by decide), kv_min]
theorem above_max (b : Nat) (h : Fl.rng b ≤ 9218868437227405312) : (FloatKind.f64.format.order b 9218868437227405311 == some .gt) = decide (9218868437227405311 < Fl.kv b) := by
  rw [f64_format, Fl.key_gt b _ h (by decide), kv_max]
theorem below_zero (b : Nat) (h : Fl.rng b ≤ 9218868437227405312) : (FloatKind.f64.format.order b 0 == some .lt) = decide (Fl.kv b < 0) := by
  rw [f64_format, Fl.key_lt b _ h (by decide), kv_zero]
theorem above_zero (b : Nat) (h : Fl.rng b ≤ 9218868437227405312) : (FloatKind.f64.format.order b 0 == some .gt) = decide (0 < Fl.kv b) := by
  rw [f64_format, Fl.key_gt b _ h (by decide), kv_zero]

set_option maxHeartbeats 400000 in
theorem clsof_any (b : Nat) (w : World) (hb : b < 18446744073709551616) :
    Calls Tryz.prog 142 #[.float .f64 b] w fun e w' => e = .returned (.int .i64 (clsV b)) ∧ w' = w := by
  unfold clsV
  by_cases h1 : 9218868437227405312 < Fl.rng b
  · rw [if_pos h1]
    have e1 := self_ne b h1
    clear h1 hb
    go_enter Tryz.func142, Tryz.ntmps142
    go_wp2
    go_ret
    exact ⟨rfl, rfl⟩
  · rw [if_neg h1]
    have h2 : Fl.rng b ≤ 9218868437227405312 := by omega
    have e1 := self_eq b h2
    have e2 := below_min b h2
    have e3 := above_max b h2
    have e4 := below_zero b h2
    have e5 := above_zero b h2
    have hw := word_eq b hb
    cases hs : Fl.sgn b
    · rw [kv_pos hs] at e2 e3 e4 e5
      rw [hs] at hw
      by_cases h3 : Fl.rng b = 9218868437227405312
      · rw [h3] at e2 e3 e4 e5
        rw [if_pos h3]
        clear h1 h2 hw hs h3 hb
        go_enter Tryz.func142, Tryz.ntmps142
        go_wp2
        go_ret
        exact ⟨rfl, rfl⟩
      · rw [if_neg h3]
        by_cases h4 : Fl.rng b = 0
        · rw [if_pos h4]
          have hb0 : b = 0 := by rw [h4] at hw; exact hw
          subst hb0
          have e6 := run_float_arith (P := Tryz.prog) w .quo 119 .f64 4607182418800017408 0 9218868437227405312 (by decide +kernel)
          have e7 : (FloatKind.f64.format.order 9218868437227405312 0 == some .lt) = false := by decide +kernel
          rw [h4] at e2 e3 e4 e5
          clear h1 h2 hw hs h3 hb h4
          go_enter Tryz.func142, Tryz.ntmps142
          go_wp2
          go_ret
          exact ⟨rfl, rfl⟩
        · rw [if_neg h4]
          have d2 : decide ((Fl.rng b : Int) < -9218868437227405311) = false := by rw [decide_eq_false_iff_not]; omega
          have d3 : decide (9218868437227405311 < (Fl.rng b : Int)) = false := by rw [decide_eq_false_iff_not]; omega
          have d4 : decide ((Fl.rng b : Int) < 0) = false := by rw [decide_eq_false_iff_not]; omega
          have d5 : decide (0 < (Fl.rng b : Int)) = true := by rw [decide_eq_true_iff]; omega
          rw [d2] at e2
          rw [d3] at e3
          rw [d4] at e4
          rw [d5] at e5
          clear d2 d3 d4 d5 h1 h2 hw hs h3 hb h4
          go_enter Tryz.func142, Tryz.ntmps142
          go_wp2
          go_ret
          exact ⟨rfl, rfl⟩
    · rw [kv_neg hs] at e2 e3 e4 e5
      rw [hs] at hw
      by_cases h3 : Fl.rng b = 9218868437227405312
      · rw [h3] at e2 e3 e4 e5
        rw [if_pos h3]
        clear h1 h2 hw hs h3 hb
        go_enter Tryz.func142, Tryz.ntmps142
        go_wp2
        go_ret
        exact ⟨rfl, rfl⟩
      · rw [if_neg h3]
        by_cases h4 : Fl.rng b = 0
        · rw [if_pos h4]
          have hb0 : b = 9223372036854775808 := by rw [h4] at hw; exact hw
          subst hb0
          have e6 := run_float_arith (P := Tryz.prog) w .quo 119 .f64 4607182418800017408 9223372036854775808 18442240474082181120 (by decide +kernel)
          have e7 : (FloatKind.f64.format.order 18442240474082181120 0 == some .lt) = true := by decide +kernel
          rw [h4] at e2 e3 e4 e5
          clear h1 h2 hw hs h3 hb h4
          go_enter Tryz.func142, Tryz.ntmps142
          go_wp2
          go_ret
          exact ⟨rfl, rfl⟩
        · rw [if_neg h4]
          have d2 : decide (-(Fl.rng b : Int) < -9218868437227405311) = false := by rw [decide_eq_false_iff_not]; omega
          have d3 : decide (9218868437227405311 < -(Fl.rng b : Int)) = false := by rw [decide_eq_false_iff_not]; omega
          have d4 : decide (-(Fl.rng b : Int) < 0) = true := by rw [decide_eq_true_iff]; omega
          rw [d2] at e2
          rw [d3] at e3
          rw [d4] at e4
          clear d2 d3 d4 e5 h1 h2 hw hs h3 hb h4
          go_enter Tryz.func142, Tryz.ntmps142
          go_wp2
          go_ret
          exact ⟨rfl, rfl⟩
end Go.Proofs.YtbeijnflfmjgfaaGreatDoor

namespace Go.Proofs.YtbeijnflfmjgfaaGreatDoor
open Go.RowKit

theorem call_bits (b : Nat) (w : World) : (callFunc 111 #[.float .f64 b]).run Tryz.prog w = .ok (.value (.int .u64 (b : Int))) w :=
  run_callFunc_extern (e := Extern.MathFloatBits.float64bits) Tryz.func111 (by kernel_rfl) (by kernel_rfl) (by kernel_rfl) (by kernel_rfl) _ w
theorem call_from (n : Int) (w : World) : (callFunc 197 #[.int .u64 n]).run Tryz.prog w = .ok (.value (.float .f64 n.toNat)) w :=
  run_callFunc_extern (e := Extern.MathFloatBits.float64frombits) Tryz.func197 (by kernel_rfl) (by kernel_rfl) (by kernel_rfl) (by kernel_rfl) _ w

set_option maxHeartbeats 400000 in
theorem signbit_any (b : Nat) (w : World) :
    Calls Tryz.prog 186 #[.float .f64 b] w fun e w' => e = .returned (.bool (Fl.sgn b)) ∧ w' = w := by
  have hc := call_bits b w
  go_enter Tryz.func186, Tryz.ntmps186
  go_wp2
  go_ret
  refine ⟨congrArg (fun t => Ending.returned (.bool t)) ?_, rfl⟩
  unfold wrap64 Fl.sgn
  have h1 : b / 9223372036854775808 % 2 = 0 ∨ b / 9223372036854775808 % 2 = 1 := by omega
  rcases h1 with h1 | h1
  · rw [h1, decide_eq_false (by omega)]; rfl
  · rw [h1, decide_eq_true (by omega)]; rfl
theorem bits_abs (b : Nat) (hb : b < 18446744073709551616) : bits .andNot .u64 (b : Int) 9223372036854775808 = (Fl.rng b : Int) := by
  rw [u64_andNot _ _ (by omega) (by omega) (by omega) (by omega)]
  have e : (18446744073709551615 - (9223372036854775808 : Int).toNat : Nat) = 2 ^ 63 - 1 := by decide
  rw [e, Nat.and_two_pow_sub_one_eq_mod]; rfl
set_option maxHeartbeats 400000 in
theorem abs_any (b : Nat) (w : World) (hb : b < 18446744073709551616) :
    Calls Tryz.prog 187 #[.float .f64 b] w fun e w' => e = .returned (.float .f64 (Fl.rng b)) ∧ w' = w := by
  have hc := call_bits b w
  have hd := call_from (Fl.rng b) w
  rw [Int.toNat_natCast] at hd
  have ha := bits_abs b hb
  go_enter Tryz.func187, Tryz.ntmps187
  go_wp2
  go_ret
  exact ⟨rfl, rfl⟩
end Go.Proofs.YtbeijnflfmjgfaaGreatDoor

namespace Go.Proofs.YtbeijnflfmjgfaaGreatDoor.Fl
open Ieee

def rv (v : Nat) : Nat := (v.log2 - 52) * 4503599627370496 + v / 2 ^ (v.log2 - 52)
def Fits (v : Nat) : Prop := v % 2 ^ (v.log2 - 52) = 0

theorem log2_mul_pow (m k : Nat) (h : m ≠ 0) : (m * 2 ^ k).log2 = m.log2 + k := by
  have hm : m * 2 ^ k ≠ 0 := Nat.mul_ne_zero h (Nat.pos_iff_ne_zero.1 (Nat.two_pow_pos k))
  rw [Nat.log2_eq_iff hm, Nat.pow_add, show m.log2 + k + 1 = (m.log2 + 1) + k by omega, Nat.pow_add]
  exact ⟨Nat.mul_le_mul_right _ (Nat.log2_self_le h), Nat.mul_lt_mul_of_pos_right Nat.lt_log2_self (Nat.two_pow_pos k)⟩

theorem cut_zero (neg : Bool) (n : Nat) : Toward.even.cut neg n 0 = n := by
  unfold Toward.cut
  simp [Nat.mod_one]
theorem cut_exact (neg : Bool) (n d : Nat) (hd : d ≤ n.log2 + 2) (h : n % 2 ^ d = 0) : Toward.even.cut neg n d = n / 2 ^ d := by
  unfold Toward.cut
  have p : 0 < 2 ^ d := Nat.two_pow_pos d
  have e : 1 <<< min d (n.log2 + 2) = 2 ^ d := by rw [Nat.min_eq_left hd, Nat.shiftLeft_eq, Nat.one_mul]
  simp only [e, h]
  have h1 : decide (2 ^ d < 2 * 0) = false := by rw [decide_eq_false_iff_not]; omega
  have h2 : (2 ^ d == 2 * 0) = false := by rw [beq_eq_false_iff_ne]; omega
  rw [h1, h2]; rfl

theorem word_min (neg : Bool) (r : Nat) (h : r ≤ 9218868437227405312) : double.word neg (min r double.infRung) = (if neg = true then 9223372036854775808 + r else r) := by
  unfold Format.word
  rw [ir, sw, Nat.min_eq_left h]

theorem near_up (neg : Bool) (m k : Nat) (hm : m ≠ 0) (hf : Fits (m * 2 ^ k)) (hr : rv (m * 2 ^ k) ≤ 9218868437227405312) :
    double.nearest neg m (-1074 + (k : Int)) = (if neg = true then 9223372036854775808 + rv (m * 2 ^ k) else rv (m * 2 ^ k)) := by
  rw [← word_min neg _ hr]
  unfold Format.nearest
  rw [if_neg hm, lp, fb, bn]
  have hl := log2_mul_pow m k hm
  obtain ⟨d, hd⟩ : ∃ d, (m * 2 ^ k).log2 - 52 = d := ⟨_, rfl⟩
  have e1 : max (-1074 + (k : Int) + (m.log2 : Int) - ((52 : Nat) : Int)) (-1074) = -1074 + (d : Int) := by omega
  have e2 : ((-1074 + (k : Int)) - (-1074 + (d : Int))).toNat = k - d := by omega
  have e3 : ((-1074 + (d : Int)) - (-1074 + (k : Int))).toNat = d - k := by omega
  have e4 : ((-1074 + (d : Int)) - (-1074)).toNat = d := by omega
  simp only [e1, e2, e3, e4]
  refine congrArg (fun t => double.word neg (min t double.infRung)) ?_
  unfold rv
  rw [hd]
  refine congrArg (fun t => d * 4503599627370496 + t) ?_
  unfold Fits at hf
  rw [hd] at hf
  rcases Nat.le_total d k with h | h
  · rw [show d - k = 0 by omega, cut_zero, Nat.shiftLeft_eq]
    have : m * 2 ^ k = m * 2 ^ (k - d) * 2 ^ d := by rw [Nat.mul_assoc, ← Nat.pow_add, Nat.sub_add_cancel h]
    rw [this, Nat.mul_div_cancel _ (Nat.two_pow_pos d)]
  · have ed : 2 ^ d = 2 ^ (d - k) * 2 ^ k := by rw [← Nat.pow_add, Nat.sub_add_cancel h]
    rw [ed, Nat.mul_mod_mul_right] at hf
    have hz : m % 2 ^ (d - k) = 0 := by
      rcases Nat.mul_eq_zero.1 hf with h | h
      · exact h
      · have := Nat.two_pow_pos k; omega
    rw [show k - d = 0 by omega, Nat.shiftLeft_zero, cut_exact _ _ _ (by omega) hz, ed, Nat.mul_div_mul_right _ _ (Nat.two_pow_pos k)]

theorem near_down (neg : Bool) (v k : Nat) (hv : v ≠ 0) (hf : Fits v) (hr : rv v ≤ 9218868437227405312) :
    double.nearest neg (v * 2 ^ k) (-1074 - (k : Int)) = (if neg = true then 9223372036854775808 + rv v else rv v) := by
  rw [← word_min neg _ hr]
  have hm : v * 2 ^ k ≠ 0 := Nat.mul_ne_zero hv (Nat.pos_iff_ne_zero.1 (Nat.two_pow_pos k))
  unfold Format.nearest
  rw [if_neg hm, lp, fb, bn]
  have hl := log2_mul_pow v k hv
  obtain ⟨d, hd⟩ : ∃ d, v.log2 - 52 = d := ⟨_, rfl⟩
  rw [hl]
  have e1 : max (-1074 - (k : Int) + ((v.log2 + k : Nat) : Int) - ((52 : Nat) : Int)) (-1074) = -1074 + (d : Int) := by omega
  have e2 : ((-1074 - (k : Int)) - (-1074 + (d : Int))).toNat = 0 := by omega
  have e3 : ((-1074 + (d : Int)) - (-1074 - (k : Int))).toNat = d + k := by omega
  have e4 : ((-1074 + (d : Int)) - (-1074)).toNat = d := by omega
  simp only [e1, e2, e3, e4]
  refine congrArg (fun t => double.word neg (min t double.infRung)) ?_
  unfold rv
  rw [hd]
  refine congrArg (fun t => d * 4503599627370496 + t) ?_
  unfold Fits at hf
  rw [hd] at hf
  rw [Nat.shiftLeft_zero, cut_exact _ _ _ (by omega) (by rw [Nat.pow_add, Nat.mul_mod_mul_right, hf, Nat.zero_mul]), Nat.pow_add, Nat.mul_div_mul_right _ _ (Nat.two_pow_pos k)]

theorem log2_lt_of {n k : Nat} (h : n < 2 ^ k) (hk : 0 < k) : n.log2 < k := by
  rcases Nat.eq_zero_or_pos n with h0 | h0
  · subst h0; simpa using hk
  · exact (Nat.log2_lt (by omega)).2 h
theorem fits_mul (m k : Nat) (hm : m < 9007199254740992) : Fits (m * 2 ^ k) := by
  unfold Fits
  rcases Nat.eq_zero_or_pos m with h0 | h0
  · subst h0; simp
  · rw [log2_mul_pow m k (by omega)]
    have hl : m.log2 < 53 := log2_lt_of (by simpa using hm) (by omega)
    have : m * 2 ^ k = m * 2 ^ (k - (m.log2 + k - 52)) * 2 ^ (m.log2 + k - 52) := by rw [Nat.mul_assoc, ← Nat.pow_add, Nat.sub_add_cancel (by omega)]
    rw [this, Nat.mul_mod_left]
theorem rv_mg (r : Nat) : rv (mg r) = r := by
  by_cases h : r < 4503599627370496
  · have e : mg r = r := by unfold mg; rw [if_pos h]
    rw [e]
    unfold rv
    have hl : r.log2 < 52 := log2_lt_of (by simpa using h) (by omega)
    rw [show r.log2 - 52 = 0 by omega]; simp
  · rw [mg_eq]
    have h1 := mm_lt r
    have h2 := mm_ge r (by omega)
    have hl : (mm r).log2 = 52 := by
      rw [Nat.log2_eq_iff (by omega)]
      exact ⟨h2, h1⟩
    unfold rv
    rw [log2_mul_pow _ _ (by omega), hl, show 52 + mk r - 52 = mk r by omega, Nat.mul_div_cancel _ (Nat.two_pow_pos _)]
    unfold mm mk
    rw [if_neg h]
    omega
theorem fits_mg (r : Nat) : Fits (mg r) := by rw [mg_eq]; exact fits_mul _ _ (mm_lt r)
theorem mg_rv (m k : Nat) (hm : m < 9007199254740992) : mg (rv (m * 2 ^ k)) = m * 2 ^ k := by
  have hf := fits_mul m k hm
  obtain ⟨v, hv⟩ : ∃ v, m * 2 ^ k = v := ⟨_, rfl⟩
  rw [hv] at hf ⊢
  clear hm hv m k
  unfold rv Fits at *
  by_cases h : v.log2 < 52
  · rw [show v.log2 - 52 = 0 by omega]
    have hv : v < 4503599627370496 := by
      have h1 := @Nat.lt_log2_self v
      have h2 : 2 ^ (v.log2 + 1) ≤ 2 ^ 52 := Nat.pow_le_pow_right (by omega) (by omega)
      have : v < 2 ^ 52 := Nat.lt_of_lt_of_le h1 h2
      simpa using this
    simp only [Nat.pow_zero, Nat.div_one, Nat.zero_mul, Nat.zero_add]
    unfold mg; rw [if_pos hv]
  · obtain ⟨d, hd⟩ : ∃ d, v.log2 - 52 = d := ⟨_, rfl⟩
    rw [hd] at hf ⊢
    have hv0 : v ≠ 0 := by intro h0; subst h0; simp at h
    obtain ⟨q, hq⟩ : ∃ q, v / 2 ^ d = q := ⟨_, rfl⟩
    have hvq : v = q * 2 ^ d := by
      have := Nat.div_add_mod v (2 ^ d)
      rw [hf, hq, Nat.add_zero, Nat.mul_comm] at this; exact this.symm
    have h1 := Nat.log2_self_le hv0
    have h2 := @Nat.lt_log2_self v
    rw [show v.log2 = 52 + d by omega, Nat.pow_add] at h1
    rw [show v.log2 + 1 = 53 + d by omega, Nat.pow_add] at h2
    have p : 0 < 2 ^ d := Nat.two_pow_pos d
    have q1 : 4503599627370496 ≤ q := by
      rw [hvq] at h1
      exact Nat.le_of_mul_le_mul_right h1 p
    have q2 : q < 9007199254740992 := by
      rw [hvq] at h2
      exact Nat.lt_of_mul_lt_mul_right h2
    rw [hq]
    unfold mg
    rw [if_neg (by omega)]
    have e1 : (d * 4503599627370496 + q) % 4503599627370496 = q - 4503599627370496 := by omega
    have e2 : (d * 4503599627370496 + q) / 4503599627370496 - 1 = d := by omega
    rw [e1, e2, hvq, show 4503599627370496 + (q - 4503599627370496) = q by omega]
theorem mg_inf : mg 9218868437227405312 = 4503599627370496 * 2 ^ 2046 := by
  unfold mg; rw [if_neg (by decide), show 9218868437227405312 % 4503599627370496 = 0 from by decide, show 9218868437227405312 / 4503599627370496 - 1 = 2046 from by decide, Nat.add_zero]
theorem rv_lt (m k : Nat) (hm : m < 9007199254740992) (h : m * 2 ^ k < 4503599627370496 * 2 ^ 2046) : rv (m * 2 ^ k) < 9218868437227405312 := by
  rw [← mg_lt_iff, mg_rv m k hm, mg_inf]; exact h

theorem mul_two (r : Nat) (h0 : 0 < r) (h : 2 * mg r < 4503599627370496 * 2 ^ 2046) : double.mul r 4611686018427387904 = some (rv (2 * mg r)) ∧ mg (rv (2 * mg r)) = 2 * mg r ∧ rv (2 * mg r) < 9218868437227405312 := by
  have e : 2 * mg r = mm r * 2 ^ (mk r + 1) := by rw [mg_eq, Nat.pow_succ]; generalize 2 ^ mk r = p; rw [Nat.mul_comm p 2, ← Nat.mul_assoc, ← Nat.mul_assoc, Nat.mul_comm 2]
  have hr : r < 9218868437227405312 := by
    rw [← mg_lt_iff, mg_inf]; omega
  have hlt := h
  rw [e] at hlt
  have h3 := rv_lt _ _ (mm_lt r) hlt
  rw [e]
  refine ⟨?_, mg_rv _ _ (mm_lt r), h3⟩
  have hs : sgn r = false := by unfold sgn; rw [Nat.div_eq_of_lt (by omega)]; rfl
  have hrn : rng r = r := by unfold rng; exact Nat.mod_eq_of_lt (by omega)
  unfold Format.mul
  rw [read_fin r (by rw [hrn]; exact hr), hs, hrn]
  have h2 : double.read 4611686018427387904 = .number false 4503599627370496 (-1074 + (1023 : Nat)) := by decide +kernel
  rw [h2]
  show some (double.nearest (false ^^ false) (mm r * 4503599627370496) ((-1074 + (mk r : Int)) + (-1074 + ((1023 : Nat) : Int)))) = _
  have hp : mg r ≠ 0 := by have := mg_pos h0; omega
  have hm0 : mm r ≠ 0 := by intro hc; rw [mg_eq, hc] at hp; simp at hp
  have hv0 : mm r * 2 ^ (mk r + 1) ≠ 0 := Nat.mul_ne_zero hm0 (Nat.pos_iff_ne_zero.1 (Nat.two_pow_pos _))
  by_cases hk : mk r + 1 ≤ 52
  · have hh := near_down false (mm r * 2 ^ (mk r + 1)) (51 - mk r) hv0 (fits_mul _ _ (mm_lt r)) (Nat.le_of_lt h3)
    rw [Nat.mul_assoc, ← Nat.pow_add, show mk r + 1 + (51 - mk r) = 52 by omega] at hh
    rw [show (-1074 + (mk r : Int)) + (-1074 + ((1023 : Nat) : Int)) = -1074 - ((51 - mk r : Nat) : Int) by omega]
    exact congrArg some hh
  · have hh := near_up false (mm r * 4503599627370496) (mk r - 51) (Nat.mul_ne_zero hm0 (by omega))
    rw [show mm r * 4503599627370496 * 2 ^ (mk r - 51) = mm r * 2 ^ (mk r + 1) from by
      rw [show (4503599627370496 : Nat) = 2 ^ 52 from by decide, Nat.mul_assoc, ← Nat.pow_add, show 52 + (mk r - 51) = mk r + 1 by omega]] at hh
    rw [show (-1074 + (mk r : Int)) + (-1074 + ((1023 : Nat) : Int)) = -1074 + ((mk r - 51 : Nat) : Int) by omega]
    exact congrArg some (hh (fits_mul _ _ (mm_lt r)) (Nat.le_of_lt h3))
end Go.Proofs.YtbeijnflfmjgfaaGreatDoor.Fl
