/- What layer 9 tells, plainly. -/
import Derived.BigQuiet
import Derived.BigRegion
import Derived.Deep.CutBlock
import Derived.Deep.CutRange
import Derived.Deep.DeepFit
import Derived.Deep.QuietTactic
import Derived.Laws.Bits64b
import Derived.Laws.IdiomStrings
import Derived.Laws.Rows
import Derived.Lib.BitFns
import Derived.Lib.IndexBytes
import Derived.Lib.ItoaMem
import Derived.Lib.ItoaNum
import Derived.Lib.Walk
import Derived.Shelf.Bits.Mul64
import Derived.Shelf.LaysM
import Derived.Shelf.Small.Bits
import Derived.Shelf.Small.Strs
import Derived.Shelf.Small.Wraps
import Derived.Shelf.Strconv.Itoa0
import Derived.Shelf.Strconv.Itoa1
import Derived.Shelf.Strconv.Itoa2
import Derived.Shelf.Strings.AsciiSet
import Derived.Shelf.Strings.Cut
import Derived.Shelf.Strings.Prefix
import Derived.Shelf.Strings.Search1
import Derived.Shelf.Strings.Search2
import Derived.Shelf.Strings.Shaped
import Derived.Shelf.Strings.Trim
import Derived.Test.YtbeijnflfmjgfaaGreatDoorProg
import Derived.Test.YtbeijnflfmjgfaaGreatDoorRows
import Derived.WalkKit
import Derived.WalkLawsBesides
import Derived.WalkSmall
import Derived.WalkSpells
import Derived.Test.YtbeijnflfmjgfaaGreatDoorZoAA
import Derived.Test.YtbeijnflfmjgfaaGreatDoorZoAB
import Derived.Test.YtbeijnflfmjgfaaGreatDoorZoAC
import Derived.Test.YtbeijnflfmjgfaaGreatDoorZoAD
import Derived.Test.YtbeijnflfmjgfaaGreatDoorZoAE
import Derived.Test.YtbeijnflfmjgfaaGreatDoorZoAF
import Derived.Test.YtbeijnflfmjgfaaGreatDoorZoAG
namespace Go.Proofs.YtbeijnflfmjgfaaGreatDoor
open Go.RowKit

def zV : Vl := ⟨0, 0, noText, false, 0⟩
def toldV (r : Int × Int) : Vl := if r.2 = 6 then vE 1 else if r.2 = 0 then vN r.1 else vE 2
def powL (a : Int) : Nat → Int → Int × Int
  | 0, p => (p, 0)
  | n + 1, p => if (mulR p a).2 = 0 then powL a n (mulR p a).1 else (0, (mulR p a).2)
def powV (a b : Int) : Vl :=
  if b.tmod 10000 ≠ 0 ∨ b < -10000000 ∨ 10000000 < b then vE 2
  else if (powL a (b.tdiv 10000).natAbs 10000).2 ≠ 0 then toldV (powL a (b.tdiv 10000).natAbs 10000)
  else if b < 0 then toldV (divR 10000 (powL a (b.tdiv 10000).natAbs 10000).1) else vN (powL a (b.tdiv 10000).natAbs 10000).1
def lineL (s : List UInt8) : Nat :=
  if s = [61] ∨ s = [60, 62] ∨ s = [60] ∨ s = [60, 61] ∨ s = [62] ∨ s = [62, 61] then 1
  else if s = [38] then 2 else if s = [43] ∨ s = [45] then 3 else if s = [42] ∨ s = [47] then 4 else if s = [94] then 5 else 0
def cmpL (s : List UInt8) (o : Int) : Bool :=
  if s = [61] then decide (o = 0) else if s = [60, 62] then !decide (o = 0) else if s = [60] then decide (o = -1)
  else if s = [60, 61] then !decide (o = 1) else if s = [62] then decide (o = 1) else !decide (o = -1)
def arithV (s : List UInt8) (x y : Int) : Vl :=
  if s = [43] then toldV (addN x y, addE x y) else if s = [45] then toldV (subR x y) else if s = [42] then toldV (mulR x y)
  else if s = [47] then toldV (divR x y) else powV x y
def joinV (x y : ByteArray × Int) : Vl := if x.2 ≠ 0 then vE x.2 else if y.2 ≠ 0 then vE y.2 else vT (x.1 ++ y.1)
def bothV (s : List UInt8) (x y : Int × Int) : Vl := if x.2 ≠ 0 then vE x.2 else if y.2 ≠ 0 then vE y.2 else arithV s x.1 y.1
def binS (s : List UInt8) (a b : Vl) : Vl :=
  if lineL s = 0 then zV
  else if lineL s = 1 then (if (ordV3 a b).2 ≠ 0 then vE (ordV3 a b).2 else vB (cmpL s (ordV3 a b).1))
  else if lineL s = 2 then joinV (asTextV a) (asTextV b) else bothV s (asNumV a) (asNumV b)
def binB (s : List UInt8) : Bool := decide (lineL s ≠ 0)
def negV (x : Int × Int) : Vl := if x.2 ≠ 0 then vE x.2 else vN (-x.1)
def pctV (x : Int × Int) : Vl := if x.2 ≠ 0 then vE x.2 else toldV (divR x.1 1000000)
def takesL (s : List UInt8) : Nat :=
  if s = [65, 66, 83] ∨ s = [83, 73, 71, 78] ∨ s = [73, 78, 84] ∨ s = [84, 82, 85, 78, 67] ∨ s = [83, 81, 82, 84] ∨ s = [70, 65, 67, 84] ∨ s = [69, 86, 69, 78] then 1
  else if s = [82, 79, 85, 78, 68] ∨ s = [82, 79, 85, 78, 68, 85, 80] ∨ s = [77, 79, 68] ∨ s = [81, 85, 79, 84, 73, 69, 78, 84] ∨ s = [80, 79, 87, 69, 82] ∨ s = [71, 67, 68] ∨ s = [82, 65, 84, 73, 79] then 2
  else 0
def upP (a : Nat) (k : Nat) : Nat := (a + (10 ^ k - 1)) / 10 ^ k * 10 ^ k
def upV (a p : Int) : Vl := if 3 < p then vN a else toldV (sgnN (decide (a < 0)) (upP a.natAbs (4 - p).toNat : Nat), sgnE (upP a.natAbs (4 - p).toNat : Nat))
def factL : Nat → Int → Int → Int × Int
  | 0, _, p => (p, 0)
  | n + 1, k, p => if (mulR p k).2 = 0 then factL n (k + 10000) (mulR p k).1 else (0, (mulR p k).2)
def factV (a : Int) : Vl := if a.tmod 10000 ≠ 0 ∨ a < 0 then vE 2 else toldV (factL (a / 10000 - 1).toNat 20000 10000)
def quoV (a b : Int) : Vl := if b = 0 then vE 1 else if wholeB (a.tdiv b) = true then vN (10000 * a.tdiv b) else vE 2
def gcdV (a b : Int) : Vl := if a.tmod 10000 ≠ 0 ∨ b.tmod 10000 ≠ 0 ∨ a < 0 ∨ b < 0 then vE 2 else vN (Nat.gcd a.toNat b.toNat : Nat)
theorem toList_lit {s : ByteArray} {l : List UInt8} (h : s.toList = l) : s = ⟨l.toArray⟩ := by
  subst h
  rw [ByteArray.toList_eq]
theorem ne_lit {s : ByteArray} {l : List UInt8} (h : s.toList ≠ l) : (s.toList == l) = false := by simpa using h
theorem vE_bare {f : Int} (h1 : 1 ≤ f) (h2 : f ≤ 8) : vE f = ⟨4, 0, noText, false, f⟩ := by unfold vE; rw [if_neg (by omega)]
end Go.Proofs.YtbeijnflfmjgfaaGreatDoor

namespace Go.Proofs.YtbeijnflfmjgfaaGreatDoor
open Go.RowKit

theorem five_all {w : World} {B : Nat} {t : TypeId} {cs : Array Value} (h : FiveAt w B t cs) :
    ((∃ x, w.cell? ⟨B, 0, none⟩ = some x) ∧ (∃ x, w.cell? ⟨B, 1, none⟩ = some x) ∧ (∃ x, w.cell? ⟨B, 2, none⟩ = some x) ∧ (∃ x, w.cell? ⟨B, 3, none⟩ = some x) ∧ ∃ x, w.cell? ⟨B, 4, none⟩ = some x) ∧
    w.frozen? ⟨B, 0, none⟩ = false ∧ w.frozen? ⟨B, 1, none⟩ = false ∧ w.frozen? ⟨B, 2, none⟩ = false ∧ w.frozen? ⟨B, 3, none⟩ = false ∧ w.frozen? ⟨B, 4, none⟩ = false :=
  ⟨⟨five_c h 0 (by omega), five_c h 1 (by omega), five_c h 2 (by omega), five_c h 3 (by omega), five_c h 4 (by omega)⟩, five_f h 0, five_f h 1, five_f h 2, five_f h 3, five_f h 4⟩

set_option maxHeartbeats 1000000 in
theorem e9_ref (f : Int) (w : World) (h1 : 1 ≤ f) (h2 : f ≤ 8) :
    Calls Tryz.prog 37 #[.int .i64 f] w fun e w' => e = .returned (.agg (vE f).cells) ∧ Below w.heap.size w w' := by
  rw [vE_bare h1 h2]
  unfold Vl.cells
  go_enter Tryz.func37, Tryz.ntmps37
  go_wp2
  refine bodyPost_ret (results_cell_row rfl _ _ _ _ _ _ _ rfl (heap_alloc_new _ _) Tryz.underlying29 rfl infoRef) rfl ?_
  exact ⟨rfl, (Below.refl _ _).alloc (Nat.le_refl _) _⟩

set_option maxHeartbeats 1000000 in
theorem told_ref (n c : Int) (w : World) :
    Calls Tryz.prog 48 #[.int .i64 n, .int .i64 c] w fun e w' => e = .returned (.agg (toldV (n, c)).cells) ∧ Below w.heap.size w w' := by
  unfold toldV
  simp only []
  by_cases h6 : c = 6
  · rw [if_pos h6]
    subst h6
    have HC := hide (fun w => e9_ref 1 w (by omega) (by omega))
    generalize (vE 1) = V at HC ⊢
    go_enter Tryz.func48, Tryz.ntmps48
    go_wp2_with fail
    refine (unhide HC _).mono ?_
    rintro e w1 ⟨rfl, b1⟩
    have hf := five_below (five_new w 29 _ _ _ _ _) b1 (by simp)
    obtain ⟨⟨⟨x0, c0⟩, ⟨x1, c1⟩, ⟨x2, c2⟩, ⟨x3, c3⟩, x4, c4⟩, f0, f1, f2, f3, f4⟩ := five_all hf
    have HF := hide hf
    have HB := hide ((below_al w _).trans (b1.mono (by simp)))
    clear hf b1
    unfold Vl.cells
    go_wp2
    refine bodyPost_ret (results_cell_row rfl _ _ _ _ _ _ _ rfl (five_set (unhide HF) _ _ _ _ _).1 Tryz.underlying29 rfl infoRef) rfl ?_
    exact ⟨rfl, below_five (unhide HB) (Nat.le_refl _) _ _ _ _ _⟩
  · rw [if_neg h6]
    by_cases h0 : c = 0
    · rw [if_pos h0]
      subst h0
      have HC := hide (fun w => n_ref n w)
      generalize (vN n) = V at HC ⊢
      go_enter Tryz.func48, Tryz.ntmps48
      go_wp2_with fail
      refine (unhide HC _).mono ?_
      rintro e w1 ⟨rfl, b1⟩
      have hf := five_below (five_new w 29 _ _ _ _ _) b1 (by simp)
      obtain ⟨⟨⟨x0, c0⟩, ⟨x1, c1⟩, ⟨x2, c2⟩, ⟨x3, c3⟩, x4, c4⟩, f0, f1, f2, f3, f4⟩ := five_all hf
      have HF := hide hf
      have HB := hide ((below_al w _).trans (b1.mono (by simp)))
      clear hf b1
      unfold Vl.cells
      go_wp2
      refine bodyPost_ret (results_cell_row rfl _ _ _ _ _ _ _ rfl (five_set (unhide HF) _ _ _ _ _).1 Tryz.underlying29 rfl infoRef) rfl ?_
      exact ⟨rfl, below_five (unhide HB) (Nat.le_refl _) _ _ _ _ _⟩
    · rw [if_neg h0]
      have c6 : (c == 6) = false := by rw [beq_eq_false_iff_ne]; exact h6
      have c0 : (c == 0) = false := by rw [beq_eq_false_iff_ne]; exact h0
      clear h6 h0
      have HC := hide (fun w => e9_ref 2 w (by omega) (by omega))
      generalize (vE 2) = V at HC ⊢
      go_enter Tryz.func48, Tryz.ntmps48
      go_wp2_with fail
      refine (unhide HC _).mono ?_
      rintro e w1 ⟨rfl, b1⟩
      have hf := five_below (five_new w 29 _ _ _ _ _) b1 (by simp)
      obtain ⟨⟨⟨x0, c0⟩, ⟨x1, c1⟩, ⟨x2, c2⟩, ⟨x3, c3⟩, x4, c4⟩, f0, f1, f2, f3, f4⟩ := five_all hf
      have HF := hide hf
      have HB := hide ((below_al w _).trans (b1.mono (by simp)))
      clear hf b1
      unfold Vl.cells
      go_wp2
      refine bodyPost_ret (results_cell_row rfl _ _ _ _ _ _ _ rfl (five_set (unhide HF) _ _ _ _ _).1 Tryz.underlying29 rfl infoRef) rfl ?_
      exact ⟨rfl, below_five (unhide HB) (Nat.le_refl _) _ _ _ _ _⟩

set_option maxHeartbeats 4000000 in
theorem takes_ref (s : ByteArray) (w : World) : Calls Tryz.prog 24 #[.string s] w fun e w' => e = .returned (.int .i64 (takesL s.toList : Nat)) ∧ w' = w := by
  unfold takesL
  by_cases h1 : s.toList = [65, 66, 83] ∨ s.toList = [83, 73, 71, 78] ∨ s.toList = [73, 78, 84] ∨ s.toList = [84, 82, 85, 78, 67] ∨ s.toList = [83, 81, 82, 84] ∨ s.toList = [70, 65, 67, 84] ∨ s.toList = [69, 86, 69, 78]
  · rw [if_pos h1]
    rcases h1 with h | h | h | h | h | h | h
    all_goals
      obtain rfl := toList_lit h
      clear h
      go_enter Tryz.func24, Tryz.ntmps24
      go_wp2
      go_ret
      exact ⟨rfl, rfl⟩
  rw [if_neg h1]
  by_cases h2 : s.toList = [82, 79, 85, 78, 68] ∨ s.toList = [82, 79, 85, 78, 68, 85, 80] ∨ s.toList = [77, 79, 68] ∨ s.toList = [81, 85, 79, 84, 73, 69, 78, 84] ∨ s.toList = [80, 79, 87, 69, 82] ∨ s.toList = [71, 67, 68] ∨ s.toList = [82, 65, 84, 73, 79]
  · rw [if_pos h2]
    rcases h2 with h | h | h | h | h | h | h
    all_goals
      obtain rfl := toList_lit h
      clear h h1
      go_enter Tryz.func24, Tryz.ntmps24
      go_wp2
      go_ret
      exact ⟨rfl, rfl⟩
  rw [if_neg h2]
  simp only [not_or, ← ne_eq] at h1 h2
  obtain ⟨a1, a2, a3, a4, a5, a6, a7⟩ := h1
  obtain ⟨c1, c2, c3, c4, c5, c6, c7⟩ := h2
  replace a1 := ne_lit a1
  replace a2 := ne_lit a2
  replace a3 := ne_lit a3
  replace a4 := ne_lit a4
  replace a5 := ne_lit a5
  replace a6 := ne_lit a6
  replace a7 := ne_lit a7
  replace c1 := ne_lit c1
  replace c2 := ne_lit c2
  replace c3 := ne_lit c3
  replace c4 := ne_lit c4
  replace c5 := ne_lit c5
  replace c6 := ne_lit c6
  replace c7 := ne_lit c7
  go_enter Tryz.func24, Tryz.ntmps24
  go_wp2
  go_ret
  exact ⟨rfl, rfl⟩

end Go.Proofs.YtbeijnflfmjgfaaGreatDoor

namespace Go.Proofs.YtbeijnflfmjgfaaGreatDoor
open Go.RowKit

set_option maxRecDepth 100000 in
set_option maxHeartbeats 8000000 in
theorem pow9_ref (a b : Int) (w : World) (hb1 : -9223372036854775808 ≤ b) (hb2 : b ≤ 9223372036854775807) :
    Calls Tryz.prog 47 #[.int .i64 a, .int .i64 b] w fun e w' => e = .returned (.agg (powV a b).cells) ∧ Below w.heap.size w w' := by
  unfold powV
  by_cases h1 : b.tmod 10000 = 0
  rotate_left
  · rw [if_pos (Or.inl h1)]
    have h1b : (b.tmod 10000 == 0) = false := by rw [beq_eq_false_iff_ne]; exact h1

    have HC := hide (fun w => e9_ref 2 w (by omega) (by omega))
    generalize (vE 2) = V at HC ⊢
    go_enter Tryz.func47, Tryz.ntmps47
    go_wp2_with fail
    refine (unhide HC _).mono ?_
    rintro e wz ⟨rfl, bz⟩
    have hf := five_below (five_new w 29 _ _ _ _ _) bz (five_lt (five_new w 29 _ _ _ _ _))
    obtain ⟨⟨⟨x0, c0⟩, ⟨x1, c1⟩, ⟨x2, c2⟩, ⟨x3, c3⟩, x4, c4⟩, f0, f1, f2, f3, f4⟩ := five_all hf
    have HF := hide hf
    have HB := hide (below_nx (below_al w _) bz)
    clear hf bz
    unfold Vl.cells
    go_wp2
    refine bodyPost_ret (results_cell_row rfl _ _ _ _ _ _ _ rfl (five_set (unhide HF) _ _ _ _ _).1 Tryz.underlying29 rfl infoRef) rfl ?_
    exact ⟨rfl, below_five (unhide HB) (Nat.le_refl _) _ _ _ _ _⟩
  by_cases h2 : b < -10000000
  · rw [if_pos (Or.inr (Or.inl h2))]

    have HC := hide (fun w => e9_ref 2 w (by omega) (by omega))
    generalize (vE 2) = V at HC ⊢
    go_enter Tryz.func47, Tryz.ntmps47
    go_wp2_with fail
    refine (unhide HC _).mono ?_
    rintro e wz ⟨rfl, bz⟩
    have hf := five_below (five_new w 29 _ _ _ _ _) bz (five_lt (five_new w 29 _ _ _ _ _))
    obtain ⟨⟨⟨x0, c0⟩, ⟨x1, c1⟩, ⟨x2, c2⟩, ⟨x3, c3⟩, x4, c4⟩, f0, f1, f2, f3, f4⟩ := five_all hf
    have HF := hide hf
    have HB := hide (below_nx (below_al w _) bz)
    clear hf bz
    unfold Vl.cells
    go_wp2
    refine bodyPost_ret (results_cell_row rfl _ _ _ _ _ _ _ rfl (five_set (unhide HF) _ _ _ _ _).1 Tryz.underlying29 rfl infoRef) rfl ?_
    exact ⟨rfl, below_five (unhide HB) (Nat.le_refl _) _ _ _ _ _⟩
  by_cases h3 : 10000000 < b
  · rw [if_pos (Or.inr (Or.inr h3))]

    have HC := hide (fun w => e9_ref 2 w (by omega) (by omega))
    generalize (vE 2) = V at HC ⊢
    go_enter Tryz.func47, Tryz.ntmps47
    go_wp2_with fail
    refine (unhide HC _).mono ?_
    rintro e wz ⟨rfl, bz⟩
    have hf := five_below (five_new w 29 _ _ _ _ _) bz (five_lt (five_new w 29 _ _ _ _ _))
    obtain ⟨⟨⟨x0, c0⟩, ⟨x1, c1⟩, ⟨x2, c2⟩, ⟨x3, c3⟩, x4, c4⟩, f0, f1, f2, f3, f4⟩ := five_all hf
    have HF := hide hf
    have HB := hide (below_nx (below_al w _) bz)
    clear hf bz
    unfold Vl.cells
    go_wp2
    refine bodyPost_ret (results_cell_row rfl _ _ _ _ _ _ _ rfl (five_set (unhide HF) _ _ _ _ _).1 Tryz.underlying29 rfl infoRef) rfl ?_
    exact ⟨rfl, below_five (unhide HB) (Nat.le_refl _) _ _ _ _ _⟩
  rw [if_neg (by omega)]
  obtain ⟨n, hn⟩ : ∃ n, (b.tdiv 10000).natAbs = n := ⟨_, rfl⟩
  have hq : (b < 0 → b.tdiv 10000 < 0) ∧ (¬ b < 0 → 0 ≤ b.tdiv 10000) ∧ -1000 ≤ b.tdiv 10000 ∧ b.tdiv 10000 ≤ 1000 := by
    have e := Int.mul_tdiv_add_tmod b 10000
    omega
  rw [hn]
  obtain ⟨R, hR⟩ : ∃ R, powL a n 10000 = R := ⟨_, rfl⟩
  rw [hR]
  have HR := hide hR
  clear hR
  by_cases hneg : b < 0
  · have hqn := hq.1 hneg
    have hqn2 : -(b.tdiv 10000) = (n : Int) := by omega
    obtain ⟨q1, q2⟩ := hq.2.2
    rw [if_pos hneg]
    obtain ⟨V, hV⟩ : ∃ V, (if R.2 ≠ 0 then toldV R else toldV (divR 10000 R.1)) = V := ⟨_, rfl⟩
    rw [hV]
    have HV := hide hV
    clear hV hq hn
    go_enter Tryz.func47, Tryz.ntmps47
    go_wp2
    go_loopw [6, 7] (fun t u wr => ∃ (k : Nat) (P : Int), t = .int .i64 P ∧ u = .int .i64 (k : Int) ∧ k ≤ n ∧ Hid (FiveAt wr w.heap.size 29 #[.int .i64 0, .int .i64 0, .string ⟨#[]⟩, .bool false, .int .i64 0]) ∧ Hid (Below w.heap.size w wr) ∧ Hid (powL a (n - k) P = R)) (fun _ u _ => (n - intOf u).toNat)
    case atStart => exact ⟨0, 10000, rfl, rfl, Nat.zero_le _, hide (five_new w 29 _ _ _ _ _), hide (below_al w _), hide (by simpa using unhide HR)⟩
    case round =>
      obtain ⟨k, P, rfl, rfl, hk, HX, HB, HP⟩ := hrel
      by_cases hlt : (k : Int) < n
      · go_wp2_with fail
        refine (mul_ref P a _).mono ?_
        rintro e w1 ⟨rfl, b1⟩
        have HX1 := hide (five_below (unhide HX) b1 (five_lt (unhide HX)))
        have HB1 := hide (below_nx (unhide HB) b1)
        clear b1
        obtain ⟨m, hm⟩ : ∃ m, n - k = m + 1 := ⟨n - k - 1, by omega⟩
        have HM : Hid (n - (k + 1) = m) := hide (by omega)
        have hp := unhide HP
        rw [hm, powL] at hp
        obtain ⟨r, hr⟩ : ∃ r, mulR P a = r := ⟨_, rfl⟩
        rw [hr] at hp ⊢
        clear hm hr HP
        by_cases h0 : r.2 = 0
        · rw [if_pos h0] at hp
          have HP := hide hp
          clear hp
          go_wp2
          go_roundw
          case rel => exact ⟨k + 1, r.1, rfl, int_eqv (by omega), by omega, HX1, HB1, hide (by rw [unhide HM]; exact unhide HP)⟩
          case measure => simp [intOf]; omega
        · rw [if_neg h0] at hp
          have hb0 : (r.2 == 0) = false := by rw [beq_eq_false_iff_ne]; exact h0
          have HC := hide (fun w => told_ref 0 r.2 w)
          have HE1 : toldV (0, r.2) = V := by
            rw [← unhide HV, ← hp]
            rw [if_pos h0]
          rw [HE1] at HC
          clear HE1 hp
          go_wp2_with fail
          refine (unhide HC _).mono ?_
          rintro e wz ⟨rfl, bz⟩
          have hf := five_below (unhide HX1) bz (five_lt (unhide HX1))
          obtain ⟨⟨⟨x0, c0⟩, ⟨x1, c1⟩, ⟨x2, c2⟩, ⟨x3, c3⟩, x4, c4⟩, f0, f1, f2, f3, f4⟩ := five_all hf
          have HF := hide hf
          have HB := hide (below_nx (unhide HB1) bz)
          clear hf bz
          unfold Vl.cells
          go_wp2
          try simp only [Exit.inBlock, Exit.then]
          refine bodyPost_ret (results_cell_row rfl _ _ _ _ _ _ _ rfl (five_set (unhide HF) _ _ _ _ _).1 Tryz.underlying29 rfl infoRef) rfl ?_
          exact ⟨rfl, below_five (unhide HB) (Nat.le_refl _) _ _ _ _ _⟩
      · have hn : n - k = 0 := by omega
        have hp := unhide HP
        rw [hn, powL] at hp
        have HE1 : toldV (divR 10000 P) = V := by
          rw [← unhide HV, ← hp]
          simp only [ne_eq, not_true_eq_false, if_false]
        clear hp hn
        go_wp2_with fail
        refine (div_ref 10000 P _).mono ?_
        rintro e w2 ⟨rfl, b2⟩
        have HX2 := hide (five_below (unhide HX) b2 (five_lt (unhide HX)))
        have HB2 := hide (below_nx (unhide HB) b2)
        have HC := hide (fun w => told_ref (divR 10000 P).1 (divR 10000 P).2 w)
        rw [show toldV ((divR 10000 P).1, (divR 10000 P).2) = V from HE1] at HC
        clear b2
        go_wp2_with fail
        refine (unhide HC _).mono ?_
        rintro e wz ⟨rfl, bz⟩
        have hf := five_below (unhide HX2) bz (five_lt (unhide HX2))
        obtain ⟨⟨⟨x0, c0⟩, ⟨x1, c1⟩, ⟨x2, c2⟩, ⟨x3, c3⟩, x4, c4⟩, f0, f1, f2, f3, f4⟩ := five_all hf
        have HF := hide hf
        have HB := hide (below_nx (unhide HB2) bz)
        clear hf bz
        unfold Vl.cells
        go_wp2
        try simp only [Exit.inBlock, Exit.then]
        refine bodyPost_ret (results_cell_row rfl _ _ _ _ _ _ _ rfl (five_set (unhide HF) _ _ _ _ _).1 Tryz.underlying29 rfl infoRef) rfl ?_
        exact ⟨rfl, below_five (unhide HB) (Nat.le_refl _) _ _ _ _ _⟩
  · have hqn := hq.2.1 hneg
    have hqn2 : b.tdiv 10000 = (n : Int) := by omega
    obtain ⟨q1, q2⟩ := hq.2.2
    rw [if_neg hneg]
    obtain ⟨V, hV⟩ : ∃ V, (if R.2 ≠ 0 then toldV R else vN R.1) = V := ⟨_, rfl⟩
    rw [hV]
    have HV := hide hV
    clear hV hq hn
    go_enter Tryz.func47, Tryz.ntmps47
    go_wp2
    go_loopw [6, 7] (fun t u wr => ∃ (k : Nat) (P : Int), t = .int .i64 P ∧ u = .int .i64 (k : Int) ∧ k ≤ n ∧ Hid (FiveAt wr w.heap.size 29 #[.int .i64 0, .int .i64 0, .string ⟨#[]⟩, .bool false, .int .i64 0]) ∧ Hid (Below w.heap.size w wr) ∧ Hid (powL a (n - k) P = R)) (fun _ u _ => (n - intOf u).toNat)
    case atStart => exact ⟨0, 10000, rfl, rfl, Nat.zero_le _, hide (five_new w 29 _ _ _ _ _), hide (below_al w _), hide (by simpa using unhide HR)⟩
    case round =>
      obtain ⟨k, P, rfl, rfl, hk, HX, HB, HP⟩ := hrel
      by_cases hlt : (k : Int) < n
      · go_wp2_with fail
        refine (mul_ref P a _).mono ?_
        rintro e w1 ⟨rfl, b1⟩
        have HX1 := hide (five_below (unhide HX) b1 (five_lt (unhide HX)))
        have HB1 := hide (below_nx (unhide HB) b1)
        clear b1
        obtain ⟨m, hm⟩ : ∃ m, n - k = m + 1 := ⟨n - k - 1, by omega⟩
        have HM : Hid (n - (k + 1) = m) := hide (by omega)
        have hp := unhide HP
        rw [hm, powL] at hp
        obtain ⟨r, hr⟩ : ∃ r, mulR P a = r := ⟨_, rfl⟩
        rw [hr] at hp ⊢
        clear hm hr HP
        by_cases h0 : r.2 = 0
        · rw [if_pos h0] at hp
          have HP := hide hp
          clear hp
          go_wp2
          go_roundw
          case rel => exact ⟨k + 1, r.1, rfl, int_eqv (by omega), by omega, HX1, HB1, hide (by rw [unhide HM]; exact unhide HP)⟩
          case measure => simp [intOf]; omega
        · rw [if_neg h0] at hp
          have hb0 : (r.2 == 0) = false := by rw [beq_eq_false_iff_ne]; exact h0
          have HC := hide (fun w => told_ref 0 r.2 w)
          have HE1 : toldV (0, r.2) = V := by
            rw [← unhide HV, ← hp]
            rw [if_pos h0]
          rw [HE1] at HC
          clear HE1 hp
          go_wp2_with fail
          refine (unhide HC _).mono ?_
          rintro e wz ⟨rfl, bz⟩
          have hf := five_below (unhide HX1) bz (five_lt (unhide HX1))
          obtain ⟨⟨⟨x0, c0⟩, ⟨x1, c1⟩, ⟨x2, c2⟩, ⟨x3, c3⟩, x4, c4⟩, f0, f1, f2, f3, f4⟩ := five_all hf
          have HF := hide hf
          have HB := hide (below_nx (unhide HB1) bz)
          clear hf bz
          unfold Vl.cells
          go_wp2
          try simp only [Exit.inBlock, Exit.then]
          refine bodyPost_ret (results_cell_row rfl _ _ _ _ _ _ _ rfl (five_set (unhide HF) _ _ _ _ _).1 Tryz.underlying29 rfl infoRef) rfl ?_
          exact ⟨rfl, below_five (unhide HB) (Nat.le_refl _) _ _ _ _ _⟩
      · have hn : n - k = 0 := by omega
        have hp := unhide HP
        rw [hn, powL] at hp
        have HE1 : vN P = V := by
          rw [← unhide HV, ← hp]
          simp only [ne_eq, not_true_eq_false, if_false]
        clear hp hn
        have HC := hide (fun w => n_ref P w)
        rw [show vN P = V from HE1] at HC
        go_wp2_with fail
        refine (unhide HC _).mono ?_
        rintro e wz ⟨rfl, bz⟩
        have hf := five_below (unhide HX) bz (five_lt (unhide HX))
        obtain ⟨⟨⟨x0, c0⟩, ⟨x1, c1⟩, ⟨x2, c2⟩, ⟨x3, c3⟩, x4, c4⟩, f0, f1, f2, f3, f4⟩ := five_all hf
        have HF := hide hf
        have HB := hide (below_nx (unhide HB) bz)
        clear hf bz
        unfold Vl.cells
        go_wp2
        try simp only [Exit.inBlock, Exit.then]
        refine bodyPost_ret (results_cell_row rfl _ _ _ _ _ _ _ rfl (five_set (unhide HF) _ _ _ _ _).1 Tryz.underlying29 rfl infoRef) rfl ?_
        exact ⟨rfl, below_five (unhide HB) (Nat.le_refl _) _ _ _ _ _⟩
end Go.Proofs.YtbeijnflfmjgfaaGreatDoor

namespace Go.Proofs.YtbeijnflfmjgfaaGreatDoor
open Go.RowKit



set_option maxRecDepth 100000 in
set_option maxHeartbeats 8000000 in
theorem product_ref (va vb : Value) (xs ys : List Int) (w : World) (hx : xs.length ≤ 200) (hy : ys.length ≤ 200) (hva : Arr w va xs) (hvb : Arr w vb ys) (dx : Dc.Dig xs) (dy : Dc.Dig ys) :
    Calls Tryz.prog 144 #[va, vb] w fun e w' => NumPost (Dc.val xs * Dc.val ys) (xs.length + ys.length + 1) w e w' := by
  obtain ⟨i0, hi, hz0, hz1, hz2⟩ := info_parts info3
  obtain ⟨xa, capa, rfl, hoa⟩ := arr_open hva
  obtain ⟨xb, capb, rfl, hob⟩ := arr_open hvb
  obtain ⟨la, hla⟩ : ∃ la, xs.length = la := ⟨_, rfl⟩
  obtain ⟨lb, hlb⟩ : ∃ lb, ys.length = lb := ⟨_, rfl⟩
  have hml := mul_lt xs ys dx dy
  rw [hla, hlb] at hml
  rw [hla] at hx hoa ⊢
  rw [hlb] at hy hob ⊢
  have HML := hide hml
  have HLA := hide hla
  have HLB := hide hlb
  have HOA := hide hoa
  have HOB := hide hob
  have HDX := hide (And.intro dx dy)
  clear hva hvb hla hlb hoa hob dx dy hml
  obtain ⟨L, hL⟩ : ∃ L, la + lb + 1 = L := ⟨_, rfl⟩
  have eL : ((la : Int) + (lb : Int) + 1) = (L : Int) := by omega
  have EL := hide eL
  have hL5 : L ≤ 401 := by omega
  have HL := hide hL
  clear eL
  rw [hL]
  clear hL
  go_enter Tryz.func144, Tryz.ntmps144
  go_wp2_with (first
    | (at_make; refine wpList_make_full _ rfl _ _ 49 rfl w.heap.size 3 i0 (.int .i64 0) 1 Tryz.underlying49 hi hz0 hz1 _ _ _ _ L rfl rfl (by exact unhide EL) (by exact unhide EL) (by rw [hz2]; omega) (by unfold maxLen; omega) (Nat.le_refl _) ?_)
    | go_in)
  intro w1 hown hgrow
  have HB : Hid (Below w.heap.size w w1) := hide ((Below.refl _ _).grown hgrow (Nat.le_refl _) (fun k hk => by cases hk))
  have HO : Hid (w1.ownsRow w.heap.size 3 1 (.slice (some ⟨w.heap.size, 0, none⟩) L L) L ((List.replicate L (0 : Int)).map (Value.int .i64))) := hide (by
    have := made_map L
    rw [Nat.mul_one] at this
    rw [← this]; exact hown)
  clear hown hgrow hi hz0 hz1 hz2
  go_wp2
  go_loopw [6] (fun t wr => ∃ (i : Nat) (os : List Int), t = .int .i64 (i : Int) ∧ i ≤ la ∧ Hid (wr.ownsRow w.heap.size 3 1 (.slice (some ⟨w.heap.size, 0, none⟩) L L) L (os.map (Value.int .i64))) ∧ Hid (Below w.heap.size w wr) ∧ Hid (TimesIn xs ys os L i 0)) (fun t _ => la - (intOf t).toNat)
  case atStart => exact ⟨0, _, rfl, Nat.zero_le _, HO, HB, hide (times_start xs ys L)⟩
  case round =>
    clear HO HB
    obtain ⟨i, os, rfl, hi, HO, HB, HI⟩ := hrel
    by_cases hil : i < la
    · go_wp2
      go_loopw [7] (fun t wr => ∃ (k : Nat) (os : List Int), t = .int .i64 (k : Int) ∧ k ≤ lb ∧ Hid (wr.ownsRow w.heap.size 3 1 (.slice (some ⟨w.heap.size, 0, none⟩) L L) L (os.map (Value.int .i64))) ∧ Hid (Below w.heap.size w wr) ∧ Hid (TimesIn xs ys os L i k)) (fun t _ => lb - (intOf t).toNat)
      case atStart => exact ⟨0, os, rfl, Nat.zero_le _, HO, HB, HI⟩
      case round =>
        clear HO HB HI
        obtain ⟨k, os, rfl, hk, HO, HB, HI⟩ := hrel
        by_cases hkl : k < lb
        · have hikL : i + k < L := by have := unhide HL; omega
          have c0 := owns_cell (unhide HO) (i + k) hikL
          have f0 := (unhide HO).frozenAt (i + k)
          have p0 := (unhide HI).pos (i + k)
          have p1 := (unhide HI).high (i + k) (by omega)
          obtain ⟨ba, oa, rfl, ba1, ca⟩ := unhide HOA (by omega)
          obtain ⟨bb, ob, rfl, bb1, cb⟩ := unhide HOB (by omega)
          have ca := ca i hil
          have cb := cb k hkl
          rw [← (unhide HB).cell (p := ⟨ba, oa + i, none⟩) ba1] at ca
          rw [← (unhide HB).cell (p := ⟨bb, ob + k, none⟩) bb1] at cb
          have sx := (unhide HDX).1.getD i
          have sy := (unhide HDX).2.getD k
          have TS := times_step xs ys os L i k hikL (unhide HDX).1 (unhide HDX).2 (unhide HI)
          have a3 : 0 ≤ xs.getD i 0 * ys.getD k 0 := Int.mul_nonneg sx.1 sy.1
          have a4 : xs.getD i 0 * ys.getD k 0 ≤ 81 := by
            have b1 : xs.getD i 0 * ys.getD k 0 ≤ xs.getD i 0 * 9 := Int.mul_le_mul_of_nonneg_left sy.2 sx.1
            omega
          obtain ⟨p, hp⟩ : ∃ p, os.getD (i + k) 0 = p := ⟨_, rfl⟩
          obtain ⟨x, hx0⟩ : ∃ x, xs.getD i 0 = x := ⟨_, rfl⟩
          obtain ⟨y, hy0⟩ : ∃ y, ys.getD k 0 = y := ⟨_, rfl⟩
          obtain ⟨z, hz⟩ : ∃ z, x * y = z := ⟨_, rfl⟩
          rw [hp] at c0 p0 p1
          rw [hx0] at ca a3 a4
          rw [hy0] at cb a3 a4
          rw [hz] at a3 a4
          rw [hp, hx0, hy0, hz] at TS
          have TS := hide TS
          have eik : ((i : Int) + (k : Int)).toNat = i + k := by omega
          have hb1 : (i : Int) + (k : Int) < (L : Int) := by omega
          have hpb : p ≤ 20000 := by omega
          clear hp hx0 hy0 sx sy p1
          go_wp2
          go_region
          obtain ⟨w2, ew2⟩ : ∃ w2, (wr.setCell ⟨w.heap.size, i + k, none⟩ (.int .i64 (p + z))).drew = w2 := ⟨_, rfl⟩
          rw [ew2]
          obtain ⟨HO', HB'⟩ := row_world (unhide HO) (unhide HB) ew2.symm
          clear c0 f0 ew2 ca cb
          go_wp2
          go_roundw
          case rel => exact ⟨k + 1, _, by go_num, by omega, HO', HB', TS⟩
          case measure => simp [intOf]; omega
        · have TN := hide (times_next xs ys os L i k (by have := unhide HLB; omega) (unhide HI))
          go_wp2
          go_roundw
          case rel => exact ⟨i + 1, os, by go_num, by omega, HO, HB, TN⟩
          case measure => simp [intOf]; omega
    · have hil' : i = la := by omega
      subst hil'
      have CS := hide (carry_start xs ys os L i (by have := unhide HLA; omega) (unhide HI))
      go_wp2
      go_loopw [8] (fun t wr => ∃ (k : Nat) (os : List Int), t = .int .i64 (k : Int) ∧ k + 1 ≤ L ∧ Hid (wr.ownsRow w.heap.size 3 1 (.slice (some ⟨w.heap.size, 0, none⟩) L L) L (os.map (Value.int .i64))) ∧ Hid (Below w.heap.size w wr) ∧ Hid (CarryIn os (Dc.val xs * Dc.val ys) ((i : Int) + 1) L k)) (fun t _ => L - (intOf t).toNat)
      case atStart => exact ⟨0, os, rfl, by have := unhide HL; omega, HO, HB, CS⟩
      case round =>
        clear HO HB HI CS
        obtain ⟨k, os, rfl, hk, HO, HB, HI⟩ := hrel
        by_cases hkl : k + 1 < L
        · have c0 := owns_cell (unhide HO) k (by omega)
          have c1 := owns_cell (unhide HO) (k + 1) (by omega)
          have f0 := (unhide HO).frozenAt k
          have f1 := (unhide HO).frozenAt (k + 1)
          have m0 := (unhide HI).mid
          have m1 := (unhide HI).high (k + 1) (by omega)
          have hlen := (unhide HI).len
          have TS := carry_step os _ _ L k hkl (unhide HI)
          obtain ⟨p, hp⟩ : ∃ p, os.getD k 0 = p := ⟨_, rfl⟩
          obtain ⟨q, hq⟩ : ∃ q, os.getD (k + 1) 0 = q := ⟨_, rfl⟩
          rw [hp] at c0 m0
          rw [hq] at c1 m1
          rw [hp, hq] at TS
          have TS := hide TS
          have HP := hide hp
          have HLEN := hide hlen
          obtain ⟨p0, p1⟩ := m0
          obtain ⟨q0, q1⟩ := m1
          have pb : p ≤ 40000 := by omega
          have qb : q ≤ 40000 := by omega
          have ek1 : ((k : Int) + 1).toNat = k + 1 := by omega
          clear hp hq p1 q1 hlen
          go_wp2
          go_region
          obtain ⟨w2, ew2⟩ : ∃ w2, (wr.setCell ⟨w.heap.size, k + 1, none⟩ (.int .i64 (q + p / 10))).drew = w2 := ⟨_, rfl⟩
          rw [ew2]
          obtain ⟨HO', HB'⟩ := row_world (unhide HO) (unhide HB) ew2.symm
          clear c0 c1 f0 f1 ew2
          have c0 := owns_cell (unhide HO') k (by omega)
          have f0 := (unhide HO').frozenAt k
          rw [Dc.getD_set _ _ _ _ (by have := unhide HLEN; omega), if_neg (by omega), unhide HP] at c0
          have HO4 : Hid ((w2.setCell ⟨w.heap.size, k, none⟩ (.int .i64 (p % 10))).ownsRow w.heap.size 3 1 (.slice (some ⟨w.heap.size, 0, none⟩) L L) L (((os.set (k + 1) (q + p / 10)).set k (p % 10)).map (Value.int .i64))) := hide (owns_set (unhide HO') k (p % 10))
          have HB4 := hide ((unhide HB').setCell (p := ⟨w.heap.size, k, none⟩) (Nat.le_refl _) (.int .i64 (p % 10)))
          go_wp2
          go_roundw
          case rel => exact ⟨k + 1, _, by go_num, by omega, HO4, HB4, TS⟩
          case measure => simp [intOf]; omega
        · have hk1 : k + 1 = L := by omega
          have hkl2 : k = i + lb := by have := unhide HL; omega
          obtain ⟨d1, d2⟩ := carry_end os _ _ L k hk1 (by rw [hkl2]; exact (unhide HML).2) (unhide HI)
          have hol : os.length = L := (unhide HI).len
          have HD := hide (And.intro d1 (And.intro d2 hol))
          have HK := hide hkl2
          clear d1 d2 hol hkl2
          have HCL : Hid (∀ i, i < os.length → wr.cell? ⟨w.heap.size, 0 + i, none⟩ = some (.int .i64 (os.getD i 0))) := hide (fun i hi => by
            rw [Nat.zero_add]; exact owns_cell (unhide HO) i (by have := (unhide HD).2.2; omega))
          have HBL : Hid (w.heap.size < wr.heap.size) := hide (owns_lt (unhide HO))
          go_wp2
          go_loop [9] (fun t => ∃ n : Nat, t = .int .i64 (n : Int) ∧ n ≤ L ∧ Hid (∀ i, n ≤ i → os.getD i 0 = 0)) (fun t => (intOf t).toNat)
          case atStart => exact ⟨L, rfl, Nat.le_refl _, hide (fun i hi => by rw [List.getD_eq_getElem?_getD, List.getElem?_eq_none (by have := (unhide HD).2.2; omega)]; rfl)⟩
          case round =>
            obtain ⟨n, rfl, hn, HZ⟩ := hrel
            by_cases h0 : n = 0
            · subst h0
              go_wp2
              go_ret
              obtain ⟨d1, d2, hol⟩ := unhide HD
              exact ⟨unhide HB, .slice (some ⟨w.heap.size, 0, none⟩) 0 L, os.take 0, rfl, arr_take (Nat.zero_le _) (by omega) (unhide HBL) (unhide HCL), d1.take 0, Dc.cn_cut os 0 (Nat.zero_le _) (Or.inl rfl), by rw [Dc.val_cut os 0 (unhide HZ)]; exact d2, by rw [List.length_take]; omega, fr_cut (fr_of_owns (unhide HO))⟩
            · have hc := unhide HCL (n - 1) (by have := (unhide HD).2.2; omega)
              rw [Nat.zero_add] at hc
              obtain ⟨x, hx⟩ : ∃ x, os.getD (n - 1) 0 = x := ⟨_, rfl⟩
              rw [hx] at hc
              have HX := hide hx
              have hn1 : 1 ≤ n := by omega
              have ea : Hid (((n : Int) - 1).toNat = n - 1) := hide (by omega)
              clear hx h0
              by_cases hx0 : x = 0
              · subst hx0
                go_wp2
                exact ⟨⟨n - 1, int_eqv (by omega), by omega, hide (fun i hi => by
                  by_cases he : i = n - 1
                  · subst he; exact unhide HX
                  · exact unhide HZ i (by omega))⟩, by simp [intOf]; omega⟩
              · have hxb : (x == 0) = false := by rw [beq_eq_false_iff_ne]; exact hx0
                have HX0 := hide hx0
                clear hx0
                go_wp2
                go_ret
                obtain ⟨d1, d2, hol⟩ := unhide HD
                exact ⟨unhide HB, .slice (some ⟨w.heap.size, 0, none⟩) n L, os.take n, rfl, arr_take (by omega) (by omega) (unhide HBL) (unhide HCL), d1.take n, Dc.cn_cut os n (by omega) (Or.inr (by rw [unhide HX]; exact unhide HX0)), by rw [Dc.val_cut os n (unhide HZ)]; exact d2, by rw [List.length_take]; omega, fr_cut (fr_of_owns (unhide HO))⟩
end Go.Proofs.YtbeijnflfmjgfaaGreatDoor

namespace Go.Proofs.YtbeijnflfmjgfaaGreatDoor
open Go.RowKit

set_option maxHeartbeats 2000000 in
theorem below2_any (va vb : Value) (xs ys : List Int) (w : World) (ha : xs.length ≤ 1000) (hb : ys.length ≤ 1000) (hva : Arr w va xs) (hvb : Arr w vb ys)
    (da : Dc.Dig xs) (db : Dc.Dig ys) (ca : Dc.Cn xs) (cb : Dc.Cn ys) :
    Calls Tryz.prog 145 #[va, vb] w fun e w' => BelowPost (decide (Dc.val xs < Dc.val ys)) w e w' := by
  obtain ⟨xa, na, capa, rfl, hna⟩ : ∃ ad n cap, va = .slice ad n cap ∧ n = xs.length := by
    rcases hva with ⟨rfl, ad, cap, rfl⟩ | ⟨b, o, cap, rfl, _⟩
    · exact ⟨_, _, _, rfl, rfl⟩
    · exact ⟨_, _, _, rfl, rfl⟩
  obtain ⟨xb, nb, capb, rfl, hnb⟩ : ∃ ad n cap, vb = .slice ad n cap ∧ n = ys.length := by
    rcases hvb with ⟨rfl, ad, cap, rfl⟩ | ⟨b, o, cap, rfl, _⟩
    · exact ⟨_, _, _, rfl, rfl⟩
    · exact ⟨_, _, _, rfl, rfl⟩
  by_cases hl : na = nb
  · have hlx : xs.length = ys.length := by omega
    have hlb : ((na : Int) == (nb : Int)) = true := by rw [beq_iff_eq]; omega
    subst hl
    rcases Nat.eq_zero_or_pos na with h0 | h0
    · have ex : xs = [] := List.eq_nil_of_length_eq_zero (by omega)
      have ey : ys = [] := List.eq_nil_of_length_eq_zero (by omega)
      have hd : decide (Dc.val xs < Dc.val ys) = false := by rw [ex, ey]; decide
      rw [hd]
      have HD := hide hd
      have HN := hide (And.intro hna hnb)
      have HVA := hide hva
      have HVB := hide hvb
      have HX := hide (And.intro ex ey)
      clear hd hva hvb da db ca cb hna hnb ex ey hlx
      subst h0
      go_enter Tryz.func145, Tryz.ntmps145
      go_wp2
      refine wp_loop_rounds 1 ?_
      rw [rounds_succ]
      go_wp2
      go_ret
      exact ⟨rfl, Below.refl _ _⟩
    · rcases hva with ⟨e, _⟩ | ⟨ba, oa, capa', ea, _, _, hca⟩
      · exfalso; rw [e] at hna; simp at hna; omega
      rcases hvb with ⟨e, _⟩ | ⟨bb, ob, capb', eb, _, _, hcb⟩
      · exfalso; rw [e] at hnb; simp at hnb; omega
      injection ea with ea1 ea2 ea3
      injection eb with eb1 eb2 eb3
      subst ea1 eb1
      have HCA := hide hca
      have HCB := hide hcb
      have HDA := hide (And.intro da db)
      have HLX := hide hlx
      have HNA := hide (And.intro hna hnb)
      have hn1000 : na ≤ 1000 := by omega
      clear hca hcb da db ca cb hlx hna hnb ea2 eb2 ea3 eb3
      go_enter Tryz.func145, Tryz.ntmps145
      go_wp2
      go_loopw [5] (fun t wr => ∃ k m : Nat, t = .int .i64 ((k : Int) - 1) ∧ k ≤ na ∧ Hid (xs.drop k = ys.drop k) ∧ wr = w.drewN m) (fun t _ => (intOf t + 1).toNat)
      case atStart => exact ⟨na, 0, rfl, Nat.le_refl _, hide (by have h1 := unhide HNA; have h2 := unhide HLX; rw [List.drop_of_length_le (by omega), List.drop_of_length_le (by omega)]), rfl⟩
      case round =>
        obtain ⟨k, m, rfl, hk, HD, rfl⟩ := hrel
        rcases Nat.eq_zero_or_pos k with hk0 | hk0
        · subst hk0
          have hd : Hid (decide (Dc.val xs < Dc.val ys) = false) := hide (by have := unhide HD; rw [List.drop_zero, List.drop_zero] at this; rw [this]; exact decide_eq_false (by omega))
          go_wp2
          go_ret
          exact ⟨by rw [unhide hd]; rfl, below_drewN (Below.refl _ _) _⟩
        · have hca := unhide HCA (k - 1) (by have := unhide HNA; omega)
          have hcb := unhide HCB (k - 1) (by have := unhide HNA; omega)
          obtain ⟨x, hx⟩ : ∃ x, xs.getD (k - 1) 0 = x := ⟨_, rfl⟩
          obtain ⟨y, hy⟩ : ∃ y, ys.getD (k - 1) 0 = y := ⟨_, rfl⟩
          rw [hx] at hca
          rw [hy] at hcb
          have HX := hide hx
          have HY := hide hy
          clear hx hy
          have hkI : ((k : Int) - 1).toNat = k - 1 := by omega
          by_cases hxy : x = y
          · subst hxy
            go_wp2
            go_quiet (fail)
            go_wp2
            exact ⟨⟨k - 1, _, int_eqv (by omega), by omega, hide (by
              have h1 := unhide HNA
              rw [drop_pred xs k (by omega) (by omega), drop_pred ys k (by omega) (by omega), unhide HX, unhide HY, unhide HD]), rfl⟩, by simp [intOf]; omega⟩
          · have hxb : (x == y) = false := by rw [beq_eq_false_iff_ne]; exact hxy
            have hd : Hid (decide (Dc.val xs < Dc.val ys) = decide (x < y)) := hide (by
              have h1 := unhide HNA
              have h2 := unhide HDA
              have e1 : k - 1 + 1 = k := by omega
              by_cases hlt : x < y
              · rw [decide_eq_true hlt]
                exact decide_eq_true (Dc.lt_at xs ys h2.1 h2.2 (k - 1) (by omega) (unhide HLX) (by rw [e1]; exact unhide HD) (by rw [unhide HX, unhide HY]; exact hlt))
              · rw [decide_eq_false hlt]
                have := Dc.lt_at ys xs h2.2 h2.1 (k - 1) (by omega) (unhide HLX).symm (by rw [e1]; exact (unhide HD).symm) (by rw [unhide HX, unhide HY]; omega)
                exact decide_eq_false (by omega))
            have HXY := hide hxy
            clear hxy
            go_wp2
            go_quiet (fail)
            go_wp2
            go_quiet (fail)
            go_wp2
            go_ret
            exact ⟨by rw [unhide hd]; rfl, below_drewN (below_drewN (below_drewN (Below.refl _ _) _) _) _⟩
  · have hlb : ((na : Int) == (nb : Int)) = false := by rw [beq_eq_false_iff_ne]; omega
    have hd : decide (Dc.val xs < Dc.val ys) = decide (na < nb) := by
      by_cases h : na < nb
      · rw [decide_eq_true (Dc.lt_of_len xs ys da db cb (by omega)), decide_eq_true (by omega)]
      · have := Dc.lt_of_len ys xs db da ca (by omega)
        rw [decide_eq_false (by omega), decide_eq_false (by omega)]
    rw [hd]
    have HD := hide hd
    have HVA := hide hva
    have HVB := hide hvb
    have HN := hide (And.intro hna hnb)
    clear hd hva hvb da db ca cb hna hnb
    go_enter Tryz.func145, Tryz.ntmps145
    go_wp2
    go_ret
    exact ⟨rfl, Below.refl _ _⟩
end Go.Proofs.YtbeijnflfmjgfaaGreatDoor

namespace Go.Proofs.YtbeijnflfmjgfaaGreatDoor
open Go.RowKit

theorem arr_five (w : World) (a b c d e : Int) (t : TypeId) : Arr (w.alloc (.cells #[.int .i64 a, .int .i64 b, .int .i64 c, .int .i64 d, .int .i64 e] t)) (.slice (some ⟨w.heap.size, 0, none⟩) 5 5) [a, b, c, d, e] := by
  refine Or.inr ⟨w.heap.size, 0, 5, rfl, Nat.le_refl _, by simp, ?_⟩
  intro i hi
  match i, hi with
  | 0, _ => simp [go_sem]
  | 1, _ => simp [go_sem]
  | 2, _ => simp [go_sem]
  | 3, _ => simp [go_sem]
  | 4, _ => simp [go_sem]

theorem dig_four : Dc.Dig [0, 0, 0, 0, 4] := by
  intro x hx
  simp at hx
  omega
theorem val_four : Dc.val [0, 0, 0, 0, 4] = 40000 := by decide
end Go.Proofs.YtbeijnflfmjgfaaGreatDoor

namespace Go.Proofs.YtbeijnflfmjgfaaGreatDoor
open Go.RowKit

def RootOf (a : Int) (r : Int) : Prop := ∃ n m : Nat, a = (n : Int) ∧ r = (m : Int) ∧ m ≤ 549755813887 ∧ (m = 0 ∨ m * (m - 1) < n * 10000) ∧ n * 10000 ≤ (m + 1) * m
def rootF (k : Nat) : Nat → Nat → Nat
  | 0, m => m
  | f + 1, m => if k ≤ (m + 1) * m then m else rootF k f (m + 1)
def rootV (a : Int) : Int := (rootF (a.natAbs * 10000) (a.natAbs * 10000) 0 : Nat)
theorem rootF_eq {k r : Nat} (h1 : r = 0 ∨ r * (r - 1) < k) (h2 : k ≤ (r + 1) * r) : ∀ f m : Nat, m ≤ r → r ≤ m + f → rootF k f m = r := by
  intro f
  induction f with
  | zero => intro m a b; unfold rootF; omega
  | succ f ih =>
    intro m a b
    unfold rootF
    split
    · rename_i hk
      rcases Nat.lt_or_ge m r with hlt | hge
      · exfalso
        rcases h1 with h1 | h1
        · omega
        · have : (m + 1) * m ≤ r * (r - 1) := Nat.mul_le_mul (by omega) (by omega)
          omega
      · omega
    · rename_i hk
      have : m ≠ r := fun e => hk (by rw [e]; exact h2)
      exact ih (m + 1) (by omega) (by omega)
theorem rootV_eq {a r : Int} (h : RootOf a r) : rootV a = r := by
  obtain ⟨n, m, rfl, rfl, _, h1, h2⟩ := h
  unfold rootV
  rw [show ((n : Int).natAbs) = n from rfl, rootF_eq h1 h2 _ 0 (Nat.zero_le _) ?_]
  rcases h1 with h1 | h1
  · omega
  · rcases Nat.lt_or_ge m 2 with hm | hm
    · omega
    · have : m * 1 ≤ m * (m - 1) := Nat.mul_le_mul (Nat.le_refl _) (by omega)
      omega
theorem near_mid (m sq : Nat) (h : 1 ≤ m) : ((2 * (m : Int) - 1).natAbs : Int) * ((2 * (m : Int) - 1).natAbs : Int) < 40000 * (sq : Int) ↔ m * (m - 1) < sq * 10000 := by
  obtain ⟨k, rfl⟩ : ∃ k, m = k + 1 := ⟨m - 1, by omega⟩
  have e : (2 * ((k + 1 : Nat) : Int) - 1).natAbs = 2 * k + 1 := by omega
  rw [e, Nat.add_sub_cancel]
  have e2 : (2 * k + 1) * (2 * k + 1) = 4 * ((k + 1) * k) + 1 := by
    rw [Nat.add_mul, Nat.mul_add, Nat.add_mul, Nat.one_mul, Nat.mul_one, Nat.mul_add, Nat.mul_mul_mul_comm]
    omega
  have e3 : ((2 * k + 1 : Nat) : Int) * ((2 * k + 1 : Nat) : Int) = ((4 * ((k + 1) * k) + 1 : Nat) : Int) := by rw [← e2]; exact (Int.natCast_mul _ _).symm
  rw [e3]
  generalize (k + 1) * k = q
  omega

set_option maxRecDepth 100000 in
set_option maxHeartbeats 4000000 in
theorem root_ref (n : Nat) (w : World) (hn : n ≤ 9000000000000000000) :
    Calls Tryz.prog 106 #[.int .i64 (n : Int)] w fun e w' => e = .returned (.int .i64 (rootV (n : Int))) ∧ Below w.heap.size w w' := by
  go_enter Tryz.func106, Tryz.ntmps106
  go_wp2_with fail
  refine (digits_ref (n : Int) _ (by omega) (by omega)).mono ?_
  rintro e w1 ⟨b1, v1, z1, rfl, r1, d1, c1, n1, l1, _⟩
  have H1 := hide (And.intro r1 (And.intro d1 (And.intro c1 n1)))
  clear r1 d1 c1 n1
  go_wp2_with fail
  refine (product_ref _ _ z1 [0, 0, 0, 0, 4] _ (by omega) (by simp) ((unhide H1).1.below (Nat.le_refl _) (below_alloc _ _)) (arr_five _ _ _ _ _ _ _) (unhide H1).2.1 dig_four).mono ?_
  rintro e w2 ⟨b2, v2, z2, rfl, r2, d2, c2, n2, l2, _⟩
  have e2 : Dc.val z2 = 40000 * (n : Int) := by
    rw [n2, (unhide H1).2.2.2, val_four]; omega
  have l2' : z2.length ≤ 30 := by simp at l2; omega
  have H2 := hide (And.intro r2 (And.intro d2 (And.intro c2 e2)))
  have HB : Hid (Below w.heap.size w w2) := hide ((b1.alloc b1.size _).trans (b2.mono (by simp; have := b1.size; omega)))
  clear r2 d2 c2 n2 e2 l2 b1 b2 l1 H1
  go_wp2
  go_loopw [5, 6, 7, 8, 9, 10] (fun t u _ _ _ _ wr => ∃ lo hi : Nat, t = .int .i64 (lo : Int) ∧ u = .int .i64 (hi : Int) ∧ lo ≤ hi ∧ hi ≤ 400000000000 ∧ Hid ((lo = 0 ∨ lo * (lo - 1) < n * 10000) ∧ n * 10000 ≤ (hi + 1) * hi) ∧ Hid (Below w2.heap.size w2 wr)) (fun t u _ _ _ _ _ => (intOf u - intOf t).toNat)
  case atStart => exact ⟨0, 400000000000, rfl, rfl, by omega, by omega, hide ⟨Or.inl rfl, by omega⟩, hide (Below.refl _ _)⟩
  case round =>
    obtain ⟨lo, hi, rfl, rfl, hle, hhi, HI, HR⟩ := hrel
    by_cases hlt : (lo : Int) < (hi : Int)
    · obtain ⟨m, hm⟩ : ∃ m : Nat, ((lo : Int) + (hi : Int) + 1).tdiv 2 = (m : Int) := ⟨(lo + hi + 1) / 2, by rw [Int.tdiv_eq_ediv_of_nonneg (by omega)]; omega⟩
      have hmb : lo + 1 ≤ m ∧ m ≤ hi := by rw [Int.tdiv_eq_ediv_of_nonneg (by omega)] at hm; omega
      have hm2 : ((lo : Int) + (hi : Int) + 1) / 2 = (m : Int) := by rw [Int.tdiv_eq_ediv_of_nonneg (by omega)] at hm; exact hm
      obtain ⟨m1, m2⟩ := hmb
      have HM := hide (And.intro hm hm2)
      clear hm hm2
      go_wp2_with fail
      simp only [(unhide HM).2]
      refine (digits_ref (2 * (m : Int) - 1) _ (by omega) (by omega)).mono ?_
      rintro e w3 ⟨b3, v3, z3, rfl, r3, d3, c3, n3, l3, _⟩
      have H3 := hide (And.intro r3 (And.intro d3 (And.intro c3 n3)))
      have A3 := hide ((unhide H2).1.below (Nat.le_refl _) (below_next (unhide HR) b3))
      have R3 := hide (below_next (unhide HR) b3)
      clear r3 d3 c3 n3 b3
      go_wp2_with fail
      refine (product_ref _ _ z3 z3 _ (by omega) (by omega) (unhide H3).1 (unhide H3).1 (unhide H3).2.1 (unhide H3).2.1).mono ?_
      rintro e w4 ⟨b4, v4, z4, rfl, r4, d4, c4, n4, l4, _⟩
      have e4 : Dc.val z4 = ((2 * (m : Int) - 1).natAbs : Int) * ((2 * (m : Int) - 1).natAbs : Int) := by rw [n4, (unhide H3).2.2.2]
      have H4 := hide (And.intro r4 (And.intro d4 (And.intro c4 e4)))
      have R4 := hide (below_next (unhide R3) b4)
      have A4 := hide ((unhide A3).below (Nat.le_refl _) b4)
      clear r4 d4 c4 n4 e4 b4 A3
      go_wp2_with fail
      refine (below2_any _ _ z4 z2 _ (by omega) (by omega) (unhide H4).1 (unhide A4) (unhide H4).2.1 (unhide H2).2.1 (unhide H4).2.2.1 (unhide H2).2.2.1).mono ?_
      rintro e w5 ⟨rfl, b5⟩
      have R5 := hide (below_next (unhide R4) b5)
      rw [(unhide H4).2.2.2, (unhide H2).2.2.2]
      clear b5
      by_cases hc : m * (m - 1) < n * 10000
      · rw [decide_eq_true ((near_mid m n (by omega)).2 hc)]
        have HI2 : Hid ((m = 0 ∨ m * (m - 1) < n * 10000) ∧ n * 10000 ≤ (hi + 1) * hi) := hide ⟨Or.inr hc, (unhide HI).2⟩
        clear hc
        go_wp2
        go_roundw
        case rel => exact ⟨m, hi, rfl, rfl, by omega, by omega, HI2, R5⟩
        case measure => simp only [intOf]; omega
      · rw [decide_eq_false (fun h => hc ((near_mid m n (by omega)).1 h))]
        have HI2 : Hid ((lo = 0 ∨ lo * (lo - 1) < n * 10000) ∧ n * 10000 ≤ ((m - 1) + 1) * (m - 1)) := hide ⟨(unhide HI).1, by rw [Nat.sub_add_cancel (by omega)]; omega⟩
        clear hc
        go_wp2
        go_roundw
        case rel => exact ⟨lo, m - 1, rfl, int_eqv (by omega), by omega, by omega, HI2, R5⟩
        case measure => simp only [intOf]; omega
    · have he : lo = hi := by omega
      subst he
      have HE : Hid (rootV (n : Int) = (lo : Int)) := hide (rootV_eq ⟨n, lo, rfl, rfl, by omega, (unhide HI).1, (unhide HI).2⟩)
      have HBZ := hide (below_next (unhide HB) (unhide HR))
      go_wp2
      go_ret
      exact ⟨by rw [unhide HE]; rfl, unhide HBZ⟩
end Go.Proofs.YtbeijnflfmjgfaaGreatDoor
