/- Rows of cells; the contracts of the small tests of layer 4: Good of a cell, letter, digit, inName. -/
import Derived.BigQuiet
import Derived.Deep.CutBlock
import Derived.Deep.CutRange
import Derived.Deep.DeepFit
import Derived.Deep.QuietTactic
import Derived.Deep.RegionHeld3
import Derived.Laws.Bits64b
import Derived.Laws.IdiomStrings
import Derived.Laws.Rows
import Derived.Lib.Atoi
import Derived.Lib.BitFns
import Derived.Lib.CutLaws
import Derived.Lib.IndexMore
import Derived.Lib.ItoaMem
import Derived.Lib.ItoaNum
import Derived.Lib.Join
import Derived.Lib.Replace
import Derived.Lib.Walk
import Derived.Shelf.Bits.Mul64
import Derived.Shelf.LaysM
import Derived.Shelf.Small.Bits
import Derived.Shelf.Small.Strs
import Derived.Shelf.Small.Utf8
import Derived.Shelf.Small.Wraps
import Derived.Shelf.Strconv.Atoi
import Derived.Shelf.Strconv.Itoa0
import Derived.Shelf.Strconv.Itoa1
import Derived.Shelf.Strconv.Itoa2
import Derived.Shelf.Strconv.Itoa3
import Derived.Shelf.Strings.AsciiSet
import Derived.Shelf.Strings.Builder1
import Derived.Shelf.Strings.Builder2
import Derived.Shelf.Strings.Count
import Derived.Shelf.Strings.Cut
import Derived.Shelf.Strings.OnBuilder
import Derived.Shelf.Strings.Prefix
import Derived.Shelf.Strings.Replace
import Derived.Shelf.Strings.Runes
import Derived.Shelf.Strings.Search1
import Derived.Shelf.Strings.Search2
import Derived.Shelf.Strings.Search3
import Derived.Shelf.Strings.Shaped
import Derived.Shelf.Strings.Split
import Derived.Shelf.Strings.SplitShaped
import Derived.Shelf.Strings.Trim
import Derived.Shelf.Unicode.DecodeSlow
import Derived.Test.YtloamahbghjjgaaGreatDoorProg
import Derived.Test.YtloamahbghjjgaaGreatDoorRows
import Derived.WalkKit
import Derived.WalkLawsBesides
import Derived.WalkSmall
import Derived.WalkSpells
import Derived.Test.YtloamahbghjjgaaGreatDoorZgAA
import Derived.Test.YtloamahbghjjgaaGreatDoorZgAC
import Derived.Test.YtloamahbghjjgaaGreatDoorZgAE
import Derived.Test.YtloamahbghjjgaaGreatDoorZgAB
namespace Go.Proofs.YtloamahbghjjgaaGreatDoor
open Go.RowKit

def CellsAt (w : World) (B : Nat) (t : TypeId) (cs : Array Value) : Prop := w.heap[B]? = some (.cells cs t (0, 0))
theorem cells_c {w : World} {B : Nat} {t : TypeId} {cs : Array Value} (h : CellsAt w B t cs) (i : Nat) (v : Value) (hv : cs[i]? = some v) : w.cell? ⟨B, i, none⟩ = some v := by
  unfold CellsAt at h
  obtain ⟨hlt, hv'⟩ := Array.getElem?_eq_some_iff.1 hv
  simp [World.cell?, h, hlt, hv']
theorem cells_f {w : World} {B : Nat} {t : TypeId} {cs : Array Value} (h : CellsAt w B t cs) (i : Nat) : w.frozen? ⟨B, i, none⟩ = false := by
  unfold CellsAt at h
  simp [World.frozen?, h]
theorem cells_lt {w : World} {B : Nat} {t : TypeId} {cs : Array Value} (h : CellsAt w B t cs) : B < w.heap.size := by
  rcases Nat.lt_or_ge B w.heap.size with h1 | h1
  · exact h1
  · unfold CellsAt at h; rw [Array.getElem?_eq_none h1] at h; cases h
theorem cells_below {w w' : World} {B N : Nat} {t : TypeId} {cs : Array Value} (h : CellsAt w B t cs) (hb : Below N w w') (hB : B < N) : CellsAt w' B t cs := by
  unfold CellsAt at h ⊢
  rw [hb.block B hB]; exact h
theorem cells_nx {w w' : World} {B : Nat} {t : TypeId} {cs : Array Value} (h : CellsAt w B t cs) (hb : Below w.heap.size w w') : CellsAt w' B t cs := cells_below h hb (cells_lt h)
theorem cells_new (w : World) (t : TypeId) (cs : Array Value) : CellsAt (w.alloc (.cells cs t)) w.heap.size t cs := heap_alloc_new _ _
theorem cells_drew {w : World} {B : Nat} {t : TypeId} {cs : Array Value} (h : CellsAt w B t cs) : CellsAt w.drew B t cs := h
theorem cells_al {w : World} {B : Nat} {t : TypeId} {cs : Array Value} (h : CellsAt w B t cs) (o : Obj) : CellsAt (w.alloc o) B t cs := cells_nx h (below_al w o)
theorem cells_set {w : World} {B : Nat} {t : TypeId} {cs : Array Value} (h : CellsAt w B t cs) (i : Nat) (v : Value) : CellsAt (w.setCell ⟨B, i, none⟩ v) B t (cs.setIfInBounds i v) := by
  unfold CellsAt at h ⊢
  exact heap_setCell_same w B i cs t v h
theorem cells_set_far {w : World} {B C : Nat} {t : TypeId} {cs : Array Value} (h : CellsAt w B t cs) (hC : B ≠ C) (i : Nat) (v : Value) : CellsAt (w.setCell ⟨C, i, none⟩ v) B t cs := by
  unfold CellsAt at h ⊢
  rw [heap_setCell_other _ _ _ _ hC]; exact h
theorem cells4 {w : World} {B : Nat} {t : TypeId} {v0 v1 v2 v3 : Value} (h : CellsAt w B t #[v0, v1, v2, v3]) :
    w.cell? ⟨B, 0, none⟩ = some v0 ∧ w.cell? ⟨B, 1, none⟩ = some v1 ∧ w.cell? ⟨B, 2, none⟩ = some v2 ∧ w.cell? ⟨B, 3, none⟩ = some v3 := by
  unfold CellsAt at h
  simp [World.cell?, h]
theorem cells11 {w : World} {B : Nat} {t : TypeId} {v0 v1 v2 v3 v4 v5 v6 v7 v8 v9 v10 : Value} (h : CellsAt w B t #[v0, v1, v2, v3, v4, v5, v6, v7, v8, v9, v10]) :
    w.cell? ⟨B, 0, none⟩ = some v0 ∧ w.cell? ⟨B, 1, none⟩ = some v1 ∧ w.cell? ⟨B, 2, none⟩ = some v2 ∧ w.cell? ⟨B, 3, none⟩ = some v3 ∧ w.cell? ⟨B, 4, none⟩ = some v4 ∧ w.cell? ⟨B, 5, none⟩ = some v5 ∧ w.cell? ⟨B, 6, none⟩ = some v6 ∧ w.cell? ⟨B, 7, none⟩ = some v7 ∧ w.cell? ⟨B, 8, none⟩ = some v8 ∧ w.cell? ⟨B, 9, none⟩ = some v9 ∧ w.cell? ⟨B, 10, none⟩ = some v10 := by
  unfold CellsAt at h
  simp [World.cell?, h]
theorem below_set {w a : World} {N B i : Nat} (h : Below N w a) (hB : N ≤ B) (v : Value) : Below N w (a.setCell ⟨B, i, none⟩ v) := h.setCell (p := ⟨B, i, none⟩) hB v

set_option maxHeartbeats 1000000 in
theorem cellGood_val (c r : Int) (w : World) :
    Calls Tryz.prog 113 #[.agg #[.int .i64 c, .int .i64 r]] w fun e w' => e = .returned (.bool (cellG c r)) ∧ Below w.heap.size w w' := by
  by_cases h0 : 0 ≤ c
  · by_cases h1 : c < 64
    · by_cases h2 : 0 ≤ r
      · by_cases h3 : r < 1024
        · have E : cellG c r = true := (cellG_iff c r).2 ⟨h0, h1, h2, h3⟩
          rw [E]
          clear E
          go_enter Tryz.func113, Tryz.ntmps113
          go_wp2
          go_ret
          exact ⟨rfl, below_al _ _⟩
        · have g3 : 1024 ≤ r := by omega
          have d3 : decide (r < 1024) = false := decide_eq_false h3
          have E : cellG c r = false := by rw [← Bool.not_eq_true, cellG_iff]; omega
          rw [E]
          clear E h3
          go_enter Tryz.func113, Tryz.ntmps113
          go_wp2
          go_ret
          exact ⟨rfl, below_al _ _⟩
      · have g2 : r < 0 := by omega
        have d2 : decide (0 ≤ r) = false := decide_eq_false h2
        have E : cellG c r = false := by rw [← Bool.not_eq_true, cellG_iff]; omega
        rw [E]
        clear E h2
        go_enter Tryz.func113, Tryz.ntmps113
        go_wp2
        go_ret
        exact ⟨rfl, below_al _ _⟩
    · have g1 : 64 ≤ c := by omega
      have d1 : decide (c < 64) = false := decide_eq_false h1
      have E : cellG c r = false := by rw [← Bool.not_eq_true, cellG_iff]; omega
      rw [E]
      clear E h1
      go_enter Tryz.func113, Tryz.ntmps113
      go_wp2
      go_ret
      exact ⟨rfl, below_al _ _⟩
  · have g0 : c < 0 := by omega
    have d0 : decide (0 ≤ c) = false := decide_eq_false h0
    have E : cellG c r = false := by rw [← Bool.not_eq_true, cellG_iff]; omega
    rw [E]
    clear E h0
    go_enter Tryz.func113, Tryz.ntmps113
    go_wp2
    go_ret
    exact ⟨rfl, below_al _ _⟩
set_option maxHeartbeats 1000000 in
theorem letter_val (c : UInt8) (w : World) : Calls Tryz.prog 199 #[.int .u8 (c.toNat : Int)] w fun e w' => e = .returned (.bool (isLet c)) ∧ w' = w := by
  unfold isLet
  have hx : c.toNat < 256 := c.toNat_lt
  generalize c.toNat = x at hx ⊢
  by_cases h1 : 65 ≤ x
  · rw [decide_eq_true h1]
    have h1i : decide (65 ≤ (x : Int)) = true := decide_eq_true (by omega)
    by_cases h2 : x ≤ 90
    · rw [decide_eq_true h2]
      have h2i : decide ((x : Int) ≤ 90) = true := decide_eq_true (by omega)
      have hz : ∀ b : Bool, (true && true || b) = true := fun _ => rfl
      rw [hz]
      clear hz
      go_enter Tryz.func199, Tryz.ntmps199
      go_wp2
      go_ret
      exact ⟨rfl, rfl⟩
    · rw [decide_eq_false h2]
      have h2i : decide ((x : Int) ≤ 90) = false := decide_eq_false (by omega)
      have h2n : 90 < (x : Int) := by omega
      clear h2
      by_cases k1 : 97 ≤ x
      · rw [decide_eq_true k1]
        have k1i : decide (97 ≤ (x : Int)) = true := decide_eq_true (by omega)
        by_cases k2 : x ≤ 122
        · rw [decide_eq_true k2]
          have k2i : decide ((x : Int) ≤ 122) = true := decide_eq_true (by omega)
          go_enter Tryz.func199, Tryz.ntmps199
          go_wp2
          go_ret
          exact ⟨rfl, rfl⟩
        · rw [decide_eq_false k2]
          have k2i : decide ((x : Int) ≤ 122) = false := decide_eq_false (by omega)
          have k2n : 122 < (x : Int) := by omega
          clear k2
          go_enter Tryz.func199, Tryz.ntmps199
          go_wp2
          go_ret
          exact ⟨rfl, rfl⟩
      · rw [decide_eq_false k1]
        have k1i : decide (97 ≤ (x : Int)) = false := decide_eq_false (by omega)
        have k1n : (x : Int) < 97 := by omega
        clear k1
        go_enter Tryz.func199, Tryz.ntmps199
        go_wp2
        go_ret
        exact ⟨rfl, rfl⟩
  · rw [decide_eq_false h1]
    have h1i : decide (65 ≤ (x : Int)) = false := decide_eq_false (by omega)
    have h1n : (x : Int) < 65 := by omega
    clear h1
    by_cases k1 : 97 ≤ x
    · rw [decide_eq_true k1]
      have k1i : decide (97 ≤ (x : Int)) = true := decide_eq_true (by omega)
      by_cases k2 : x ≤ 122
      · rw [decide_eq_true k2]
        have k2i : decide ((x : Int) ≤ 122) = true := decide_eq_true (by omega)
        go_enter Tryz.func199, Tryz.ntmps199
        go_wp2
        go_ret
        exact ⟨rfl, rfl⟩
      · rw [decide_eq_false k2]
        have k2i : decide ((x : Int) ≤ 122) = false := decide_eq_false (by omega)
        have k2n : 122 < (x : Int) := by omega
        clear k2
        go_enter Tryz.func199, Tryz.ntmps199
        go_wp2
        go_ret
        exact ⟨rfl, rfl⟩
    · rw [decide_eq_false k1]
      have k1i : decide (97 ≤ (x : Int)) = false := decide_eq_false (by omega)
      have k1n : (x : Int) < 97 := by omega
      clear k1
      go_enter Tryz.func199, Tryz.ntmps199
      go_wp2
      go_ret
      exact ⟨rfl, rfl⟩
set_option maxHeartbeats 1000000 in
theorem digit_val (c : UInt8) (w : World) : Calls Tryz.prog 160 #[.int .u8 (c.toNat : Int)] w fun e w' => e = .returned (.bool (isDg c)) ∧ w' = w := by
  unfold isDg
  have hx : c.toNat < 256 := c.toNat_lt
  generalize c.toNat = x at hx ⊢
  by_cases h1 : 48 ≤ x
  · rw [decide_eq_true h1]
    have h1i : decide (48 ≤ (x : Int)) = true := decide_eq_true (by omega)
    by_cases h2 : x ≤ 57
    · rw [decide_eq_true h2]
      have h2i : decide ((x : Int) ≤ 57) = true := decide_eq_true (by omega)
      go_enter Tryz.func160, Tryz.ntmps160
      go_wp2
      go_ret
      exact ⟨rfl, rfl⟩
    · rw [decide_eq_false h2]
      have h2i : decide ((x : Int) ≤ 57) = false := decide_eq_false (by omega)
      clear h2
      go_enter Tryz.func160, Tryz.ntmps160
      go_wp2
      go_ret
      exact ⟨rfl, rfl⟩
  · rw [decide_eq_false h1]
    have h1i : decide (48 ≤ (x : Int)) = false := decide_eq_false (by omega)
    clear h1
    go_enter Tryz.func160, Tryz.ntmps160
    go_wp2
    go_ret
    exact ⟨rfl, rfl⟩
set_option maxHeartbeats 2000000 in
theorem inName_val (c : UInt8) (w : World) : Calls Tryz.prog 162 #[.int .u8 (c.toNat : Int)] w fun e w' => e = .returned (.bool (inNm c)) ∧ w' = w := by
  unfold inNm
  have HL := hide (fun w => letter_val c w)
  have HD := hide (fun w => digit_val c w)
  have e95 : (c == 95) = ((c.toNat : Int) == 95) := by
    rw [Bool.eq_iff_iff, beq_iff_eq, beq_iff_eq]
    constructor
    · intro h; subst h; rfl
    · intro h; apply UInt8.toNat_inj.1; show c.toNat = 95; omega
  rw [e95]
  clear e95
  generalize isLet c = p at HL ⊢
  generalize isDg c = q at HD ⊢
  have hx : c.toNat < 256 := c.toNat_lt
  generalize c.toNat = x at hx HL HD ⊢
  cases p
  · cases q
    · cases h9 : ((x : Int) == 95)
      · go_enter Tryz.func162, Tryz.ntmps162
        go_wp2_with fail
        refine (unhide HL _).mono ?_
        rintro e w1 ⟨rfl, rfl⟩
        go_wp2_with fail
        refine (unhide HD _).mono ?_
        rintro e w2 ⟨rfl, rfl⟩
        go_wp2
        go_ret
        exact ⟨rfl, rfl⟩
      · go_enter Tryz.func162, Tryz.ntmps162
        go_wp2_with fail
        refine (unhide HL _).mono ?_
        rintro e w1 ⟨rfl, rfl⟩
        go_wp2_with fail
        refine (unhide HD _).mono ?_
        rintro e w2 ⟨rfl, rfl⟩
        go_wp2
        go_ret
        exact ⟨rfl, rfl⟩
    · go_enter Tryz.func162, Tryz.ntmps162
      go_wp2_with fail
      refine (unhide HL _).mono ?_
      rintro e w1 ⟨rfl, rfl⟩
      go_wp2_with fail
      refine (unhide HD _).mono ?_
      rintro e w2 ⟨rfl, rfl⟩
      go_wp2
      go_ret
      exact ⟨rfl, rfl⟩
  · have hz : ∀ b d : Bool, (true || b || d) = true := fun _ _ => rfl
    rw [hz]
    clear hz
    go_enter Tryz.func162, Tryz.ntmps162
    go_wp2_with fail
    refine (unhide HL _).mono ?_
    rintro e w1 ⟨rfl, rfl⟩
    go_wp2
    go_ret
    exact ⟨rfl, rfl⟩
end Go.Proofs.YtloamahbghjjgaaGreatDoor

namespace Go.Proofs.YtloamahbghjjgaaGreatDoor
open Go.RowKit

theorem take_snoc4 (s : ByteArray) (k : Nat) (h : k < s.size) : s.data.toList.take (k + 1) = s.data.toList.take k ++ [s[k]] := by
  rw [List.take_succ_eq_append_getElem (by simpa using h)]; rfl
theorem tw_len (p : UInt8 → Bool) : ∀ (l : List UInt8) (k : Nat), k ≤ l.length → (l.take k).all p = true → (l.drop k).takeWhile p = [] → l.takeWhile p = l.take k ∧ l.dropWhile p = l.drop k
  | l, 0, _, _, h => by
    have e : l.drop 0 = l := rfl
    rw [e] at h
    refine ⟨h, ?_⟩
    have h2 := List.takeWhile_append_dropWhile (p := p) (l := l)
    rw [h, List.nil_append] at h2
    exact h2
  | [], k + 1, hk, _, _ => by simp at hk
  | c :: l, k + 1, hk, ha, hd => by
    rw [List.take_succ_cons, List.all_cons, Bool.and_eq_true] at ha
    obtain ⟨i1, i2⟩ := tw_len p l k (by simpa using hk) ha.2 hd
    refine ⟨?_, ?_⟩
    · rw [List.takeWhile_cons, if_pos ha.1, i1]; rfl
    · rw [List.dropWhile_cons, if_pos ha.1, i2]; rfl
theorem tw_here (p : UInt8 → Bool) (s : ByteArray) (k : Nat) (h : k < s.size) (hp : p s[k] = false) : (s.data.toList.drop k).takeWhile p = [] := by
  have hk : k < s.data.toList.length := h
  rw [List.drop_eq_getElem_cons hk, List.takeWhile_cons, if_neg]
  have : s.data.toList[k] = s[k] := rfl
  rw [this, hp]; simp
theorem ext_take (s : ByteArray) (k : Nat) : s.extract 0 k = ⟨(s.data.toList.take k).toArray⟩ := by
  rw [Lib.extract_eq]; simp
theorem ext_drop (s : ByteArray) (k : Nat) : s.extract k s.size = ⟨(s.data.toList.drop k).toArray⟩ := by
  rw [Lib.extract_eq]
  have ht : List.take (s.size - k) (List.drop k s.data.toList) = List.drop k s.data.toList := List.take_of_length_le (by rw [List.length_drop]; exact Nat.le_refl _)
  rw [ht]

set_option maxRecDepth 100000 in
set_option maxHeartbeats 2000000 in
theorem lead_letter (s : ByteArray) (w : World) (hs : s.size ≤ maxLen) :
    Calls Tryz.prog 161 #[.string s, .func (.func 199) #[] #[]] w fun e w' => e = .returned (.tuple #[.string ⟨(s.data.toList.takeWhile isLet).toArray⟩, .string ⟨(s.data.toList.dropWhile isLet).toArray⟩]) ∧ Below w.heap.size w w' := by
  unfold maxLen at hs
  have hsz : s.data.toList.length = s.size := rfl
  have HS := hide hsz
  clear hsz
  go_enter Tryz.func161, Tryz.ntmps161
  go_wp2
  go_loop [6] (fun i => ∃ k : Nat, k ≤ s.size ∧ i = .int .i64 k ∧ Hid ((s.data.toList.take k).all isLet = true)) (fun i => s.size - (intOf i).toNat)
  case atStart => exact ⟨0, Nat.zero_le _, rfl, hide rfl⟩
  case round =>
    obtain ⟨k, hk, rfl, HT⟩ := hrel
    by_cases hlt : k < s.size
    · have HC := hide (fun w => letter_val s[k] w)
      cases hg : isLet s[k]
      · have hw := tw_here isLet s k hlt hg
        have HE := hide (tw_len isLet s.data.toList k hk (unhide HT) hw)
        rw [hg] at HC
        clear hg hw
        have HX := hide (And.intro (ext_take s k) (ext_drop s k))
        have i1 : (0 : Int) ≤ (k : Int) := by omega
        have i2 : (k : Int) ≤ (s.size : Int) := by omega
        go_wp2_with fail
        refine (unhide HC _).mono ?_
        rintro e w1 ⟨rfl, rfl⟩
        go_wp2_with fail
        go_quiet (fail)
        go_wp2
        go_ret2
        exact ⟨by rw [(unhide HE).1, (unhide HE).2, ← (unhide HX).1, ← (unhide HX).2]; rfl, below_drewN (Below.refl _ _) _⟩
      · have hs' : Hid ((s.data.toList.take (k + 1)).all isLet = true) := hide (by rw [take_snoc4 s k hlt, List.all_append, unhide HT, List.all_cons, hg]; rfl)
        rw [hg] at HC
        clear hg
        go_wp2_with fail
        refine (unhide HC _).mono ?_
        rintro e w1 ⟨rfl, rfl⟩
        go_wp2
        go_round
        case rel => exact ⟨k + 1, by omega, by go_num, hs'⟩
        case measure => simp [intOf]; omega
    · have hk' : k = s.size := by omega
      have hw : (s.data.toList.drop k).takeWhile isLet = [] := by rw [List.drop_of_length_le (by rw [unhide HS]; omega)]; rfl
      have HE := hide (tw_len isLet s.data.toList k hk (unhide HT) hw)
      clear hw
      have HX := hide (And.intro (ext_take s k) (ext_drop s k))
      have i1 : (0 : Int) ≤ (k : Int) := by omega
      have i2 : (k : Int) ≤ (s.size : Int) := by omega
      have HK := hide hk'
      clear hk'
      go_wp2_with fail
      go_quiet (fail)
      go_wp2
      go_ret2
      exact ⟨by rw [(unhide HE).1, (unhide HE).2, ← (unhide HX).1, ← (unhide HX).2]; rfl, below_drewN (Below.refl _ _) _⟩
set_option maxRecDepth 100000 in
set_option maxHeartbeats 2000000 in
theorem lead_digit (s : ByteArray) (w : World) (hs : s.size ≤ maxLen) :
    Calls Tryz.prog 161 #[.string s, .func (.func 160) #[] #[]] w fun e w' => e = .returned (.tuple #[.string ⟨(s.data.toList.takeWhile isDg).toArray⟩, .string ⟨(s.data.toList.dropWhile isDg).toArray⟩]) ∧ Below w.heap.size w w' := by
  unfold maxLen at hs
  have hsz : s.data.toList.length = s.size := rfl
  have HS := hide hsz
  clear hsz
  go_enter Tryz.func161, Tryz.ntmps161
  go_wp2
  go_loop [6] (fun i => ∃ k : Nat, k ≤ s.size ∧ i = .int .i64 k ∧ Hid ((s.data.toList.take k).all isDg = true)) (fun i => s.size - (intOf i).toNat)
  case atStart => exact ⟨0, Nat.zero_le _, rfl, hide rfl⟩
  case round =>
    obtain ⟨k, hk, rfl, HT⟩ := hrel
    by_cases hlt : k < s.size
    · have HC := hide (fun w => digit_val s[k] w)
      cases hg : isDg s[k]
      · have hw := tw_here isDg s k hlt hg
        have HE := hide (tw_len isDg s.data.toList k hk (unhide HT) hw)
        rw [hg] at HC
        clear hg hw
        have HX := hide (And.intro (ext_take s k) (ext_drop s k))
        have i1 : (0 : Int) ≤ (k : Int) := by omega
        have i2 : (k : Int) ≤ (s.size : Int) := by omega
        go_wp2_with fail
        refine (unhide HC _).mono ?_
        rintro e w1 ⟨rfl, rfl⟩
        go_wp2_with fail
        go_quiet (fail)
        go_wp2
        go_ret2
        exact ⟨by rw [(unhide HE).1, (unhide HE).2, ← (unhide HX).1, ← (unhide HX).2]; rfl, below_drewN (Below.refl _ _) _⟩
      · have hs' : Hid ((s.data.toList.take (k + 1)).all isDg = true) := hide (by rw [take_snoc4 s k hlt, List.all_append, unhide HT, List.all_cons, hg]; rfl)
        rw [hg] at HC
        clear hg
        go_wp2_with fail
        refine (unhide HC _).mono ?_
        rintro e w1 ⟨rfl, rfl⟩
        go_wp2
        go_round
        case rel => exact ⟨k + 1, by omega, by go_num, hs'⟩
        case measure => simp [intOf]; omega
    · have hk' : k = s.size := by omega
      have hw : (s.data.toList.drop k).takeWhile isDg = [] := by rw [List.drop_of_length_le (by rw [unhide HS]; omega)]; rfl
      have HE := hide (tw_len isDg s.data.toList k hk (unhide HT) hw)
      clear hw
      have HX := hide (And.intro (ext_take s k) (ext_drop s k))
      have i1 : (0 : Int) ≤ (k : Int) := by omega
      have i2 : (k : Int) ≤ (s.size : Int) := by omega
      have HK := hide hk'
      clear hk'
      go_wp2_with fail
      go_quiet (fail)
      go_wp2
      go_ret2
      exact ⟨by rw [(unhide HE).1, (unhide HE).2, ← (unhide HX).1, ← (unhide HX).2]; rfl, below_drewN (Below.refl _ _) _⟩
set_option maxRecDepth 100000 in
set_option maxHeartbeats 2000000 in
theorem lead_name (s : ByteArray) (w : World) (hs : s.size ≤ maxLen) :
    Calls Tryz.prog 161 #[.string s, .func (.func 162) #[] #[]] w fun e w' => e = .returned (.tuple #[.string ⟨(s.data.toList.takeWhile inNm).toArray⟩, .string ⟨(s.data.toList.dropWhile inNm).toArray⟩]) ∧ Below w.heap.size w w' := by
  unfold maxLen at hs
  have hsz : s.data.toList.length = s.size := rfl
  have HS := hide hsz
  clear hsz
  go_enter Tryz.func161, Tryz.ntmps161
  go_wp2
  go_loop [6] (fun i => ∃ k : Nat, k ≤ s.size ∧ i = .int .i64 k ∧ Hid ((s.data.toList.take k).all inNm = true)) (fun i => s.size - (intOf i).toNat)
  case atStart => exact ⟨0, Nat.zero_le _, rfl, hide rfl⟩
  case round =>
    obtain ⟨k, hk, rfl, HT⟩ := hrel
    by_cases hlt : k < s.size
    · have HC := hide (fun w => inName_val s[k] w)
      cases hg : inNm s[k]
      · have hw := tw_here inNm s k hlt hg
        have HE := hide (tw_len inNm s.data.toList k hk (unhide HT) hw)
        rw [hg] at HC
        clear hg hw
        have HX := hide (And.intro (ext_take s k) (ext_drop s k))
        have i1 : (0 : Int) ≤ (k : Int) := by omega
        have i2 : (k : Int) ≤ (s.size : Int) := by omega
        go_wp2_with fail
        refine (unhide HC _).mono ?_
        rintro e w1 ⟨rfl, rfl⟩
        go_wp2_with fail
        go_quiet (fail)
        go_wp2
        go_ret2
        exact ⟨by rw [(unhide HE).1, (unhide HE).2, ← (unhide HX).1, ← (unhide HX).2]; rfl, below_drewN (Below.refl _ _) _⟩
      · have hs' : Hid ((s.data.toList.take (k + 1)).all inNm = true) := hide (by rw [take_snoc4 s k hlt, List.all_append, unhide HT, List.all_cons, hg]; rfl)
        rw [hg] at HC
        clear hg
        go_wp2_with fail
        refine (unhide HC _).mono ?_
        rintro e w1 ⟨rfl, rfl⟩
        go_wp2
        go_round
        case rel => exact ⟨k + 1, by omega, by go_num, hs'⟩
        case measure => simp [intOf]; omega
    · have hk' : k = s.size := by omega
      have hw : (s.data.toList.drop k).takeWhile inNm = [] := by rw [List.drop_of_length_le (by rw [unhide HS]; omega)]; rfl
      have HE := hide (tw_len inNm s.data.toList k hk (unhide HT) hw)
      clear hw
      have HX := hide (And.intro (ext_take s k) (ext_drop s k))
      have i1 : (0 : Int) ≤ (k : Int) := by omega
      have i2 : (k : Int) ≤ (s.size : Int) := by omega
      have HK := hide hk'
      clear hk'
      go_wp2_with fail
      go_quiet (fail)
      go_wp2
      go_ret2
      exact ⟨by rw [(unhide HE).1, (unhide HE).2, ← (unhide HX).1, ← (unhide HX).2]; rfl, below_drewN (Below.refl _ _) _⟩
end Go.Proofs.YtloamahbghjjgaaGreatDoor

namespace Go.Proofs.YtloamahbghjjgaaGreatDoor
open Go.RowKit

structure Env4 (w : World) : Prop where
  tab : Lib.TabIs Tryz.prog w "internal/strconv.uint64pow10" .u64 Lib.pow10Tab
  len : ∃ m : Int, w.cell? ⟨6, 0, none⟩ = some (.int .i64 m)
theorem Env4.below {w w' : World} (h : Env4 w) (hb : Below w.heap.size w w') : Env4 w' := by
  refine ⟨?_, ?_⟩
  · have h := h.tab
    unfold Lib.TabIs World.var? at *
    cases hg : Tryz.prog.globalNamed "internal/strconv.uint64pow10" with
    | none => simp [hg] at h
    | some g =>
      simp only [hg, Option.bind_some] at h ⊢
      have hlt : g < w.heap.size := by
        rcases Nat.lt_or_ge g w.heap.size with h' | h'
        · exact h'
        · rw [Array.getElem?_eq_none h'] at h; simp at h
      rw [hb.block g hlt]
      exact h
  · obtain ⟨m, hm⟩ := h.len
    refine ⟨m, ?_⟩
    have hlt : 6 < w.heap.size := by
      rcases Nat.lt_or_ge 6 w.heap.size with h' | h'
      · exact h'
      · simp [World.cell?, Array.getElem?_eq_none h'] at hm
    rw [hb.cell (p := ⟨6, 0, none⟩) hlt]
    exact hm
theorem app4 (x y : List UInt8) : (⟨x.toArray⟩ : ByteArray) ++ ⟨y.toArray⟩ = ⟨(x ++ y).toArray⟩ := by
  apply ByteArray.ext; simp
theorem app4_list (x y : ByteArray) : (x ++ y).data.toList = x.data.toList ++ y.data.toList := by simp
theorem itoa4 (n : Nat) (w : World) (hn : n < 10000) (he : Env4 w) :
    Calls Tryz.prog 116 #[.int .i64 (n : Int)] w fun e w' => e = .returned (.string ⟨(dgT n).toArray⟩) ∧ Below w.heap.size w w' :=
  (Tryz.strconv_Itoa (n : Int) (by omega) (by omega) w he.tab).mono (fun e w' ⟨h1, k, os, h2⟩ => ⟨by
    rw [h1]
    unfold Lib.itoa
    rw [if_neg (by omega), Int.toNat_natCast, dec_dg n hn], by rw [h2]; exact ⟨rfl, rfl, rfl, by show w.heap.size ≤ (w.heap ++ os).size; rw [Array.size_append]; omega, fun j hj => by show (w.heap ++ os)[j]? = w.heap[j]?; exact Array.getElem?_append_left hj⟩⟩)
theorem conv1 (w : World) (x : Int) (h0 : 0 ≤ x) (h9 : x < 256) :
    (convert 166 9 (.slice (some ⟨w.heap.size, 0, none⟩) 1 1)).run Tryz.prog (w.alloc (.cells #[.int .u8 x] 5)) = .ok (.string ⟨#[UInt8.ofNat x.toNat]⟩) (w.alloc (.cells #[.int .u8 x] 5)) := by
  have e : ((UInt8.ofNat x.toNat).toNat : Int) = x := by
    rw [UInt8.toNat_ofNat']
    omega
  exact run_convert_bytes_back (P := Tryz.prog) (w.alloc (.cells #[.int .u8 x] 5)) 166 9 5 ⟨w.heap.size, 0, none⟩ 1 [UInt8.ofNat x.toNat] Tryz.underlying166 Tryz.underlying5 Tryz.underlying9 (fun j hj => by
    have : j = 0 := by simp at hj; exact hj
    subst this
    show _ = some (Value.int .u8 ((UInt8.ofNat x.toNat).toNat : Int))
    rw [e]
    simp [Addr.add])
def colW (k : Nat) : List UInt8 := if k = 0 then [] else colT (k - 1)
theorem colW_step (m : Nat) (h : m < 64) : colW (m / 26) ++ [UInt8.ofNat (65 + m % 26)] = colW (m + 1) := by
  have e : colW (m + 1) = colT m := by unfold colW; rw [if_neg (by omega)]; rfl
  rw [e]
  unfold colT
  by_cases h1 : m < 26
  · rw [if_pos h1, show m / 26 = 0 by omega, show m % 26 = m by omega]; rfl
  · rw [if_neg h1]
    unfold colW
    rw [if_neg (by omega)]
    unfold colT
    rw [if_pos (by omega), show 65 + (m / 26 - 1) = 64 + m / 26 by omega]; rfl

set_option maxRecDepth 100000 in
set_option maxHeartbeats 2000000 in
theorem letters_val (n : Nat) (w : World) (hn : n < 64) :
    Calls Tryz.prog 115 #[.int .i64 (n : Int)] w fun e w' => e = .returned (.string ⟨(colT n).toArray⟩) ∧ Below w.heap.size w w' := by
  go_enter Tryz.func115, Tryz.ntmps115
  go_wp2
  go_loopw [3, 4] (fun s m wr => ∃ (k : Nat) (sb : ByteArray), m = .int .i64 (k : Int) ∧ s = .string sb ∧ sb.size + k ≤ 65 ∧ k ≤ 64 ∧ Hid (colW k ++ sb.data.toList = colT n) ∧ Hid (Below w.heap.size w wr)) (fun _ m _ => (intOf m).toNat)
  case atStart => exact ⟨n + 1, ⟨#[]⟩, by go_num, rfl, by show 0 + (n + 1) ≤ 65; omega, by omega, hide (by rw [show (⟨#[]⟩ : ByteArray).data.toList = [] from rfl, List.append_nil]; unfold colW; rw [if_neg (by omega)]; rfl), hide (Below.refl _ _)⟩
  case round =>
    obtain ⟨k, sb, rfl, rfl, hsz, hk, HC, HB⟩ := hrel
    by_cases h0 : k = 0
    · subst h0
      go_wp2
      go_ret
      exact ⟨by rw [← unhide HC]; rfl, unhide HB⟩
    · obtain ⟨m, rfl⟩ : ∃ m, k = m + 1 := ⟨k - 1, by omega⟩
      have e1 : ((m + 1 : Nat) : Int) - 1 = (m : Int) := by omega
      have e2 : 0 < ((m + 1 : Nat) : Int) := by omega
      have hm : m < 64 := by omega
      have hcv := conv1 wr (65 + ((m : Int) % 26)) (by omega) (by omega)
      obtain ⟨C, hC⟩ : ∃ C, UInt8.ofNat (65 + ((m : Int) % 26)).toNat = C := ⟨_, rfl⟩
      rw [hC] at hcv
      have HK : Hid (colW (m / 26) ++ [C] = colW (m + 1)) := hide (by rw [← colW_step m hm, ← hC, show (65 + ((m : Int) % 26)).toNat = 65 + m % 26 by omega])
      clear hC
      clear h0 hk
      generalize ((m + 1 : Nat) : Int) = z at e1 e2 ⊢
      go_wp2
      exact ⟨⟨m / 26, ⟨#[C]⟩ ++ sb, by go_num, rfl, by rw [ByteArray.size_append, show (⟨#[C]⟩ : ByteArray).size = 1 from rfl]; omega, by omega, hide (by
        rw [← unhide HC, ← unhide HK, app4_list, List.append_assoc]), hide ((unhide HB).alloc (unhide HB).size _)⟩, by simp [intOf]; omega⟩
theorem mark_val (b : Bool) (w : World) : Calls Tryz.prog 114 #[.bool b] w fun e w' => e = .returned (.string ⟨(dlr b).toArray⟩) ∧ Below w.heap.size w w' := by
  cases b
  · go_enter Tryz.func114, Tryz.ntmps114
    go_wp2
    go_ret
    exact ⟨rfl, Below.refl _ _⟩
  · go_enter Tryz.func114, Tryz.ntmps114
    go_wp2
    go_ret
    exact ⟨rfl, Below.refl _ _⟩
end Go.Proofs.YtloamahbghjjgaaGreatDoor

namespace Go.Proofs.YtloamahbghjjgaaGreatDoor
open Go.RowKit

set_option maxHeartbeats 1000000 in
theorem letter5_val (c : UInt8) (w : World) : Calls Tryz.prog 90 #[.int .u8 (c.toNat : Int)] w fun e w' => e = .returned (.bool (isLet c)) ∧ w' = w := by
  unfold isLet
  have hx : c.toNat < 256 := c.toNat_lt
  generalize c.toNat = x at hx ⊢
  by_cases h1 : 65 ≤ x
  · rw [decide_eq_true h1]
    have h1i : decide (65 ≤ (x : Int)) = true := decide_eq_true (by omega)
    by_cases h2 : x ≤ 90
    · rw [decide_eq_true h2]
      have h2i : decide ((x : Int) ≤ 90) = true := decide_eq_true (by omega)
      have hz : ∀ b : Bool, (true && true || b) = true := fun _ => rfl
      rw [hz]
      clear hz
      go_enter Tryz.func90, Tryz.ntmps90
      go_wp2
      go_ret
      exact ⟨rfl, rfl⟩
    · rw [decide_eq_false h2]
      have h2i : decide ((x : Int) ≤ 90) = false := decide_eq_false (by omega)
      have h2n : 90 < (x : Int) := by omega
      clear h2
      by_cases k1 : 97 ≤ x
      · rw [decide_eq_true k1]
        have k1i : decide (97 ≤ (x : Int)) = true := decide_eq_true (by omega)
        by_cases k2 : x ≤ 122
        · rw [decide_eq_true k2]
          have k2i : decide ((x : Int) ≤ 122) = true := decide_eq_true (by omega)
          go_enter Tryz.func90, Tryz.ntmps90
          go_wp2
          go_ret
          exact ⟨rfl, rfl⟩
        · rw [decide_eq_false k2]
          have k2i : decide ((x : Int) ≤ 122) = false := decide_eq_false (by omega)
          have k2n : 122 < (x : Int) := by omega
          clear k2
          go_enter Tryz.func90, Tryz.ntmps90
          go_wp2
          go_ret
          exact ⟨rfl, rfl⟩
      · rw [decide_eq_false k1]
        have k1i : decide (97 ≤ (x : Int)) = false := decide_eq_false (by omega)
        have k1n : (x : Int) < 97 := by omega
        clear k1
        go_enter Tryz.func90, Tryz.ntmps90
        go_wp2
        go_ret
        exact ⟨rfl, rfl⟩
  · rw [decide_eq_false h1]
    have h1i : decide (65 ≤ (x : Int)) = false := decide_eq_false (by omega)
    have h1n : (x : Int) < 65 := by omega
    clear h1
    by_cases k1 : 97 ≤ x
    · rw [decide_eq_true k1]
      have k1i : decide (97 ≤ (x : Int)) = true := decide_eq_true (by omega)
      by_cases k2 : x ≤ 122
      · rw [decide_eq_true k2]
        have k2i : decide ((x : Int) ≤ 122) = true := decide_eq_true (by omega)
        go_enter Tryz.func90, Tryz.ntmps90
        go_wp2
        go_ret
        exact ⟨rfl, rfl⟩
      · rw [decide_eq_false k2]
        have k2i : decide ((x : Int) ≤ 122) = false := decide_eq_false (by omega)
        have k2n : 122 < (x : Int) := by omega
        clear k2
        go_enter Tryz.func90, Tryz.ntmps90
        go_wp2
        go_ret
        exact ⟨rfl, rfl⟩
    · rw [decide_eq_false k1]
      have k1i : decide (97 ≤ (x : Int)) = false := decide_eq_false (by omega)
      have k1n : (x : Int) < 97 := by omega
      clear k1
      go_enter Tryz.func90, Tryz.ntmps90
      go_wp2
      go_ret
      exact ⟨rfl, rfl⟩
set_option maxHeartbeats 1000000 in
theorem digit5_val (c : UInt8) (w : World) : Calls Tryz.prog 88 #[.int .u8 (c.toNat : Int)] w fun e w' => e = .returned (.bool (isDg c)) ∧ w' = w := by
  unfold isDg
  have hx : c.toNat < 256 := c.toNat_lt
  generalize c.toNat = x at hx ⊢
  by_cases h1 : 48 ≤ x
  · rw [decide_eq_true h1]
    have h1i : decide (48 ≤ (x : Int)) = true := decide_eq_true (by omega)
    by_cases h2 : x ≤ 57
    · rw [decide_eq_true h2]
      have h2i : decide ((x : Int) ≤ 57) = true := decide_eq_true (by omega)
      go_enter Tryz.func88, Tryz.ntmps88
      go_wp2
      go_ret
      exact ⟨rfl, rfl⟩
    · rw [decide_eq_false h2]
      have h2i : decide ((x : Int) ≤ 57) = false := decide_eq_false (by omega)
      clear h2
      go_enter Tryz.func88, Tryz.ntmps88
      go_wp2
      go_ret
      exact ⟨rfl, rfl⟩
  · rw [decide_eq_false h1]
    have h1i : decide (48 ≤ (x : Int)) = false := decide_eq_false (by omega)
    clear h1
    go_enter Tryz.func88, Tryz.ntmps88
    go_wp2
    go_ret
    exact ⟨rfl, rfl⟩
theorem index_in (l : List UInt8) (c : UInt8) : decide (0 ≤ Lib.indexByte l c) = l.contains c := by
  induction l with
  | nil => rfl
  | cons b l ih =>
    rw [List.contains_cons]
    unfold Lib.indexByte
    by_cases h : b = c
    · subst h; simp
    · have hb : (b == c) = false := beq_eq_false_iff_ne.2 h
      have hc : (c == b) = false := beq_eq_false_iff_ne.2 (Ne.symm h)
      rw [hc, Bool.false_or, ← ih]
      simp only [hb]
      by_cases h0 : 0 ≤ Lib.indexByte l c
      · have : ¬ Lib.indexByte l c = -1 := by omega
        simp [h0, this]; omega
      · have := Lib.indexByte_ge l c
        have : Lib.indexByte l c = -1 := by omega
        simp [this]
theorem u8_back (c : UInt8) : ((c.toNat : Int)).toNat.toUInt8 = c := by
  rw [Int.toNat_natCast]
  apply UInt8.toNat_inj.1
  simp
set_option maxHeartbeats 1000000 in
theorem among_val (c : UInt8) (l : ByteArray) (w : World) : Calls Tryz.prog 91 #[.int .u8 (c.toNat : Int), .string l] w fun e w' => e = .returned (.bool (l.data.toList.contains c)) ∧ w' = w := by
  have HI := hide (fun w => Tryz.strings_IndexByte l (c.toNat : Int) w)
  have e := index_in l.data.toList c
  rw [u8_back] at HI
  rw [← e]
  clear e
  generalize Lib.indexByte l.data.toList c = i at HI ⊢
  go_enter Tryz.func91, Tryz.ntmps91
  go_wp2_with fail
  refine (unhide HI _).mono ?_
  rintro e w1 ⟨rfl, rfl⟩
  go_wp2
  go_ret
  exact ⟨rfl, rfl⟩
theorem unbl_eq (l : List UInt8) : Lib.trimLeftB l 32 = unbl l := rfl
set_option maxHeartbeats 1000000 in
theorem unblanked_val (s : ByteArray) (w : World) : Calls Tryz.prog 57 #[.string s] w fun e w' => e = .returned (.string ⟨(unbl s.data.toList).toArray⟩) ∧ w' = w := by
  have HI := hide (fun w => Tryz.strings_TrimLeft_one s 32 (by decide) w)
  rw [unbl_eq] at HI
  go_enter Tryz.func57, Tryz.ntmps57
  go_wp2_with fail
  refine (unhide HI _).mono ?_
  rintro e w1 ⟨rfl, rfl⟩
  go_wp2
  go_ret
  exact ⟨rfl, rfl⟩
theorem byte_eq (c k : UInt8) : (c == k) = ((c.toNat : Int) == (k.toNat : Int)) := by
  rw [Bool.eq_iff_iff, beq_iff_eq, beq_iff_eq]
  constructor
  · intro h; rw [h]
  · intro h; apply UInt8.toNat_inj.1; omega
set_option maxHeartbeats 1000000 in
theorem inNumber_val (c : UInt8) (w : World) : Calls Tryz.prog 142 #[.int .u8 (c.toNat : Int)] w fun e w' => e = .returned (.bool (inNumC c)) ∧ w' = w := by
  unfold inNumC
  have HD := hide (fun w => digit5_val c w)
  rw [byte_eq, show ((46 : UInt8).toNat : Int) = 46 from rfl]
  generalize isDg c = q at HD ⊢
  generalize c.toNat = x at HD ⊢
  cases q
  · cases h9 : ((x : Int) == 46)
    · go_enter Tryz.func142, Tryz.ntmps142
      go_wp2_with fail
      refine (unhide HD _).mono ?_
      rintro e w1 ⟨rfl, rfl⟩
      go_wp2
      go_ret
      exact ⟨rfl, rfl⟩
    · go_enter Tryz.func142, Tryz.ntmps142
      go_wp2_with fail
      refine (unhide HD _).mono ?_
      rintro e w1 ⟨rfl, rfl⟩
      go_wp2
      go_ret
      exact ⟨rfl, rfl⟩
  · go_enter Tryz.func142, Tryz.ntmps142
    go_wp2_with fail
    refine (unhide HD _).mono ?_
    rintro e w1 ⟨rfl, rfl⟩
    go_wp2
    go_ret
    exact ⟨rfl, rfl⟩
set_option maxHeartbeats 1000000 in
theorem inRun_val (c : UInt8) (w : World) : Calls Tryz.prog 145 #[.int .u8 (c.toNat : Int)] w fun e w' => e = .returned (.bool (inRunC c)) ∧ w' = w := by
  unfold inRunC
  have HL := hide (fun w => letter5_val c w)
  have HD := hide (fun w => digit5_val c w)
  have HA := hide (fun w => among_val c ⟨#[95, 36, 91, 93, 33, 58]⟩ w)
  rw [show (⟨#[95, 36, 91, 93, 33, 58]⟩ : ByteArray).data.toList = runL from rfl] at HA
  generalize isLet c = p at HL ⊢
  generalize isDg c = q at HD ⊢
  generalize runL.contains c = r at HA ⊢
  generalize c.toNat = x at HL HD HA ⊢
  cases p
  · cases q
    · go_enter Tryz.func145, Tryz.ntmps145
      go_wp2_with fail
      refine (unhide HL _).mono ?_
      rintro e w1 ⟨rfl, rfl⟩
      go_wp2_with fail
      refine (unhide HD _).mono ?_
      rintro e w2 ⟨rfl, rfl⟩
      go_wp2_with fail
      refine (unhide HA _).mono ?_
      rintro e w3 ⟨rfl, rfl⟩
      go_wp2
      go_ret
      exact ⟨rfl, rfl⟩
    · go_enter Tryz.func145, Tryz.ntmps145
      go_wp2_with fail
      refine (unhide HL _).mono ?_
      rintro e w1 ⟨rfl, rfl⟩
      go_wp2_with fail
      refine (unhide HD _).mono ?_
      rintro e w2 ⟨rfl, rfl⟩
      go_wp2
      go_ret
      exact ⟨rfl, rfl⟩
  · go_enter Tryz.func145, Tryz.ntmps145
    go_wp2_with fail
    refine (unhide HL _).mono ?_
    rintro e w1 ⟨rfl, rfl⟩
    go_wp2
    go_ret
    exact ⟨rfl, rfl⟩
set_option maxRecDepth 100000 in
set_option maxHeartbeats 2000000 in
theorem lead_num (s : ByteArray) (w : World) (hs : s.size ≤ maxLen) :
    Calls Tryz.prog 141 #[.string s, .func (.func 142) #[] #[]] w fun e w' => e = .returned (.string ⟨(s.data.toList.takeWhile inNumC).toArray⟩) ∧ w' = w := by
  unfold maxLen at hs
  have hsz : s.data.toList.length = s.size := rfl
  have HS := hide hsz
  clear hsz
  go_enter Tryz.func141, Tryz.ntmps141
  go_wp2
  go_loop [5] (fun i => ∃ k : Nat, k ≤ s.size ∧ i = .int .i64 k ∧ Hid ((s.data.toList.take k).all inNumC = true)) (fun i => s.size - (intOf i).toNat)
  case atStart => exact ⟨0, Nat.zero_le _, rfl, hide rfl⟩
  case round =>
    obtain ⟨k, hk, rfl, HT⟩ := hrel
    by_cases hlt : k < s.size
    · have HC := hide (fun w => inNumber_val s[k] w)
      cases hg : inNumC s[k]
      · have hw := tw_here inNumC s k hlt hg
        have HE := hide (tw_len inNumC s.data.toList k hk (unhide HT) hw)
        rw [hg] at HC
        clear hg hw
        have HX := hide (ext_take s k)
        have i1 : (0 : Int) ≤ (k : Int) := by omega
        have i2 : (k : Int) ≤ (s.size : Int) := by omega
        go_wp2_with fail
        refine (unhide HC _).mono ?_
        rintro e w1 ⟨rfl, rfl⟩
        go_wp2
        go_ret
        exact ⟨by rw [(unhide HE).1, ← unhide HX]; rfl, rfl⟩
      · have hs' : Hid ((s.data.toList.take (k + 1)).all inNumC = true) := hide (by rw [take_snoc4 s k hlt, List.all_append, unhide HT, List.all_cons, hg]; rfl)
        rw [hg] at HC
        clear hg
        go_wp2_with fail
        refine (unhide HC _).mono ?_
        rintro e w1 ⟨rfl, rfl⟩
        go_wp2
        go_round
        case rel => exact ⟨k + 1, by omega, by go_num, hs'⟩
        case measure => simp [intOf]; omega
    · have hk' : k = s.size := by omega
      have hw : (s.data.toList.drop k).takeWhile inNumC = [] := by rw [List.drop_of_length_le (by rw [unhide HS]; omega)]; rfl
      have HE := hide (tw_len inNumC s.data.toList k hk (unhide HT) hw)
      clear hw
      have HX := hide (ext_take s k)
      have i1 : (0 : Int) ≤ (k : Int) := by omega
      have i2 : (k : Int) ≤ (s.size : Int) := by omega
      have HK := hide hk'
      clear hk'
      go_wp2
      go_ret
      exact ⟨by rw [(unhide HE).1, ← unhide HX]; rfl, rfl⟩
set_option maxRecDepth 100000 in
set_option maxHeartbeats 2000000 in
theorem lead_run (s : ByteArray) (w : World) (hs : s.size ≤ maxLen) :
    Calls Tryz.prog 141 #[.string s, .func (.func 145) #[] #[]] w fun e w' => e = .returned (.string ⟨(s.data.toList.takeWhile inRunC).toArray⟩) ∧ w' = w := by
  unfold maxLen at hs
  have hsz : s.data.toList.length = s.size := rfl
  have HS := hide hsz
  clear hsz
  go_enter Tryz.func141, Tryz.ntmps141
  go_wp2
  go_loop [5] (fun i => ∃ k : Nat, k ≤ s.size ∧ i = .int .i64 k ∧ Hid ((s.data.toList.take k).all inRunC = true)) (fun i => s.size - (intOf i).toNat)
  case atStart => exact ⟨0, Nat.zero_le _, rfl, hide rfl⟩
  case round =>
    obtain ⟨k, hk, rfl, HT⟩ := hrel
    by_cases hlt : k < s.size
    · have HC := hide (fun w => inRun_val s[k] w)
      cases hg : inRunC s[k]
      · have hw := tw_here inRunC s k hlt hg
        have HE := hide (tw_len inRunC s.data.toList k hk (unhide HT) hw)
        rw [hg] at HC
        clear hg hw
        have HX := hide (ext_take s k)
        have i1 : (0 : Int) ≤ (k : Int) := by omega
        have i2 : (k : Int) ≤ (s.size : Int) := by omega
        go_wp2_with fail
        refine (unhide HC _).mono ?_
        rintro e w1 ⟨rfl, rfl⟩
        go_wp2
        go_ret
        exact ⟨by rw [(unhide HE).1, ← unhide HX]; rfl, rfl⟩
      · have hs' : Hid ((s.data.toList.take (k + 1)).all inRunC = true) := hide (by rw [take_snoc4 s k hlt, List.all_append, unhide HT, List.all_cons, hg]; rfl)
        rw [hg] at HC
        clear hg
        go_wp2_with fail
        refine (unhide HC _).mono ?_
        rintro e w1 ⟨rfl, rfl⟩
        go_wp2
        go_round
        case rel => exact ⟨k + 1, by omega, by go_num, hs'⟩
        case measure => simp [intOf]; omega
    · have hk' : k = s.size := by omega
      have hw : (s.data.toList.drop k).takeWhile inRunC = [] := by rw [List.drop_of_length_le (by rw [unhide HS]; omega)]; rfl
      have HE := hide (tw_len inRunC s.data.toList k hk (unhide HT) hw)
      clear hw
      have HX := hide (ext_take s k)
      have i1 : (0 : Int) ≤ (k : Int) := by omega
      have i2 : (k : Int) ≤ (s.size : Int) := by omega
      have HK := hide hk'
      clear hk'
      go_wp2
      go_ret
      exact ⟨by rw [(unhide HE).1, ← unhide HX]; rfl, rfl⟩
end Go.Proofs.YtloamahbghjjgaaGreatDoor
