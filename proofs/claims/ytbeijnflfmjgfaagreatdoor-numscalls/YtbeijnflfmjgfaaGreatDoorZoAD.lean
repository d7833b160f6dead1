/- The contract of strconv.FormatUint at base 10. -/
import Derived.BigQuiet
import Derived.Deep.CutBlock
import Derived.Deep.CutRange
import Derived.Deep.DeepFit
import Derived.Deep.QuietTactic
import Derived.Laws.Bits64b
import Derived.Laws.IdiomStrings
import Derived.Laws.Rows
import Derived.Lib.BitFns
import Derived.Lib.IndexBytes
import Derived.Lib.ItoaMem
import Derived.Lib.ItoaNum
import Derived.Lib.Walk
import Derived.Shelf.Bits.Mul64
import Derived.Shelf.LaysM
import Derived.Shelf.Small.Bits
import Derived.Shelf.Small.Strs
import Derived.Shelf.Small.Wraps
import Derived.Shelf.Strconv.Itoa0
import Derived.Shelf.Strconv.Itoa1
import Derived.Shelf.Strconv.Itoa2
import Derived.Shelf.Strings.AsciiSet
import Derived.Shelf.Strings.Cut
import Derived.Shelf.Strings.Prefix
import Derived.Shelf.Strings.Search1
import Derived.Shelf.Strings.Search2
import Derived.Shelf.Strings.Shaped
import Derived.Shelf.Strings.Trim
import Derived.Test.YtbeijnflfmjgfaaGreatDoorProg
import Derived.Test.YtbeijnflfmjgfaaGreatDoorRows
import Derived.WalkKit
import Derived.WalkLawsBesides
import Derived.WalkSmall
import Derived.WalkSpells
import Derived.Test.YtbeijnflfmjgfaaGreatDoorZoAA
import Derived.Test.YtbeijnflfmjgfaaGreatDoorZoAB
import Derived.Test.YtbeijnflfmjgfaaGreatDoorZoAC
namespace Go.Proofs.YtbeijnflfmjgfaaGreatDoor
open Go.RowKit Go.Sort

theorem below_put {α : Type} [Inhabited α] {enc : α → Value} {B : Nat} {w0 w : World} {g o : Nat} {d : Array α} (h : Below B w0 w) (hg : B ≤ g) : Below B w0 (putRow enc w g o d) :=
  ⟨h.os, h.tape, h.output, by simpa [putRow, mapBlock] using h.size, fun k hk => by
    rw [← h.block k hk]
    simp [putRow, mapBlock, Array.getElem?_modify, show g ≠ k by omega]⟩

theorem holds_zero0 (w : World) (T : TypeId) (nd : Nat) (hs : nd ≤ 24) : Holds (fun (b : UInt8) => Value.int .u8 (b.toNat : Int)) (w.alloc (.cells Lib.zeros24 T)) w.heap.size 0 (Array.replicate nd (0 : UInt8)) := fun j hj => by
  have hj' : j < nd := by simpa using hj
  refine ⟨?_, World.frozen?_alloc_new _ _ _ _⟩
  rw [World.cell?_alloc_new, Lib.zeros24_at _ (by omega), getElem!_pos _ j hj]
  simp

abbrev powTab (w : World) : Prop := Lib.TabIs Tryz.prog w "internal/strconv.uint64pow10" .u64 Lib.pow10Tab

set_option maxHeartbeats 1600000 in
set_option maxRecDepth 100000 in
theorem formatUint_in (u : Nat) (w : World) (hu64 : u < 18446744073709551616) (htab : powTab w) :
    Calls Tryz.prog 195 #[.int .u64 (u : Int), .int .i64 10] w fun e w' => e = .returned (.string ⟨(Lib.decDigits u).toArray⟩) ∧ Below w.heap.size w w' := by
  by_cases hs : u < 100
  · have hs' : (u : Int) < 100 := by omega
    go_enter Tryz.func195, Tryz.ntmps195
    go_wp2_with fail
    refine (Tryz.internal_strconv_small u hs _).mono ?_
    rintro e w' ⟨rfl, rfl⟩
    go_wp2
    go_ret
    exact ⟨rfl, Below.refl _ _⟩
  · have hu1 : 1 ≤ u := by omega
    have hnd20 : Lib.nDigits u ≤ 20 := by have := Lib.numDigits_eq u hu1 hu64; split at this <;> omega
    have hal : Tryz.prog.arrayLen 200 = 24 := by simp [Program.arrayLen, Tryz.underlying200]
    have hsl1 : ∀ W, (Instr.sliceAt 200 (.pointer (some ⟨w.heap.size, 0, none⟩)) none (some (.int .i64 (Lib.nDigits u : Int))) none).run Tryz.prog W = .ok (.slice (some ⟨w.heap.size, 0, none⟩) (Lib.nDigits u) 24) W := fun W => by
      rw [run_sliceAt_array_h W 200 ⟨w.heap.size, 0, none⟩ (by simp [Program.arrayLen, Program.elem, Tryz.underlying200]) .i64 (Lib.nDigits u : Int) (by omega) (by rw [hal]; omega)]
      go_simp
    have hH0 := holds_zero0 w 200 (Lib.nDigits u) (by omega)
    have hfmt := Tryz.internal_strconv_formatBase10 w.heap.size 0 24 u (Array.replicate (Lib.nDigits u) 0) (w.alloc (.cells Lib.zeros24 200)) hH0 (by rw [Array.size_replicate]; exact Lib.lt_pow_nDigits u) hu64 (by rw [Array.size_replicate]; omega)
    rw [Array.size_replicate] at hfmt
    have HH0 := hide hH0
    have HF := hide hfmt
    have HTAB := hide htab
    have hs' : 100 ≤ (u : Int) := by omega
    clear hH0 hal hfmt htab
    go_enter Tryz.func195, Tryz.ntmps195
    go_wp2_with fail
    refine (Tryz.internal_strconv_numDigits u hu1 hu64 _ (Lib.tabIs_alloc (unhide HTAB) _)).mono ?_
    rintro e w' ⟨rfl, rfl⟩
    go_wp2_with fail
    refine (unhide HF).mono ?_
    rintro e w' ⟨rfl, k, v', dk, rfl, hF⟩
    have hcv : (convert 133 9 (.slice (some ⟨w.heap.size, 0, none⟩) (Lib.nDigits u) 24)).run Tryz.prog ((putRow (fun (b : UInt8) => Value.int .u8 (b.toNat : Int)) (w.alloc (.cells Lib.zeros24 200)) w.heap.size 0 dk).drewN k) = .ok (.string ⟨(Lib.decDigits u).toArray⟩) ((putRow (fun (b : UInt8) => Value.int .u8 (b.toNat : Int)) (w.alloc (.cells Lib.zeros24 200)) w.heap.size 0 dk).drewN k) := by
      have h := run_convert_bytes_back (P := Tryz.prog) ((putRow (fun (b : UInt8) => Value.int .u8 (b.toNat : Int)) (w.alloc (.cells Lib.zeros24 200)) w.heap.size 0 dk).drewN k) 133 9 5 ⟨w.heap.size, 0, none⟩ 24 (Lib.decDigits u) Tryz.underlying133 Tryz.underlying5 Tryz.underlying9 (fun j hj => by
        rw [Lib.row_is_numeral hF j hj, Lib.add_plain, World.cell?_drewN]
        exact cell?_putRow (fun (b : UInt8) => Value.int .u8 (b.toNat : Int)) _ w.heap.size 0 _ dk (unhide HH0) (by rw [hF.size, Array.size_replicate]) j (by rw [hF.size]; rw [Lib.decDigits_length] at hj; exact hj))
      rw [Lib.decDigits_length] at h
      exact h
    go_wp2
    go_ret
    exact ⟨rfl, below_drewN (below_put ((Below.refl _ _).alloc (Nat.le_refl _) _) (Nat.le_refl _)) _⟩

set_option maxHeartbeats 400000 in
theorem formatUint_any (u : Nat) (w : World) (hu64 : u < 18446744073709551616) (htab : powTab w) :
    Calls Tryz.prog 183 #[.int .u64 (u : Int), .int .i64 10] w fun e w' => e = .returned (.string ⟨(Lib.decDigits u).toArray⟩) ∧ Below w.heap.size w w' := by
  have HT := hide htab
  clear htab
  go_enter Tryz.func183, Tryz.ntmps183
  go_wp2_with fail
  refine (formatUint_in u _ hu64 (unhide HT)).mono ?_
  rintro e w' ⟨rfl, hb⟩
  go_wp2
  go_ret
  exact ⟨rfl, hb⟩
end Go.Proofs.YtbeijnflfmjgfaaGreatDoor

namespace Go.Proofs.YtbeijnflfmjgfaaGreatDoor
open Go.RowKit

theorem tab_below {w w' : World} (h : powTab w) (hb : Below w.heap.size w w') : powTab w' := by
  unfold powTab Lib.TabIs World.var? at *
  cases hg : Tryz.prog.globalNamed "internal/strconv.uint64pow10" with
  | none => simp [hg] at h
  | some g =>
    simp only [hg, Option.bind_some] at h ⊢
    have hlt : g < w.heap.size := by
      rcases Nat.lt_or_ge g w.heap.size with h' | h'
      · exact h'
      · rw [Array.getElem?_eq_none h'] at h; simp at h
    rw [hb.block g hlt]
    exact h

theorem ba_app (x y : List UInt8) : (⟨x.toArray⟩ : ByteArray) ++ ⟨y.toArray⟩ = ⟨(x ++ y).toArray⟩ := by
  apply ByteArray.ext; simp
theorem ba_extract (x : List UInt8) (i n : Nat) (h : n = x.length) : (⟨x.toArray⟩ : ByteArray).extract i n = ⟨(x.drop i).toArray⟩ := by
  subst h
  apply ByteArray.ext
  simp only [ByteArray.data_extract, List.extract_toArray, List.extract_eq_take_drop]
  rw [List.take_of_length_le (by simp)]
theorem dec_len (u : Nat) (h : u < 18446744073709551616) : 1 ≤ (Lib.decDigits u).length ∧ (Lib.decDigits u).length ≤ 20 := by
  rw [Lib.decDigits_length]
  by_cases h1 : 1 ≤ u
  · have := Lib.numDigits_eq u h1 h
    refine ⟨?_, by split at this <;> omega⟩
    by_cases h0 : Lib.nDigits u = 0
    · have := Lib.lt_pow_nDigits u; rw [h0] at this; omega
    · omega
  · have : u = 0 := by omega
    subst this
    decide +kernel

theorem trim_len (l : List UInt8) : (Lib.trimRightB l 48).length ≤ l.length := by
  unfold Lib.trimRightB
  rw [List.length_reverse]
  have h : l.reverse.length = l.length := List.length_reverse
  have := (List.dropWhile_sublist (fun b => b == (48 : UInt8)) (l := l.reverse)).length_le
  omega

theorem ret_str {a b : ByteArray} (h : a = b) : Ending.returned (.string a) = .returned (.string b) := by rw [h]
theorem below_then {w a b : World} (h : Below w.heap.size w a) (k : Below a.heap.size a b) : Below w.heap.size w b := h.trans (k.mono h.size)

def fracL (r : Nat) : List UInt8 := if r = 0 then [] else 46 :: Lib.trimRightB ((Lib.decDigits (10000 + r)).drop 1) 48
def absL (p : Nat) : List UInt8 := Lib.decDigits (p / 10000) ++ fracL (p % 10000)
def textL (a : Int) : List UInt8 := if goodB a = true then (if a < 0 then 45 :: absL a.natAbs else absL a.natAbs) else []

set_option maxHeartbeats 1000000 in
theorem text_any (a : Int) (w : World) (htab : powTab w) :
    Calls Tryz.prog 168 #[.int .i64 a] w fun e w' => e = .returned (.string ⟨(textL a).toArray⟩) ∧ Below w.heap.size w w' := by
  cases hg : goodB a
  · have hs : textL a = [] := by unfold textL; rw [hg]; rfl
    have HG := hide hg
    rw [hs]
    clear hg hs htab
    go_enter Tryz.func168, Tryz.ntmps168
    go_wp2_with fail
    refine (good1_any _ _ _).mono ?_
    rintro e w' ⟨rfl, rfl⟩
    rw [unhide HG]
    go_wp2
    go_ret
    exact ⟨rfl, below_alloc _ _⟩
  · have HG := hide hg
    have HT := hide htab
    rw [goodB_iff] at hg
    obtain ⟨a1, a2⟩ := hg
    obtain ⟨p, hp⟩ : ∃ p : Nat, a.natAbs = p := ⟨_, rfl⟩
    have hs : textL a = (if a < 0 then 45 :: absL p else absL p) := by unfold textL; rw [unhide HG, hp]; rfl
    rw [hs]
    have hpb : p ≤ 9000000000000000000 := by omega
    have HP := hide hp
    clear hs htab hp
    have H10 : Hid ((p : Int) / 10000 = ((p / 10000 : Nat) : Int)) := hide (by omega)
    have H11 : Hid (10000 + (p : Int) % 10000 = ((10000 + p % 10000 : Nat) : Int)) := hide (by omega)
    by_cases hr : p % 10000 = 0
    · have hrr : ((p : Int) % 10000 == 0) = true := by rw [beq_iff_eq]; omega
      have hL : absL p = Lib.decDigits (p / 10000) := by unfold absL fracL; rw [if_pos hr, List.append_nil]
      rw [hL]
      have HL := hide hL
      have HR := hide hr
      clear hL hr
      by_cases hn : a < 0
      · rw [if_pos hn]
        go_enter Tryz.func168, Tryz.ntmps168
        go_wp2_with fail
        refine (good1_any _ _ _).mono ?_
        rintro e w' ⟨rfl, rfl⟩
        rw [unhide HG]
        go_wp2_with fail
        refine (size_any a _ a1 a2).mono ?_
        rintro e w2 ⟨rfl, rfl⟩
        rw [unhide HP]
        go_wp2_with fail
        rw [unhide H10]
        refine (formatUint_any (p / 10000) _ (by omega) (tab_below (unhide HT) (below_alloc _ _))).mono ?_
        rintro e w2 ⟨rfl, hb⟩
        have hDl := dec_len (p / 10000) (by omega)
        generalize hD : Lib.decDigits (p / 10000) = D at *
        obtain ⟨hD1, hD2⟩ := hDl
        have HD := hide hD
        clear hD
        go_wp2
        go_ret
        exact ⟨ret_str (by rw [unhide HD]; exact ba_app [45] D), below_tr rfl hb⟩
      · rw [if_neg hn]
        go_enter Tryz.func168, Tryz.ntmps168
        go_wp2_with fail
        refine (good1_any _ _ _).mono ?_
        rintro e w' ⟨rfl, rfl⟩
        rw [unhide HG]
        go_wp2_with fail
        refine (size_any a _ a1 a2).mono ?_
        rintro e w2 ⟨rfl, rfl⟩
        rw [unhide HP]
        go_wp2_with fail
        rw [unhide H10]
        refine (formatUint_any (p / 10000) _ (by omega) (tab_below (unhide HT) (below_alloc _ _))).mono ?_
        rintro e w2 ⟨rfl, hb⟩
        have hDl := dec_len (p / 10000) (by omega)
        generalize hD : Lib.decDigits (p / 10000) = D at *
        obtain ⟨hD1, hD2⟩ := hDl
        have HD := hide hD
        clear hD
        go_wp2
        go_ret
        exact ⟨ret_str (by rw [unhide HD]), below_tr rfl hb⟩
    · have hrr : ((p : Int) % 10000 == 0) = false := by rw [beq_eq_false_iff_ne]; omega
      have hL : absL p = Lib.decDigits (p / 10000) ++ 46 :: Lib.trimRightB ((Lib.decDigits (10000 + p % 10000)).drop 1) 48 := by unfold absL fracL; rw [if_neg hr]
      rw [hL]
      have HL := hide hL
      have HR := hide hr
      clear hL hr
      by_cases hn : a < 0
      · rw [if_pos hn]
        go_enter Tryz.func168, Tryz.ntmps168
        go_wp2_with fail
        refine (good1_any _ _ _).mono ?_
        rintro e w' ⟨rfl, rfl⟩
        rw [unhide HG]
        go_wp2_with fail
        refine (size_any a _ a1 a2).mono ?_
        rintro e w2 ⟨rfl, rfl⟩
        rw [unhide HP]
        go_wp2_with fail
        rw [unhide H10]
        refine (formatUint_any (p / 10000) _ (by omega) (tab_below (unhide HT) (below_alloc _ _))).mono ?_
        rintro e w2 ⟨rfl, hb⟩
        have hDl := dec_len (p / 10000) (by omega)
        generalize hD : Lib.decDigits (p / 10000) = D at *
        obtain ⟨hD1, hD2⟩ := hDl
        have HD := hide hD
        clear hD
        go_wp2_with fail
        rw [unhide H11]
        refine (formatUint_any (10000 + p % 10000) _ (by omega) (tab_below (unhide HT) (below_tr rfl hb))).mono ?_
        rintro e w3 ⟨rfl, hb2⟩
        have hEl := dec_len (10000 + p % 10000) (by omega)
        generalize hE : Lib.decDigits (10000 + p % 10000) = E at *
        obtain ⟨hE1, hE2⟩ := hEl
        have HE := hide hE
        clear hE
        go_wp2_with fail
        rw [ba_extract E 1 E.length rfl]
        refine (Tryz.strings_TrimRight_one _ 48 (by decide) _ (by simp [ByteArray.size]; omega)).mono ?_
        rintro e w4 ⟨rfl, rfl⟩
        have hTl := trim_len (E.drop 1)
        have hEd : (E.drop 1).length ≤ 20 := by simp; omega
        generalize hT : Lib.trimRightB (E.drop 1) 48 = T at *
        have hTl' : T.length ≤ 20 := by omega
        have HTT := hide hT
        clear hT hTl hEd
        go_wp2
        go_ret
        exact ⟨ret_str (by rw [unhide HD, unhide HE, unhide HTT]; apply ByteArray.ext; simp), below_then (below_tr rfl hb) hb2⟩
      · rw [if_neg hn]
        go_enter Tryz.func168, Tryz.ntmps168
        go_wp2_with fail
        refine (good1_any _ _ _).mono ?_
        rintro e w' ⟨rfl, rfl⟩
        rw [unhide HG]
        go_wp2_with fail
        refine (size_any a _ a1 a2).mono ?_
        rintro e w2 ⟨rfl, rfl⟩
        rw [unhide HP]
        go_wp2_with fail
        rw [unhide H10]
        refine (formatUint_any (p / 10000) _ (by omega) (tab_below (unhide HT) (below_alloc _ _))).mono ?_
        rintro e w2 ⟨rfl, hb⟩
        have hDl := dec_len (p / 10000) (by omega)
        generalize hD : Lib.decDigits (p / 10000) = D at *
        obtain ⟨hD1, hD2⟩ := hDl
        have HD := hide hD
        clear hD
        go_wp2_with fail
        rw [unhide H11]
        refine (formatUint_any (10000 + p % 10000) _ (by omega) (tab_below (unhide HT) (below_tr rfl hb))).mono ?_
        rintro e w3 ⟨rfl, hb2⟩
        have hEl := dec_len (10000 + p % 10000) (by omega)
        generalize hE : Lib.decDigits (10000 + p % 10000) = E at *
        obtain ⟨hE1, hE2⟩ := hEl
        have HE := hide hE
        clear hE
        go_wp2_with fail
        rw [ba_extract E 1 E.length rfl]
        refine (Tryz.strings_TrimRight_one _ 48 (by decide) _ (by simp [ByteArray.size]; omega)).mono ?_
        rintro e w4 ⟨rfl, rfl⟩
        have hTl := trim_len (E.drop 1)
        have hEd : (E.drop 1).length ≤ 20 := by simp; omega
        generalize hT : Lib.trimRightB (E.drop 1) 48 = T at *
        have hTl' : T.length ≤ 20 := by omega
        have HTT := hide hT
        clear hT hTl hEd
        go_wp2
        go_ret
        exact ⟨ret_str (by rw [unhide HD, unhide HE, unhide HTT]; apply ByteArray.ext; simp), below_then (below_tr rfl hb) hb2⟩
end Go.Proofs.YtbeijnflfmjgfaaGreatDoor

namespace Go.Proofs.YtbeijnflfmjgfaaGreatDoor
open Go.RowKit

def isDig (c : UInt8) : Bool := decide (48 ≤ c.toNat) && decide (c.toNat ≤ 57)
theorem isDig_iff (c : UInt8) : isDig c = true ↔ 48 ≤ c.toNat ∧ c.toNat ≤ 57 := by unfold isDig; simp
def digB (l : List UInt8) : Bool := decide (1 ≤ l.length) && decide (l.length ≤ 18) && l.all isDig
def numL (l : List UInt8) : Nat := l.foldl (fun n c => n * 10 + (c.toNat - 48)) 0

theorem take_snoc (s : ByteArray) (k : Nat) (h : k < s.size) : s.data.toList.take (k + 1) = s.data.toList.take k ++ [s[k]] := by
  rw [List.take_succ_eq_append_getElem (by simpa using h)]; rfl
theorem numL_snoc (l : List UInt8) (c : UInt8) : numL (l ++ [c]) = numL l * 10 + (c.toNat - 48) := by
  unfold numL; rw [List.foldl_append]; rfl
theorem fold_lt : ∀ (l : List UInt8) (n : Nat), l.all isDig = true → l.foldl (fun n c => n * 10 + (c.toNat - 48)) n < (n + 1) * 10 ^ l.length
  | [], n, _ => by simp
  | c :: l, n, h => by
    rw [List.all_cons, Bool.and_eq_true, isDig_iff] at h
    have := fold_lt l (n * 10 + (c.toNat - 48)) h.2
    rw [List.foldl_cons, List.length_cons, Nat.pow_succ]
    have h2 : (n * 10 + (c.toNat - 48) + 1) * 10 ^ l.length ≤ ((n + 1) * 10) * 10 ^ l.length := Nat.mul_le_mul_right _ (by omega)
    rw [Nat.mul_comm (10 ^ l.length) 10, ← Nat.mul_assoc]
    omega
theorem numL_lt (l : List UInt8) (h : l.all isDig = true) : numL l < 10 ^ l.length := by
  have := fold_lt l 0 h
  unfold numL
  omega

set_option maxHeartbeats 1000000 in
theorem digits_any (s : ByteArray) (w : World) (hs : s.size ≤ maxLen) :
    Calls Tryz.prog 154 #[.string s] w fun e w' => e = .returned (.bool (digB s.data.toList)) ∧ w' = w := by
  unfold maxLen at hs
  have hsz : s.data.toList.length = s.size := rfl
  by_cases h1 : s.size < 1
  · have ho : digB s.data.toList = false := by unfold digB; rw [hsz]; simp; omega
    rw [ho]
    have HS := hide hsz
    have HO := hide ho
    clear hsz ho
    have h1' : (s.size : Int) < 1 := by omega
    go_enter Tryz.func154, Tryz.ntmps154
    go_wp2
    go_ret
    exact ⟨rfl, rfl⟩
  by_cases h2 : 18 < s.size
  · have ho : digB s.data.toList = false := by unfold digB; rw [hsz]; simp; omega
    rw [ho]
    have HS := hide hsz
    have HO := hide ho
    clear hsz ho
    have h1' : ¬ (s.size : Int) < 1 := by omega
    have h2' : 18 < (s.size : Int) := by omega
    go_enter Tryz.func154, Tryz.ntmps154
    go_wp2
    go_ret
    exact ⟨rfl, rfl⟩
  have ho : digB s.data.toList = s.data.toList.all isDig := by
    unfold digB; rw [hsz, decide_eq_true (by omega), decide_eq_true (by omega)]; rfl
  have HS := hide hsz
  have HO := hide ho
  clear hsz ho
  go_enter Tryz.func154, Tryz.ntmps154
  go_wp2
  go_loop [14] (fun i => ∃ k : Nat, k ≤ s.size ∧ i = .int .i64 k ∧ Hid ((s.data.toList.take k).all isDig = true)) (fun i => s.size - (intOf i).toNat)
  case atStart => exact ⟨0, Nat.zero_le _, rfl, hide rfl⟩
  case round =>
    obtain ⟨k, hk, rfl, HT⟩ := hrel
    by_cases hlt : k < s.size
    · have hsn := take_snoc s k hlt
      by_cases hg : isDig s[k] = true
      · have hs' : Hid ((s.data.toList.take (k + 1)).all isDig = true) := hide (by rw [hsn, List.all_append, unhide HT, List.all_cons, hg]; rfl)
        clear hsn
        rw [isDig_iff] at hg
        obtain ⟨g1, g2⟩ := hg
        go_wp2
        go_round
        case rel => exact ⟨k + 1, by omega, by go_num, hs'⟩
        case measure => simp [intOf]; omega
      · have hs' : Hid (s.data.toList.all isDig = false) := by
          refine hide (List.all_eq_false.2 ⟨s[k], ?_, hg⟩)
          have : s[k] = s.data.toList[k]'(by simpa using hlt) := rfl
          rw [this]
          exact List.getElem_mem _
        clear hsn
        rw [isDig_iff] at hg
        by_cases g1 : s[k].toNat < 48
        · go_wp2
          go_ret
          exact ⟨by rw [unhide HO, unhide hs']; rfl, rfl⟩
        · have g2 : 57 < s[k].toNat := by omega
          go_wp2
          go_ret
          exact ⟨by rw [unhide HO, unhide hs']; rfl, rfl⟩
    · have hs' : Hid (s.data.toList.all isDig = true) := by
        have e : s.data.toList.take k = s.data.toList := List.take_of_length_le (by rw [unhide HS]; omega)
        rw [e] at HT
        exact HT
      go_wp2
      go_ret
      exact ⟨by rw [unhide HO, unhide hs']; rfl, rfl⟩

set_option maxHeartbeats 1000000 in
theorem number_any (s : ByteArray) (w : World) (hs : s.size ≤ 18) (hd : s.data.toList.all isDig = true) :
    Calls Tryz.prog 155 #[.string s] w fun e w' => e = .returned (.int .u64 ((numL s.data.toList : Nat) : Int)) ∧ w' = w := by
  have hsz : s.data.toList.length = s.size := rfl
  have HS := hide hsz
  have HD := hide hd
  clear hsz hd
  go_enter Tryz.func155, Tryz.ntmps155
  go_wp2
  go_loop [3, 7] (fun n i => ∃ k : Nat, k ≤ s.size ∧ i = .int .i64 k ∧ n = .int .u64 ((numL (s.data.toList.take k) : Nat) : Int)) (fun _ i => s.size - (intOf i).toNat)
  case atStart => exact ⟨0, Nat.zero_le _, rfl, rfl⟩
  case round =>
    obtain ⟨k, hk, rfl, rfl⟩ := hrel
    by_cases hlt : k < s.size
    · have hsn := take_snoc s k hlt
      have hns : numL (s.data.toList.take (k + 1)) = numL (s.data.toList.take k) * 10 + (s[k].toNat - 48) := by rw [hsn, numL_snoc]
      have hak : (s.data.toList.take k).all isDig = true := by
        have := unhide HD
        rw [← List.take_append_drop k s.data.toList, List.all_append, Bool.and_eq_true] at this
        exact this.1
      have hkl : (s.data.toList.take k).length = k := by rw [List.length_take, unhide HS]; omega
      have hb := numL_lt _ hak
      rw [hkl] at hb
      have hp : 10 ^ k ≤ 10 ^ 17 := Nat.pow_le_pow_right (by omega) (by omega)
      have hx : (10 ^ 17 : Nat) = 100000000000000000 := by decide
      have hb' : numL (s.data.toList.take k) < 100000000000000000 := by omega
      have hg : isDig s[k] = true := by
        have h := unhide HD
        rw [List.all_eq_true] at h
        exact h s[k] (by
          have : s[k] = s.data.toList[k]'(by simpa using hlt) := rfl
          rw [this]
          exact List.getElem_mem _)
      rw [isDig_iff] at hg
      obtain ⟨g1, g2⟩ := hg
      have HN := hide hns
      have HSN := hide hsn
      clear hns hsn hak hkl hb hp hx
      generalize hN : numL (s.data.toList.take k) = N at *
      have HNN := hide hN
      clear hN
      go_wp2
      go_round
      case rel => exact ⟨k + 1, by omega, by go_num, by rw [unhide HN]; exact int_eq (by omega)⟩
      case measure => simp [intOf]; omega
    · have e : s.data.toList.take k = s.data.toList := List.take_of_length_le (by rw [unhide HS]; omega)
      rw [e]
      go_wp2
      go_ret
      exact ⟨rfl, rfl⟩
end Go.Proofs.YtbeijnflfmjgfaaGreatDoor

namespace Go.Proofs.YtbeijnflfmjgfaaGreatDoor
open Go.RowKit

abbrev lenCell (w : World) : Prop := ∃ m : Int, w.cell? ⟨1, 0, none⟩ = some (.int .i64 m)

def wholeOf (l : List UInt8) : List UInt8 := (Lib.cut (Lib.trimPrefix l [45]) [46]).1
def partOf (l : List UInt8) : List UInt8 := (Lib.cut (Lib.trimPrefix l [45]) [46]).2.1
def dotOf (l : List UInt8) : Bool := (Lib.cut (Lib.trimPrefix l [45]) [46]).2.2
def negOf (l : List UInt8) : Bool := Lib.hasPrefix l [45]
def formB (l : List UInt8) : Bool := digB (wholeOf l) && (!dotOf l || digB (partOf l))
def partsOf (l : List UInt8) : Nat := nrV (numL (wholeOf l)) 10000 1 + nrV (numL (partOf l)) 10000 (10 ^ (partOf l).length)
def parseR (l : List UInt8) : Int × Int :=
  if formB l = true then (if nrOk (numL (wholeOf l)) 10000 1 = true then (sgnN (negOf l) (partsOf l : Nat), sgnE (partsOf l : Nat)) else (0, 5)) else (0, 4)

theorem trimPrefix_len (l : List UInt8) : (Lib.trimPrefix l [45]).length ≤ l.length := by
  unfold Lib.trimPrefix; split
  · simp
  · omega
theorem cut_lens (l : List UInt8) : (Lib.cut l [46]).1.length ≤ l.length ∧ (Lib.cut l [46]).2.1.length ≤ l.length ∧ ((Lib.cut l [46]).2.2 = false → (Lib.cut l [46]).2.1 = []) := by
  unfold Lib.cut; split
  · refine ⟨by simp; omega, by simp, by simp⟩
  · refine ⟨by simp, by simp, by simp⟩
theorem part_facts (l : List UInt8) (h : formB l = true) : (partOf l).length ≤ 18 ∧ (partOf l).all isDig = true ∧ (wholeOf l).length ≤ 18 ∧ (wholeOf l).all isDig = true := by
  unfold formB at h
  rw [Bool.and_eq_true] at h
  obtain ⟨h1, h2⟩ := h
  have hd : ∀ x : List UInt8, digB x = true → x.length ≤ 18 ∧ x.all isDig = true := by
    intro x hx
    unfold digB at hx
    rw [Bool.and_eq_true, Bool.and_eq_true] at hx
    exact ⟨of_decide_eq_true hx.1.2, hx.2⟩
  refine ⟨?_, ?_, (hd _ h1).1, (hd _ h1).2⟩
  · cases hdot : dotOf l
    · have := (cut_lens (Lib.trimPrefix l [45])).2.2 hdot
      unfold partOf; rw [this]; simp
    · rw [hdot] at h2; exact (hd _ h2).1
  · cases hdot : dotOf l
    · have := (cut_lens (Lib.trimPrefix l [45])).2.2 hdot
      unfold partOf; rw [this]; rfl
    · rw [hdot] at h2; exact (hd _ h2).2

theorem frac_le (x z : Nat) (h : x < z) : nrV x 10000 z ≤ 10000 := by
  unfold nrV
  have hz : 0 < z := by omega
  have h1 : x * 10000 / z ≤ 9999 := by
    have : x * 10000 / z < 10000 := by
      rw [Nat.div_lt_iff_lt_mul hz, Nat.mul_comm 10000 z]
      exact Nat.mul_lt_mul_of_pos_right h (by omega)
    omega
  split
  · split <;> omega
  · omega
theorem cut45 (s : ByteArray) (l : List UInt8) (w : World) (hl : s.data.toList = l) :
    Calls Tryz.prog 152 #[.string s, .string ⟨#[45]⟩] w fun e w' => e = .returned (.tuple #[.string ⟨(Lib.trimPrefix l [45]).toArray⟩, .bool (negOf l)]) ∧ w' = w := by
  subst hl
  exact Tryz.strings_CutPrefix s ⟨#[45]⟩ w
theorem cut46 (l : List UInt8) (w : World) (hl : (Lib.trimPrefix l [45]).length < 4294967281) (hm : lenCell w) :
    Calls Tryz.prog 153 #[.string ⟨(Lib.trimPrefix l [45]).toArray⟩, .string ⟨#[46]⟩] w fun e w' => e = .returned (.tuple #[.string ⟨(wholeOf l).toArray⟩, .string ⟨(partOf l).toArray⟩, .bool (dotOf l)]) ∧ ∃ n, w' = w.drewN n := by
  obtain ⟨m, hm⟩ := hm
  exact Tryz.strings_Cut ⟨(Lib.trimPrefix l [45]).toArray⟩ ⟨#[46]⟩ m w hl hm
theorem digits_list (x : List UInt8) (w : World) (hx : x.length ≤ 4294967281) :
    Calls Tryz.prog 154 #[.string ⟨x.toArray⟩] w fun e w' => e = .returned (.bool (digB x)) ∧ w' = w :=
  digits_any ⟨x.toArray⟩ w (by unfold maxLen; show x.length ≤ _; omega)
theorem number_list (x : List UInt8) (w : World) (hx : x.length ≤ 18) (hd : x.all isDig = true) :
    Calls Tryz.prog 155 #[.string ⟨x.toArray⟩] w fun e w' => e = .returned (.int .u64 ((numL x : Nat) : Int)) ∧ w' = w :=
  number_any ⟨x.toArray⟩ w hx hd
theorem numL_18 (x : List UInt8) (hx : x.length ≤ 18) (hd : x.all isDig = true) : numL x < 1000000000000000000 := by
  have h := numL_lt x hd
  have hp : 10 ^ x.length ≤ 10 ^ 18 := Nat.pow_le_pow_right (by omega) hx
  have e : (10 ^ 18 : Nat) = 1000000000000000000 := by decide
  omega

set_option maxHeartbeats 1000000 in
theorem parse_any (s : ByteArray) (w : World) (hs : s.size < 4294967281) (hm : lenCell w) :
    Calls Tryz.prog 117 #[.string s] w fun e w' => e = .returned (.tuple #[.int .i64 (parseR s.data.toList).1, .int .i64 (parseR s.data.toList).2]) ∧ Below w.heap.size w w' := by
  obtain ⟨l, hl⟩ : ∃ l, s.data.toList = l := ⟨_, rfl⟩
  have hsz : s.size = l.length := by rw [← hl]; rfl
  obtain ⟨c1, c2, c3⟩ := cut_lens (Lib.trimPrefix l [45])
  have ct := trimPrefix_len l
  have hwl : (wholeOf l).length ≤ 4294967281 := by unfold wholeOf; omega
  have hpl : (partOf l).length ≤ 4294967281 := by unfold partOf; omega
  rw [hl]
  have HM := hide hm
  have HL := hide hl
  have HTL : Hid ((Lib.trimPrefix l [45]).length < 4294967281) := hide (by omega)
  clear hm hl c1 c2 c3 ct hsz
  cases hf : formB l
  · have hs : parseR l = (0, 4) := by unfold parseR; rw [hf]; rfl
    rw [hs]
    unfold formB at hf
    cases hw : digB (wholeOf l)
    · have HW := hide hw
      clear hs hf hw
      go_enter Tryz.func117, Tryz.ntmps117
      go_wp2_with fail
      refine (cut45 s l _ (unhide HL)).mono ?_
      rintro e w' ⟨rfl, rfl⟩
      go_wp2_with fail
      refine (cut46 l _ (unhide HTL) (unhide HM)).mono ?_
      rintro e w2 ⟨rfl, n, rfl⟩
      go_wp2_with fail
      refine (digits_list (wholeOf l) _ hwl).mono ?_
      rintro e w3 ⟨rfl, rfl⟩
      rw [unhide HW]
      go_wp2
      go_ret2
      exact ⟨rfl, below_drewN (Below.refl _ _) _⟩
    · have hdt : dotOf l = true := by
        rw [hw] at hf
        cases hd : dotOf l
        · rw [hd] at hf; cases hf
        · rfl
      have hpt : digB (partOf l) = false := by rw [hw, hdt] at hf; exact hf
      have HW := hide hw
      have HPT := hide hpt
      clear hs hf hw hpt
      go_enter Tryz.func117, Tryz.ntmps117
      go_wp2_with fail
      refine (cut45 s l _ (unhide HL)).mono ?_
      rintro e w' ⟨rfl, rfl⟩
      go_wp2_with fail
      refine (cut46 l _ (unhide HTL) (unhide HM)).mono ?_
      rintro e w2 ⟨rfl, n, rfl⟩
      go_wp2_with fail
      refine (digits_list (wholeOf l) _ hwl).mono ?_
      rintro e w3 ⟨rfl, rfl⟩
      rw [unhide HW]
      go_wp2_with fail
      refine (digits_list (partOf l) _ hpl).mono ?_
      rintro e w4 ⟨rfl, rfl⟩
      rw [unhide HPT]
      go_wp2
      go_ret2
      exact ⟨rfl, below_drewN (Below.refl _ _) _⟩
  · obtain ⟨p1, p2, p3, p4⟩ := part_facts l hf
    have n1 := numL_18 _ p1 p2
    have n3 := numL_18 _ p3 p4
    have P2 := hide p2
    have P4 := hide p4
    have HF := hide hf
    have hw : digB (wholeOf l) = true := by unfold formB at hf; rw [Bool.and_eq_true] at hf; exact hf.1
    have HW := hide hw
    have hpt : dotOf l = true → digB (partOf l) = true := by
      intro hd
      unfold formB at hf; rw [Bool.and_eq_true, hd] at hf; exact hf.2
    have HPT := hide hpt
    clear p2 p4 hf hw hpt hs
    have hp0 : 0 < 10 ^ (partOf l).length := Nat.pow_pos (by omega)
    have hp9 : 10 ^ (partOf l).length ≤ 10 ^ 18 := Nat.pow_le_pow_right (by omega) p1
    have e18 : (10 ^ 18 : Nat) = 1000000000000000000 := by decide
    rw [e18] at hp9
    clear e18
    have hv1 := nrV_le (numL (wholeOf l)) 10000 1
    have hv2 := frac_le (numL (partOf l)) (10 ^ (partOf l).length) (numL_lt _ (unhide P2))
    cases hk : nrOk (numL (wholeOf l)) 10000 1
    · have hs : parseR l = (0, 5) := by unfold parseR; rw [unhide HF, hk]; rfl
      have HK := hide hk
      rw [hs]
      clear hk hs
      cases hd : dotOf l
      · have HDD := hide hd
        go_enter Tryz.func117, Tryz.ntmps117
        go_wp2_with fail
        refine (cut45 s l _ (unhide HL)).mono ?_
        rintro e w' ⟨rfl, rfl⟩
        go_wp2_with fail
        refine (cut46 l _ (unhide HTL) (unhide HM)).mono ?_
        rintro e w2 ⟨rfl, n, rfl⟩
        go_wp2_with fail
        refine (digits_list (wholeOf l) _ hwl).mono ?_
        rintro e w3 ⟨rfl, rfl⟩
        rw [unhide HW]
        go_wp2_with fail
        refine (number_list (wholeOf l) _ p3 (unhide P4)).mono ?_
        rintro e w5 ⟨rfl, rfl⟩
        go_wp2_with fail
        refine (nearest_any (numL (wholeOf l)) 10000 1 _ (by omega) (by omega) (by omega) (by omega)).mono ?_
        rintro e w6 ⟨rfl, hb⟩
        rw [unhide HK]
        go_wp2
        go_ret2
        exact ⟨rfl, below_then (below_drewN (Below.refl _ _) _) hb⟩
      · have HP2 := hide ((unhide HPT) hd)
        go_enter Tryz.func117, Tryz.ntmps117
        go_wp2_with fail
        refine (cut45 s l _ (unhide HL)).mono ?_
        rintro e w' ⟨rfl, rfl⟩
        go_wp2_with fail
        refine (cut46 l _ (unhide HTL) (unhide HM)).mono ?_
        rintro e w2 ⟨rfl, n, rfl⟩
        go_wp2_with fail
        refine (digits_list (wholeOf l) _ hwl).mono ?_
        rintro e w3 ⟨rfl, rfl⟩
        rw [unhide HW]
        go_wp2_with fail
        refine (digits_list (partOf l) _ hpl).mono ?_
        rintro e w4 ⟨rfl, rfl⟩
        rw [unhide HP2]
        go_wp2_with fail
        refine (number_list (wholeOf l) _ p3 (unhide P4)).mono ?_
        rintro e w5 ⟨rfl, rfl⟩
        go_wp2_with fail
        refine (nearest_any (numL (wholeOf l)) 10000 1 _ (by omega) (by omega) (by omega) (by omega)).mono ?_
        rintro e w6 ⟨rfl, hb⟩
        rw [unhide HK]
        go_wp2
        go_ret2
        exact ⟨rfl, below_then (below_drewN (Below.refl _ _) _) hb⟩
    · have hs : parseR l = (sgnN (negOf l) (partsOf l : Nat), sgnE (partsOf l : Nat)) := by unfold parseR; rw [unhide HF, hk]; rfl
      have HK := hide hk
      have HPO : Hid (partsOf l = nrV (numL (wholeOf l)) 10000 1 + nrV (numL (partOf l)) 10000 (10 ^ (partOf l).length)) := hide rfl
      rw [hs]
      clear hk hs
      cases hd : dotOf l
      · have HDD := hide hd
        go_enter Tryz.func117, Tryz.ntmps117
        go_wp2_with fail
        refine (cut45 s l _ (unhide HL)).mono ?_
        rintro e w' ⟨rfl, rfl⟩
        go_wp2_with fail
        refine (cut46 l _ (unhide HTL) (unhide HM)).mono ?_
        rintro e w2 ⟨rfl, n, rfl⟩
        go_wp2_with fail
        refine (digits_list (wholeOf l) _ hwl).mono ?_
        rintro e w3 ⟨rfl, rfl⟩
        rw [unhide HW]
        go_wp2_with fail
        refine (number_list (wholeOf l) _ p3 (unhide P4)).mono ?_
        rintro e w5 ⟨rfl, rfl⟩
        go_wp2_with fail
        refine (nearest_any (numL (wholeOf l)) 10000 1 _ (by omega) (by omega) (by omega) (by omega)).mono ?_
        rintro e w6 ⟨rfl, hb⟩
        rw [unhide HK]
        go_wp2_with fail
        refine (number_list (partOf l) _ p1 (unhide P2)).mono ?_
        rintro e w7 ⟨rfl, rfl⟩
        go_wp2_with fail
        refine (power_any (partOf l).length _ (by omega)).mono ?_
        rintro e w8 ⟨rfl, rfl⟩
        go_wp2_with fail
        refine (nearest_any (numL (partOf l)) 10000 (10 ^ (partOf l).length) _ (by omega) (by omega) hp0 (by omega)).mono ?_
        rintro e w9 ⟨rfl, hb2⟩
        go_wp2_with fail
        refine (signed_any (negOf l) _ _ (by omega) (by omega)).mono ?_
        rintro e w10 ⟨rfl, rfl⟩
        go_wp2
        go_ret2
        exact ⟨by rw [unhide HPO]; rfl, below_then (below_then (below_drewN (Below.refl _ _) _) hb) hb2⟩
      · have HP2 := hide ((unhide HPT) hd)
        go_enter Tryz.func117, Tryz.ntmps117
        go_wp2_with fail
        refine (cut45 s l _ (unhide HL)).mono ?_
        rintro e w' ⟨rfl, rfl⟩
        go_wp2_with fail
        refine (cut46 l _ (unhide HTL) (unhide HM)).mono ?_
        rintro e w2 ⟨rfl, n, rfl⟩
        go_wp2_with fail
        refine (digits_list (wholeOf l) _ hwl).mono ?_
        rintro e w3 ⟨rfl, rfl⟩
        rw [unhide HW]
        go_wp2_with fail
        refine (digits_list (partOf l) _ hpl).mono ?_
        rintro e w4 ⟨rfl, rfl⟩
        rw [unhide HP2]
        go_wp2_with fail
        refine (number_list (wholeOf l) _ p3 (unhide P4)).mono ?_
        rintro e w5 ⟨rfl, rfl⟩
        go_wp2_with fail
        refine (nearest_any (numL (wholeOf l)) 10000 1 _ (by omega) (by omega) (by omega) (by omega)).mono ?_
        rintro e w6 ⟨rfl, hb⟩
        rw [unhide HK]
        go_wp2_with fail
        refine (number_list (partOf l) _ p1 (unhide P2)).mono ?_
        rintro e w7 ⟨rfl, rfl⟩
        go_wp2_with fail
        refine (power_any (partOf l).length _ (by omega)).mono ?_
        rintro e w8 ⟨rfl, rfl⟩
        go_wp2_with fail
        refine (nearest_any (numL (partOf l)) 10000 (10 ^ (partOf l).length) _ (by omega) (by omega) hp0 (by omega)).mono ?_
        rintro e w9 ⟨rfl, hb2⟩
        go_wp2_with fail
        refine (signed_any (negOf l) _ _ (by omega) (by omega)).mono ?_
        rintro e w10 ⟨rfl, rfl⟩
        go_wp2
        go_ret2
        exact ⟨by rw [unhide HPO]; rfl, below_then (below_then (below_drewN (Below.refl _ _) _) hb) hb2⟩
end Go.Proofs.YtbeijnflfmjgfaaGreatDoor

namespace Go.Proofs.YtbeijnflfmjgfaaGreatDoor

theorem cut_none : ∀ (l : List UInt8), (∀ c, c ∈ l → c ≠ 46) → Lib.cut l [46] = (l, [], false) := by
  intro l h
  have hi : Lib.index l [46] = -1 := by
    induction l with
    | nil => rfl
    | cons b l ih =>
      have hb : b ≠ 46 := h b (by simp)
      have := ih (fun c hc => h c (by simp [hc]))
      unfold Lib.index
      rw [this]
      have e : ([46] : List UInt8).isPrefixOf (b :: l) = false := by simp [List.isPrefixOf, Ne.symm hb]
      rw [e]; rfl
  unfold Lib.cut
  rw [hi]; rfl

theorem cut_at (l r : List UInt8) (h : ∀ c, c ∈ l → c ≠ 46) : Lib.cut (l ++ 46 :: r) [46] = (l, r, true) := by
  have hi : Lib.index (l ++ 46 :: r) [46] = (l.length : Int) := by
    induction l with
    | nil => unfold Lib.index; simp [List.isPrefixOf]
    | cons b l ih =>
      have hb : b ≠ 46 := h b (by simp)
      have := ih (fun c hc => h c (by simp [hc]))
      rw [List.cons_append]
      unfold Lib.index
      rw [this]
      have e : ([46] : List UInt8).isPrefixOf (b :: (l ++ 46 :: r)) = false := by simp [List.isPrefixOf, Ne.symm hb]
      have e2 : ((l.length : Int) == -1) = false := by rw [beq_eq_false_iff_ne]; omega
      rw [e, e2]
      simp
  unfold Lib.cut
  rw [hi, if_pos (by omega)]
  simp

theorem numL_cons (c : UInt8) (l : List UInt8) : numL (c :: l) = (c.toNat - 48) * 10 ^ l.length + numL l := by
  have gen : ∀ (l : List UInt8) (n : Nat), l.foldl (fun n c => n * 10 + (c.toNat - 48)) n = n * 10 ^ l.length + numL l := by
    intro l
    induction l with
    | nil => intro n; simp [numL]
    | cons d l ih =>
      intro n
      rw [List.foldl_cons, ih, List.length_cons, Nat.pow_succ]
      have e : numL (d :: l) = (d.toNat - 48) * 10 ^ l.length + numL l := by
        show (d :: l).foldl _ 0 = _
        rw [List.foldl_cons, ih]; simp
      rw [e, Nat.add_mul, Nat.mul_assoc, Nat.mul_comm 10 (10 ^ l.length)]
      omega
  show (c :: l).foldl _ 0 = _
  rw [List.foldl_cons, gen]; simp

theorem text_len (a : Int) : (textL a).length ≤ 100 := by
  unfold textL
  split
  · rename_i h
    have hg := (goodB_iff a).1 h
    have hx : (absL a.natAbs).length ≤ 60 := by
      unfold absL fracL
      have h1 := (dec_len (a.natAbs / 10000) (by omega)).2
      have h2 := (dec_len (10000 + a.natAbs % 10000) (by omega)).2
      have h3 := trim_len ((Lib.decDigits (10000 + a.natAbs % 10000)).drop 1)
      rw [List.length_drop] at h3
      rw [List.length_append]
      split
      · simp; omega
      · rw [List.length_cons]; omega
    split
    · rw [List.length_cons]; omega
    · omega
  · simp
end Go.Proofs.YtbeijnflfmjgfaaGreatDoor

namespace Go.Proofs.YtbeijnflfmjgfaaGreatDoor
open Go.RowKit

def cmpV (a b : Int) : Int := if a < b then -1 else if b < a then 1 else 0
def dl (l : List UInt8) : List UInt8 := l.dropWhile (fun c => c.toNat == 32)
theorem dl_cons_yes {c : UInt8} {l : List UInt8} (h : (c.toNat == 32) = true) : dl (c :: l) = dl l := by unfold dl; rw [List.dropWhile_cons, if_pos h]
theorem dl_cons_no {c : UInt8} {l : List UInt8} (h : (c.toNat == 32) = false) : dl (c :: l) = c :: l := by unfold dl; rw [List.dropWhile_cons, h]; rfl
def bareV (s : ByteArray) : ByteArray := ⟨(dl (dl s.data.toList).reverse).reverse.toArray⟩
theorem cons_of (t : ByteArray) (h : 0 < t.size) : t.data.toList = t[0] :: (t.extract 1 t.size).data.toList := by
  rw [Lib.extract_to_end]
  have hpos : 0 < t.data.toList.length := h
  rw [List.drop_one]
  match hl : t.data.toList, hpos with
  | a :: l, _ =>
    have e : t[0] = a := by
      have : t.data.toList[0]'(hpos) = a := by simp [hl]
      rw [← this]; rfl
    rw [e]; rfl
theorem snoc_of (t : ByteArray) (n : Nat) (h : t.size = n + 1) : t.data.toList.reverse = t[n] :: (t.extract 0 n).data.toList.reverse := by
  have hl : t.data.toList.length = n + 1 := h
  have e1 : (t.extract 0 n).data.toList = t.data.toList.take n := by
    rw [ByteArray.data_extract, Array.toList_extract]; simp [List.extract]
  have e2 : t.data.toList = t.data.toList.take n ++ [t[n]] := by
    have := List.take_succ_eq_append_getElem (l := t.data.toList) (i := n) (by omega)
    rw [List.take_of_length_le (by omega)] at this
    exact this
  rw [e1]
  conv => lhs; rw [e2]
  rw [List.reverse_append]; rfl

set_option maxRecDepth 100000 in
set_option maxHeartbeats 2000000 in
theorem bare_ref (s : ByteArray) (w : World) (hs : s.size ≤ 1000000) :
    Calls Tryz.prog 78 #[.string s] w fun e w' => e = .returned (.string (bareV s)) ∧ w' = w := by
  go_enter Tryz.func78, Tryz.ntmps78
  go_wp2
  go_loop [0] (fun v => ∃ t : ByteArray, v = .string t ∧ t.size ≤ 1000000 ∧ Hid (dl t.data.toList = dl s.data.toList)) (fun v => match v with | .string t => t.size | _ => 0)
  case atStart => exact ⟨s, rfl, hs, hide rfl⟩
  case round =>
    obtain ⟨t, rfl, ht, HD⟩ := hrel
    by_cases h0 : 0 < t.size
    · have h0' : 0 < (t.size : Int) := by omega
      have hc := cons_of t h0
      cases hx : ((t[0].toNat : Int) == 32)
      · have HT : Hid (t.data.toList = dl s.data.toList) := hide (by
          rw [← unhide HD, hc, dl_cons_no (by rw [beq_eq_false_iff_ne] at hx ⊢; omega)])
        clear hc
        go_wp2
        go_loop [0] (fun v => ∃ u : ByteArray, v = .string u ∧ u.size ≤ 1000000 ∧ Hid (dl u.data.toList.reverse = dl (dl s.data.toList).reverse)) (fun v => match v with | .string u => u.size | _ => 0)
        case atStart => exact ⟨t, rfl, ht, hide (by rw [unhide HT])⟩
        case round =>
          obtain ⟨u, rfl, hu, HU⟩ := hrel
          by_cases g0 : 0 < u.size
          · obtain ⟨n, hn⟩ : ∃ n, u.size = n + 1 := ⟨u.size - 1, by omega⟩
            have g0' : 0 < (u.size : Int) := by omega
            have en : ((u.size : Int) - 1).toNat = n := by omega
            have en1 : u.size - 1 = n := by omega
            have hlt : n < u.size := by omega
            have hc := snoc_of u n hn
            cases hy : ((u[n].toNat : Int) == 32)
            · have HE : Hid (u = bareV s) := hide (by
                have e : dl u.data.toList.reverse = u.data.toList.reverse := by rw [hc, dl_cons_no (by rw [beq_eq_false_iff_ne] at hy ⊢; omega)]
                have e2 : u.data.toList = (dl (dl s.data.toList).reverse).reverse := by rw [← unhide HU, e, List.reverse_reverse]
                unfold bareV
                rw [← e2])
              clear hc
              go_wp2
              go_ret
              exact ⟨by rw [← unhide HE]; rfl, rfl⟩
            · have HE : Hid (dl (u.extract 0 n).data.toList.reverse = dl (dl s.data.toList).reverse) := hide (by
                rw [← unhide HU, hc, dl_cons_yes (by rw [beq_iff_eq] at hy ⊢; omega)])
              have hsz : (u.extract 0 n).size = n := by rw [ByteArray.size_extract]; omega
              clear hc
              go_wp2
              exact ⟨⟨_, rfl, by omega, HE⟩, by show (u.extract 0 n).size < u.size; omega⟩
          · have hn : u.data.toList = [] := List.eq_nil_of_length_eq_zero (by have : u.data.toList.length = u.size := rfl; omega)
            have HE : Hid (u = bareV s) := hide (by
              have e2 : u.data.toList = (dl (dl s.data.toList).reverse).reverse := by rw [← unhide HU, hn]; rfl
              unfold bareV
              rw [← e2])
            have g0' : ¬ 0 < (u.size : Int) := by omega
            clear hn
            go_wp2
            go_ret
            exact ⟨by rw [← unhide HE]; rfl, rfl⟩
      · have HT : Hid (dl (t.extract 1 t.size).data.toList = dl s.data.toList) := hide (by
          rw [← unhide HD, hc, dl_cons_yes (by rw [beq_iff_eq] at hx ⊢; omega)])
        have hsz : (t.extract 1 t.size).size = t.size - 1 := by rw [ByteArray.size_extract]; omega
        clear hc
        go_wp2
        exact ⟨⟨_, rfl, by omega, HT⟩, by show (t.extract 1 t.size).size < t.size; omega⟩
    · have hn : t.data.toList = [] := List.eq_nil_of_length_eq_zero (by have : t.data.toList.length = t.size := rfl; omega)
      have HT : Hid (t.data.toList = dl s.data.toList) := hide (by rw [← unhide HD, hn]; rfl)
      have h0' : ¬ 0 < (t.size : Int) := by omega
      clear hn
      go_wp2
      go_loop [0] (fun v => ∃ u : ByteArray, v = .string u ∧ u.size ≤ 1000000 ∧ Hid (dl u.data.toList.reverse = dl (dl s.data.toList).reverse)) (fun v => match v with | .string u => u.size | _ => 0)
      case atStart => exact ⟨t, rfl, ht, hide (by rw [unhide HT])⟩
      case round =>
        obtain ⟨u, rfl, hu, HU⟩ := hrel
        by_cases g0 : 0 < u.size
        · obtain ⟨n, hn⟩ : ∃ n, u.size = n + 1 := ⟨u.size - 1, by omega⟩
          have g0' : 0 < (u.size : Int) := by omega
          have en : ((u.size : Int) - 1).toNat = n := by omega
          have en1 : u.size - 1 = n := by omega
          have hlt : n < u.size := by omega
          have hc := snoc_of u n hn
          cases hy : ((u[n].toNat : Int) == 32)
          · have HE : Hid (u = bareV s) := hide (by
              have e : dl u.data.toList.reverse = u.data.toList.reverse := by rw [hc, dl_cons_no (by rw [beq_eq_false_iff_ne] at hy ⊢; omega)]
              have e2 : u.data.toList = (dl (dl s.data.toList).reverse).reverse := by rw [← unhide HU, e, List.reverse_reverse]
              unfold bareV
              rw [← e2])
            clear hc
            go_wp2
            go_ret
            exact ⟨by rw [← unhide HE]; rfl, rfl⟩
          · have HE : Hid (dl (u.extract 0 n).data.toList.reverse = dl (dl s.data.toList).reverse) := hide (by
              rw [← unhide HU, hc, dl_cons_yes (by rw [beq_iff_eq] at hy ⊢; omega)])
            have hsz : (u.extract 0 n).size = n := by rw [ByteArray.size_extract]; omega
            clear hc
            go_wp2
            exact ⟨⟨_, rfl, by omega, HE⟩, by show (u.extract 0 n).size < u.size; omega⟩
        · have hn : u.data.toList = [] := List.eq_nil_of_length_eq_zero (by have : u.data.toList.length = u.size := rfl; omega)
          have HE : Hid (u = bareV s) := hide (by
            have e2 : u.data.toList = (dl (dl s.data.toList).reverse).reverse := by rw [← unhide HU, hn]; rfl
            unfold bareV
            rw [← e2])
          have g0' : ¬ 0 < (u.size : Int) := by omega
          clear hn
          go_wp2
          go_ret
          exact ⟨by rw [← unhide HE]; rfl, rfl⟩
end Go.Proofs.YtbeijnflfmjgfaaGreatDoor

namespace Go.Proofs.YtbeijnflfmjgfaaGreatDoor
open Go.RowKit

theorem info3 : (Tryz.prog.info? 3).map (fun i => (i.zero, i.size, i.bytes)) = some (some (.int .i64 0), 1, 8) := by kernel_rfl

theorem arr_of_owns {w : World} {B : Nat} {v : Value} {n : Nat} {zs : List Int} (hn : n = zs.length) (h : w.ownsRow B 3 1 v n (zs.map (Value.int .i64))) : Arr w v zs := by
  obtain ⟨_, h⟩ := h
  subst hn
  rcases h with ⟨rfl, h0⟩ | ⟨g, cap, cur, rfl, hg, hh, hc, _, hs, ht⟩
  · have : zs = [] := List.eq_nil_of_length_eq_zero h0
    subst this
    exact Or.inl ⟨rfl, none, 0, rfl⟩
  · refine Or.inr ⟨g, 0, cap, rfl, hc, ?_, fun i hi => ?_⟩
    · rcases Nat.lt_or_ge g w.heap.size with h' | h'
      · exact h'
      · rw [Array.getElem?_eq_none h'] at hh; cases hh
    · have h2 : (cur.toList.take (zs.length * 1))[i]? = (zs.map (Value.int .i64))[i]? := by rw [ht]
      rw [List.getElem?_take, if_pos (by omega), List.getElem?_map, List.getElem?_eq_getElem hi] at h2
      rw [Nat.zero_add, List.getD_eq_getElem?_getD, List.getElem?_eq_getElem hi]
      simp only [World.cell?, hh]
      simpa using h2

theorem fr_of_owns {w : World} {B : Nat} {v : Value} {n : Nat} {xs : List Value} (h : w.ownsRow B 3 1 v n xs) : Fr B v := by
  intro b o m c e
  rcases h.2 with ⟨rfl, _⟩ | ⟨g, cap, cur, rfl, hg, _⟩
  · cases e
  · injection e with e1
    injection e1 with e1
    injection e1 with e1
    omega

def NumPost (n : Int) (len : Nat) (w : World) (e : Ending) (w' : World) : Prop :=
  Below w.heap.size w w' ∧ ∃ v zs, e = .returned v ∧ Arr w' v zs ∧ Dc.Dig zs ∧ Dc.Cn zs ∧ Dc.val zs = n ∧ zs.length ≤ len ∧ Fr w.heap.size v

theorem val_snoc (zs : List Int) (k : Int) : Dc.val (zs ++ [k]) = Dc.val zs + 10 ^ zs.length * k := by
  rw [Dc.val_append]; simp [Dc.val]
theorem dig_snoc {zs : List Int} {k : Int} (h : Dc.Dig zs) (h0 : 0 ≤ k) (h9 : k ≤ 9) : Dc.Dig (zs ++ [k]) := by
  intro x hx
  rcases List.mem_append.1 hx with h1 | h1
  · exact h x h1
  · rw [List.mem_singleton.1 h1]; exact ⟨h0, h9⟩
theorem cn_snoc {zs : List Int} {k : Int} (h : k ≠ 0) : Dc.Cn (zs ++ [k]) := by
  intro x l' e
  have := List.append_inj_right' e rfl
  simp at this
  rw [← this]; exact h

theorem digits_step (a x : Int) (zs : List Int) (hd : Dc.Dig zs) (hv : Dc.val zs + 10 ^ zs.length * (x.natAbs : Int) = (a.natAbs : Int)) (hx : x ≠ 0) (ha : a.natAbs < 10000000000000000000) :
    zs.length ≤ 18 ∧ Dc.Dig (zs ++ [((x.tmod 10).natAbs : Int)]) ∧ Dc.val (zs ++ [((x.tmod 10).natAbs : Int)]) + 10 ^ (zs ++ [((x.tmod 10).natAbs : Int)]).length * ((x.tdiv 10).natAbs : Int) = (a.natAbs : Int) ∧
      (x.tdiv 10 = 0 → Dc.Cn (zs ++ [((x.tmod 10).natAbs : Int)])) := by
  have hn := Dc.val_nonneg zs hd
  have hp := Dc.pow_pos zs.length
  have h1 : (x.tmod 10).natAbs = x.natAbs % 10 := Int.natAbs_tmod x 10
  have h2 : (x.tdiv 10).natAbs = x.natAbs / 10 := Int.natAbs_tdiv x 10
  refine ⟨?_, dig_snoc hd (by omega) (by omega), ?_, fun h => cn_snoc (by omega)⟩
  · rcases Nat.lt_or_ge 18 zs.length with h | h
    · have h3 : (10 : Int) ^ 19 ≤ 10 ^ zs.length := Dc.pow_le (by omega)
      have h4 : (10 : Int) ^ zs.length * 1 ≤ 10 ^ zs.length * (x.natAbs : Int) := Int.mul_le_mul_of_nonneg_left (by omega) (by omega)
      have e : (10 : Int) ^ 19 = 10000000000000000000 := by decide
      omega
    · exact h
  · rw [val_snoc, List.length_append, List.length_singleton, Int.pow_succ, h1, h2, Int.mul_assoc, Int.add_assoc, ← Int.mul_add]
    rw [← hv]
    congr 2
    omega

theorem one_cell (w : World) (x : Value) (t : TypeId) : ∀ (j : Nat) u, [x][j]? = some u → (w.alloc (.cells #[x] t)).cell? ((⟨w.heap.size, 0, none⟩ : Addr).add j) = some u := by
  intro j u hj
  match j, hj with
  | 0, hj => simp at hj; subst hj; simp [Addr.add]
theorem one_one (k : Int) : ∀ u ∈ [Value.int .i64 k], u.oneCell' = true := by
  intro u hu
  simp at hu
  subst hu
  rfl

theorem own_step {B : Nat} {w wr w1 : World} {v v' : Value} {zs : List Int} {k : Int} {o : Obj} (hb : Below B w wr) (hB : B ≤ wr.heap.size) (hown : wr.ownsRow B 3 1 v zs.length (zs.map (Value.int .i64)))
    (hown' : w1.ownsRow B 3 1 v' (zs.length + 1) (zs.map (Value.int .i64) ++ [.int .i64 k])) (hgrow : (wr.alloc o).grownBy w1 v.ownBlock) :
    w1.ownsRow B 3 1 v' (zs ++ [k]).length ((zs ++ [k]).map (Value.int .i64)) ∧ Below B w w1 := by
  refine ⟨by simpa using hown', (hb.alloc hB o).grown hgrow (by simp; omega) ?_⟩
  intro j hj
  rcases hown.2 with ⟨rfl, _⟩ | ⟨g, cap, cur, rfl, hg, _⟩
  · cases hj
  · simp [Value.ownBlock] at hj; omega

set_option maxRecDepth 100000 in
set_option maxHeartbeats 2000000 in
theorem digits_ref (a : Int) (w : World) (h1 : -9223372036854775808 ≤ a) (h2 : a ≤ 9223372036854775807) :
    Calls Tryz.prog 81 #[.int .i64 a] w fun e w' => NumPost (a.natAbs : Int) 19 w e w' := by
  obtain ⟨i0, hi, hz0, hz1, hz2⟩ := info_parts info3
  go_enter Tryz.func81, Tryz.ntmps81
  go_wp2
  go_loopw [0, 3] (fun t v wr => ∃ (x : Int) (zs : List Int), t = .int .i64 x ∧ -9223372036854775808 ≤ x ∧ x ≤ 9223372036854775807 ∧ wr.ownsRow w.heap.size 3 1 v zs.length (zs.map (Value.int .i64)) ∧ Below w.heap.size w wr ∧
      Hid (Dc.Dig zs ∧ Dc.val zs + 10 ^ zs.length * (x.natAbs : Int) = (a.natAbs : Int) ∧ (x = 0 → Dc.Cn zs) ∧ zs.length ≤ 19)) (fun t _ _ => (intOf t).natAbs)
  case atStart => exact ⟨a, [], rfl, h1, h2, World.ownsRow_nil _ _ _ _, Below.refl _ _, hide ⟨fun x hx => by simp at hx, by simp [Dc.val], fun _ x l' e => by simp at e, by simp⟩⟩
  case round =>
    obtain ⟨x, zs, rfl, hx1, hx2, hown, hb, HZ⟩ := hrel
    by_cases hx0 : x = 0
    · obtain ⟨z1, z2, z3, z4⟩ := unhide HZ
      have HC := hide (z3 hx0)
      subst hx0
      have HV : Hid (Dc.val zs = (a.natAbs : Int)) := hide (by simpa using z2)
      clear HZ z2 z3
      go_wp2
      go_ret
      exact ⟨hb, _, zs, rfl, arr_of_owns rfl hown, z1, unhide HC, unhide HV, z4, fr_of_owns hown⟩
    · obtain ⟨z1, z2, z3, z4⟩ := unhide HZ
      obtain ⟨s1, s2, s3, s4⟩ := digits_step a x zs z1 z2 hx0 (by omega)
      have hxb : (x == 0) = false := by rw [beq_eq_false_iff_ne]; exact hx0
      have S := hide (And.intro s2 (And.intro s3 s4))
      have e1 : (x.tmod 10).natAbs = x.natAbs % 10 := Int.natAbs_tmod x 10
      have e2 : (x.tdiv 10).natAbs = x.natAbs / 10 := Int.natAbs_tdiv x 10
      obtain ⟨k, hk⟩ : ∃ k : Int, ((x.tmod 10).natAbs : Int) = k := ⟨_, rfl⟩
      rw [hk] at S
      have kb : 0 ≤ k ∧ k ≤ 9 := by omega
      have tb : -9 ≤ x.tmod 10 ∧ x.tmod 10 ≤ 9 := by omega
      have qb : -922337203685477580 ≤ x.tdiv 10 ∧ x.tdiv 10 ≤ 922337203685477580 := by omega
      have HM : Hid ((x.tdiv 10).natAbs < x.natAbs) := hide (by omega)
      obtain ⟨t1, t2⟩ := tb
      obtain ⟨q1, q2⟩ := qb
      have HB := hide hb
      have HO := hide hown
      have HX0 := hide hx0
      clear HZ z1 z2 z3 z4 s2 s3 s4 e1 e2 hb hown hx0
      by_cases ht : x.tmod 10 < 0
      · have ek : k = -(x.tmod 10) := by omega
        have EK := hide ek
        clear ek hk
        go_wp2_with (first
          | (at_builtin; refine wpList_append_own _ rfl _ _ 49 rfl w.heap.size 3 i0 (.int .i64 0) 1 8 Tryz.underlying49 hi hz0 hz1 hz2 rfl (by decide) _ _ _ rfl ((unhide HO).alloc _) ⟨wr.heap.size, 0, none⟩ 1 1 [.int .i64 (-(x.tmod 10))] rfl rfl (one_cell _ _ _) (one_one _) (by unfold maxLen; omega) (by omega) (by have := (unhide HB).size; simp; omega) ?_)
          | go_in)
        · intro v' w1 hown' hgrow _
          have hB := (unhide HB).size
          have R := hide (own_step (unhide HB) hB (unhide HO) hown' hgrow)
          clear hown' hgrow
          go_wp2
          go_roundw
          case rel =>
            have S' := unhide S
            rw [unhide EK] at S'
            exact ⟨_, zs ++ [-(x.tmod 10)], rfl, by omega, by omega, (unhide R).1, (unhide R).2, hide ⟨S'.1, S'.2.1, S'.2.2, by simp; omega⟩⟩
          case measure => exact unhide HM
      · have ek : k = x.tmod 10 := by omega
        have EK := hide ek
        clear ek hk
        go_wp2_with (first
          | (at_builtin; refine wpList_append_own _ rfl _ _ 49 rfl w.heap.size 3 i0 (.int .i64 0) 1 8 Tryz.underlying49 hi hz0 hz1 hz2 rfl (by decide) _ _ _ rfl ((unhide HO).alloc _) ⟨wr.heap.size, 0, none⟩ 1 1 [.int .i64 (x.tmod 10)] rfl rfl (one_cell _ _ _) (one_one _) (by unfold maxLen; omega) (by omega) (by have := (unhide HB).size; simp; omega) ?_)
          | go_in)
        · intro v' w1 hown' hgrow _
          have hB := (unhide HB).size
          have R := hide (own_step (unhide HB) hB (unhide HO) hown' hgrow)
          clear hown' hgrow
          go_wp2
          go_roundw
          case rel =>
            have S' := unhide S
            rw [unhide EK] at S'
            exact ⟨_, zs ++ [x.tmod 10], rfl, by omega, by omega, (unhide R).1, (unhide R).2, hide ⟨S'.1, S'.2.1, S'.2.2, by simp; omega⟩⟩
          case measure => exact unhide HM
end Go.Proofs.YtbeijnflfmjgfaaGreatDoor
