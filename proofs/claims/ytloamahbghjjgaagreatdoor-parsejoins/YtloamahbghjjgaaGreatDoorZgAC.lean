/- Plain facts on lists of decimal digits, the lowest first. -/
import Derived.BigQuiet
import Derived.Deep.CutBlock
import Derived.Deep.CutRange
import Derived.Deep.DeepFit
import Derived.Deep.QuietTactic
import Derived.Laws.Bits64b
import Derived.Laws.IdiomStrings
import Derived.Laws.Rows
import Derived.Lib.Atoi
import Derived.Lib.BitFns
import Derived.Lib.CutLaws
import Derived.Lib.IndexMore
import Derived.Lib.ItoaMem
import Derived.Lib.ItoaNum
import Derived.Lib.Join
import Derived.Lib.Replace
import Derived.Lib.Walk
import Derived.Shelf.Bits.Mul64
import Derived.Shelf.LaysM
import Derived.Shelf.Small.Bits
import Derived.Shelf.Small.Strs
import Derived.Shelf.Small.Utf8
import Derived.Shelf.Small.Wraps
import Derived.Shelf.Strconv.Atoi
import Derived.Shelf.Strconv.Itoa0
import Derived.Shelf.Strconv.Itoa1
import Derived.Shelf.Strconv.Itoa2
import Derived.Shelf.Strconv.Itoa3
import Derived.Shelf.Strings.AsciiSet
import Derived.Shelf.Strings.Builder1
import Derived.Shelf.Strings.Builder2
import Derived.Shelf.Strings.Count
import Derived.Shelf.Strings.Cut
import Derived.Shelf.Strings.OnBuilder
import Derived.Shelf.Strings.Prefix
import Derived.Shelf.Strings.Replace
import Derived.Shelf.Strings.Runes
import Derived.Shelf.Strings.Search1
import Derived.Shelf.Strings.Search2
import Derived.Shelf.Strings.Search3
import Derived.Shelf.Strings.Shaped
import Derived.Shelf.Strings.Split
import Derived.Shelf.Strings.SplitShaped
import Derived.Shelf.Strings.Trim
import Derived.Shelf.Unicode.DecodeSlow
import Derived.Test.YtloamahbghjjgaaGreatDoorProg
import Derived.Test.YtloamahbghjjgaaGreatDoorRows
import Derived.WalkKit
import Derived.WalkLawsBesides
import Derived.WalkSmall
import Derived.WalkSpells
import Derived.Test.YtloamahbghjjgaaGreatDoorZgAA
import Derived.Test.YtloamahbghjjgaaGreatDoorZgAB
namespace Go.Proofs.YtloamahbghjjgaaGreatDoor.Dc

def val : List Int → Int
  | [] => 0
  | d :: l => d + 10 * val l
def Dig (l : List Int) : Prop := ∀ x, x ∈ l → 0 ≤ x ∧ x ≤ 9
def Cn (l : List Int) : Prop := ∀ x l', l = l' ++ [x] → x ≠ 0

theorem Dig.cons {d : Int} {l : List Int} (h : Dig (d :: l)) : (0 ≤ d ∧ d ≤ 9) ∧ Dig l := ⟨h d (by simp), fun x hx => h x (by simp [hx])⟩
theorem Dig.take {l : List Int} (h : Dig l) (n : Nat) : Dig (l.take n) := fun x hx => h x (List.mem_of_mem_take hx)
theorem Dig.getD {l : List Int} (h : Dig l) (i : Nat) : 0 ≤ l.getD i 0 ∧ l.getD i 0 ≤ 9 := by
  rw [List.getD_eq_getElem?_getD]
  rcases Nat.lt_or_ge i l.length with hi | hi
  · rw [List.getElem?_eq_getElem hi]; exact h _ (List.getElem_mem hi)
  · rw [List.getElem?_eq_none hi]; simp
theorem val_append (l m : List Int) : val (l ++ m) = val l + 10 ^ l.length * val m := by
  induction l with
  | nil => simp [val]
  | cons d l ih =>
    rw [List.cons_append, val, val, ih, List.length_cons, Int.pow_succ, Int.mul_add]
    rw [Int.mul_comm (10 ^ l.length) 10, Int.mul_assoc]; omega
theorem val_nonneg (l : List Int) (h : Dig l) : 0 ≤ val l := by
  induction l with
  | nil => simp [val]
  | cons d l ih => rw [val]; have := ih h.cons.2; have := h.cons.1; omega
theorem val_lt (l : List Int) (h : Dig l) : val l < 10 ^ l.length := by
  induction l with
  | nil => simp [val]
  | cons d l ih =>
    rw [val, List.length_cons, Int.pow_succ]
    have := ih h.cons.2; have := h.cons.1; omega
theorem val_take_succ (l : List Int) (k : Nat) : val (l.take (k + 1)) = val (l.take k) + 10 ^ k * l.getD k 0 := by
  rw [List.getD_eq_getElem?_getD]
  rcases Nat.lt_or_ge k l.length with hk | hk
  · rw [List.take_succ_eq_append_getElem hk, val_append, List.getElem?_eq_getElem hk, List.length_take, Nat.min_eq_left (by omega)]
    simp [val]
  · rw [List.getElem?_eq_none hk, List.take_of_length_le (by omega), List.take_of_length_le (by omega)]
    simp
theorem pow_pos (n : Nat) : (0 : Int) < 10 ^ n := Int.pow_pos (by omega)
theorem val_ge (l : List Int) (h : Dig l) (hc : Cn l) (hl : l ≠ []) : 10 ^ (l.length - 1) ≤ val l := by
  obtain ⟨l', x, rfl⟩ : ∃ l' x, l = l' ++ [x] := ⟨l.dropLast, l.getLast hl, (List.dropLast_concat_getLast hl).symm⟩
  have hx := hc x l' rfl
  have hx9 := h x (by simp)
  have hn := val_nonneg l' (fun y hy => h y (by simp [hy]))
  rw [val_append, List.length_append, List.length_singleton, Nat.add_sub_cancel]
  have hp := pow_pos l'.length
  have : (10 : Int) ^ l'.length * 1 ≤ 10 ^ l'.length * val [x] := Int.mul_le_mul_of_nonneg_left (by simp [val]; omega) (by omega)
  omega
end Go.Proofs.YtloamahbghjjgaaGreatDoor.Dc

namespace Go.Proofs.YtloamahbghjjgaaGreatDoor
open Go.RowKit

def Arr (w : World) (v : Value) (zs : List Int) : Prop :=
  (zs = [] ∧ ∃ ad cap, v = .slice ad 0 cap) ∨
    ∃ b o cap, v = .slice (some ⟨b, o, none⟩) zs.length cap ∧ zs.length ≤ cap ∧ b < w.heap.size ∧ ∀ i, i < zs.length → w.cell? ⟨b, o + i, none⟩ = some (.int .i64 (zs.getD i 0))
theorem Arr.below {w w' : World} {v : Value} {zs : List Int} {B : Nat} (h : Arr w v zs) (hB : w.heap.size ≤ B) (hb : Below B w w') : Arr w' v zs := by
  rcases h with h | ⟨b, o, cap, e, hc, hlt, hcell⟩
  · exact Or.inl h
  · exact Or.inr ⟨b, o, cap, e, hc, Nat.lt_of_lt_of_le hlt hb.size, fun i hi => by rw [hb.cell (p := ⟨b, o + i, none⟩) (Nat.lt_of_lt_of_le hlt hB)]; exact hcell i hi⟩

end Go.Proofs.YtloamahbghjjgaaGreatDoor

namespace Go.Proofs.YtloamahbghjjgaaGreatDoor
open Go.RowKit

structure Vl where
  kind : Int
  num : Int
  text : ByteArray
  tr : Bool
  fail : Int
def Vl.cells (v : Vl) : Array Value := #[.int .i64 v.kind, .int .i64 v.num, .string v.text, .bool v.tr, .int .i64 v.fail]
abbrev noText : ByteArray := ⟨#[]⟩
def vE (f : Int) : Vl := ⟨4, 0, noText, false, if f < 1 ∨ 8 < f then 3 else f⟩
def vN (n : Int) : Vl := if goodB n = true then ⟨1, n, noText, false, 0⟩ else vE 2
def vT (s : ByteArray) : Vl := if 255 < s.size then vE 3 else ⟨2, 0, s, false, 0⟩
def vB (b : Bool) : Vl := ⟨3, 0, noText, b, 0⟩
def vGood (v : Vl) : Bool :=
  if v.kind = 0 then (v.num == 0) && (v.text.toList == []) && !v.tr && (v.fail == 0)
  else if v.kind = 1 then goodB v.num && (v.text.toList == []) && !v.tr && (v.fail == 0)
  else if v.kind = 2 then (v.num == 0) && decide (v.text.size ≤ 255) && !v.tr && (v.fail == 0)
  else if v.kind = 3 then (v.num == 0) && (v.text.toList == []) && (v.fail == 0)
  else if v.kind = 4 then (v.num == 0) && (v.text.toList == []) && !v.tr && decide (1 ≤ v.fail) && decide (v.fail ≤ 8)
  else false
end Go.Proofs.YtloamahbghjjgaaGreatDoor

namespace Go.Proofs.YtloamahbghjjgaaGreatDoor
open Go.RowKit

def FiveAt (w : World) (B : Nat) (t : TypeId) (cs : Array Value) : Prop := w.heap[B]? = some (.cells cs t (0, 0)) ∧ cs.size = 5
theorem five_c {w : World} {B : Nat} {t : TypeId} {cs : Array Value} (h : FiveAt w B t cs) (i : Nat) (hi : i < 5) : ∃ x, w.cell? ⟨B, i, none⟩ = some x := by
  obtain ⟨h1, h2⟩ := h
  exact ⟨cs[i]'(by omega), by simp [World.cell?, h1, h2, hi]⟩
theorem five_f {w : World} {B : Nat} {t : TypeId} {cs : Array Value} (h : FiveAt w B t cs) (i : Nat) : w.frozen? ⟨B, i, none⟩ = false := by
  simp [World.frozen?, h.1]
theorem five_lt {w : World} {B : Nat} {t : TypeId} {cs : Array Value} (h : FiveAt w B t cs) : B < w.heap.size := by
  rcases Nat.lt_or_ge B w.heap.size with h1 | h1
  · exact h1
  · have := h.1; rw [Array.getElem?_eq_none h1] at this; cases this
theorem five_below {w w' : World} {B N : Nat} {t : TypeId} {cs : Array Value} (h : FiveAt w B t cs) (hb : Below N w w') (hB : B < N) : FiveAt w' B t cs := by
  exact ⟨by rw [hb.block B hB]; exact h.1, h.2⟩
theorem five_set {w : World} {B : Nat} {t : TypeId} {cs : Array Value} (h : FiveAt w B t cs) (a b c d e : Value) :
    FiveAt (((((w.setCell ⟨B, 0, none⟩ a).setCell ⟨B, 1, none⟩ b).setCell ⟨B, 2, none⟩ c).setCell ⟨B, 3, none⟩ d).setCell ⟨B, 4, none⟩ e) B t #[a, b, c, d, e] := by
  obtain ⟨h1, h2⟩ := h
  obtain ⟨l⟩ := cs
  obtain ⟨c0, c1, c2, c3, c4, rfl⟩ : ∃ c0 c1 c2 c3 c4, l = [c0, c1, c2, c3, c4] := by
    match l, h2 with
    | [x0, x1, x2, x3, x4], _ => exact ⟨x0, x1, x2, x3, x4, rfl⟩
  refine ⟨?_, rfl⟩
  rw [heap_setCell_same _ B 4 #[a, b, c, d, c4] t e (by
    rw [heap_setCell_same _ B 3 #[a, b, c, c3, c4] t d (by
      rw [heap_setCell_same _ B 2 #[a, b, c2, c3, c4] t c (by
        rw [heap_setCell_same _ B 1 #[a, c1, c2, c3, c4] t b (by
          rw [heap_setCell_same w B 0 #[c0, c1, c2, c3, c4] t a h1]; rfl)]; rfl)]; rfl)]; rfl)]
  rfl
theorem five_new (w : World) (t : TypeId) (a b c d e : Value) : FiveAt (w.alloc (.cells #[a, b, c, d, e] t)) w.heap.size t #[a, b, c, d, e] := ⟨heap_alloc_new _ _, rfl⟩
theorem below_five {N : Nat} {a w : World} (h : Below N a w) {B : Nat} (hB : N ≤ B) (x0 x1 x2 x3 x4 : Value) :
    Below N a (((((w.setCell ⟨B, 0, none⟩ x0).setCell ⟨B, 1, none⟩ x1).setCell ⟨B, 2, none⟩ x2).setCell ⟨B, 3, none⟩ x3).setCell ⟨B, 4, none⟩ x4) :=
  ((((h.setCell (p := ⟨B, 0, none⟩) hB _).setCell (p := ⟨B, 1, none⟩) hB _).setCell (p := ⟨B, 2, none⟩) hB _).setCell (p := ⟨B, 3, none⟩) hB _).setCell (p := ⟨B, 4, none⟩) hB _
theorem below_nx {w a b : World} (h : Below w.heap.size w a) (k : Below a.heap.size a b) : Below w.heap.size w b := h.trans (k.mono h.size)
theorem below_al (w : World) (o : Obj) : Below w.heap.size w (w.alloc o) := (Below.refl _ _).alloc (Nat.le_refl _) _
theorem below_al2 (w : World) (o p : Obj) : Below w.heap.size w ((w.alloc o).alloc p) := (below_al w o).alloc (by simp) _

end Go.Proofs.YtloamahbghjjgaaGreatDoor

namespace Go.Proofs.YtloamahbghjjgaaGreatDoor
open Go.RowKit

end Go.Proofs.YtloamahbghjjgaaGreatDoor

namespace Go.Proofs.YtloamahbghjjgaaGreatDoor
open Go.RowKit

def signL : List ByteArray := [⟨#[]⟩, ⟨#[35, 68, 73, 86, 47, 48, 33]⟩, ⟨#[35, 78, 85, 77, 33]⟩, ⟨#[35, 86, 65, 76, 85, 69, 33]⟩, ⟨#[35, 82, 69, 70, 33]⟩, ⟨#[35, 78, 65, 77, 69, 63]⟩, ⟨#[35, 78, 47, 65]⟩, ⟨#[35, 67, 89, 67, 76, 69, 33]⟩, ⟨#[35, 76, 73, 78, 75, 33]⟩]
def signV (f : Int) : ByteArray := if f < 1 ∨ 8 < f then noText else signL.getD f.toNat noText

end Go.Proofs.YtloamahbghjjgaaGreatDoor

namespace Go.Proofs.YtloamahbghjjgaaGreatDoor
open Go.RowKit

def upC (c : UInt8) : UInt8 := if 97 ≤ c.toNat ∧ c.toNat ≤ 122 then UInt8.ofNat (c.toNat - 32) else c
def mapB (f : UInt8 → UInt8) (s : ByteArray) : ByteArray := ⟨(s.data.toList.map f).toArray⟩
theorem mapB_size (f : UInt8 → UInt8) (s : ByteArray) : (mapB f s).size = s.size := by
  unfold mapB ByteArray.size; simp

def byteAt (s : ByteArray) (j : Nat) : UInt8 := s.data.toList.getD j 0
def TurnAt (f : UInt8 → UInt8) (s : ByteArray) (w : World) (B i : Nat) : Prop :=
  B < w.heap.size ∧ ∀ j, j < s.size → w.cell? ⟨B, j, none⟩ = some (.int .u8 (((if j < i then f (byteAt s j) else byteAt s j).toNat : Nat) : Int)) ∧ w.frozen? ⟨B, j, none⟩ = false
theorem turn_set {f : UInt8 → UInt8} {s : ByteArray} {w : World} {B i : Nat} (h : TurnAt f s w B i) (hi : i < s.size) : TurnAt f s (w.setCell ⟨B, i, none⟩ (.int .u8 ((f (byteAt s i)).toNat : Int))) B (i + 1) := by
  refine ⟨by simpa using h.1, fun j hj => ⟨?_, by rw [World.frozen?_setCell]; exact (h.2 j hj).2⟩⟩
  by_cases e : j = i
  · subst e
    rw [World.cell?_setCell_same _ _ _ (h.2 j hj).1, if_pos (by omega)]
  · rw [World.cell?_setCell_other _ _ _ _ (by intro hc; injection hc with _ h2; omega), (h.2 j hj).1]
    by_cases h1 : j < i
    · rw [if_pos h1, if_pos (by omega)]
    · rw [if_neg h1, if_neg (by omega)]
theorem turn_same {f : UInt8 → UInt8} {s : ByteArray} {w : World} {B i : Nat} (h : TurnAt f s w B i) (hf : f (byteAt s i) = byteAt s i) : TurnAt f s w B (i + 1) := by
  refine ⟨h.1, fun j hj => ⟨?_, (h.2 j hj).2⟩⟩
  rw [(h.2 j hj).1]
  by_cases e : j = i
  · subst e; rw [if_neg (by omega), if_pos (by omega), hf]
  · by_cases h1 : j < i
    · rw [if_pos h1, if_pos (by omega)]
    · rw [if_neg h1, if_neg (by omega)]
theorem turn_start (f : UInt8 → UInt8) (s : ByteArray) (w : World) (c : Nat) :
    TurnAt f s (w.drew.alloc (.cells (bytesRow s c) 5 ((bytesRow s c).size, (bytesRow s c).size + 1))) w.heap.size 0 := by
  have hh : (w.drew.alloc (.cells (bytesRow s c) 5 ((bytesRow s c).size, (bytesRow s c).size + 1))).heap[w.heap.size]? = some (.cells (bytesRow s c) 5 ((bytesRow s c).size, (bytesRow s c).size + 1)) := heap_alloc_new _ _
  refine ⟨by show w.heap.size < (w.heap.push _).size; simp, fun j hj => ⟨?_, ?_⟩⟩
  · rw [if_neg (by omega)]
    have h1 := bytesRow_at s c j hj
    simp only [World.cell?, hh]
    rw [if_neg (by simp), h1]
    unfold byteAt
    rw [List.getD_eq_getElem?_getD, List.getElem?_eq_getElem (by exact hj)]
    rfl
  · have h2 : s.size ≤ (bytesRow s c).size := by
      show s.data.size ≤ _
      unfold bytesRow
      rw [Array.size_append, Array.size_map]
      omega
    simp only [World.frozen?, hh]
    rw [Bool.and_eq_false_iff]
    exact Or.inl (decide_eq_false (by simp; omega))
theorem turn_end {f : UInt8 → UInt8} {s : ByteArray} {w : World} {B i : Nat} (h : TurnAt f s w B i) (hi : s.size ≤ i) (cap : Nat) :
    (convert 166 9 (.slice (some ⟨B, 0, none⟩) s.size cap)).run Tryz.prog w = .ok (.string (mapB f s)) w := by
  have e : (s.data.toList.map f).length = s.size := by rw [List.length_map]; rfl
  have := run_convert_bytes_back (P := Tryz.prog) w 166 9 5 ⟨B, 0, none⟩ cap (s.data.toList.map f) Tryz.underlying166 Tryz.underlying5 Tryz.underlying9 (fun j hj => by
    rw [e] at hj
    have := (h.2 j hj).1
    rw [if_pos (by omega)] at this
    rw [show (⟨B, 0, none⟩ : Addr).add j = ⟨B, j, none⟩ by simp [Addr.add]; omega]
    rw [this, List.getElem_map]
    unfold byteAt
    rw [List.getD_eq_getElem?_getD, List.getElem?_eq_getElem (by exact hj)]
    rfl)
  rw [e] at this
  exact this

end Go.Proofs.YtloamahbghjjgaaGreatDoor

namespace Go.Proofs.YtloamahbghjjgaaGreatDoor

structure Tk where
  kind : Int
  text : ByteArray
  num : Int
  fail : Int
  ref : Fl
  place : Int
def emp : ByteArray := ⟨#[]⟩
def zeroT : Tk := ⟨0, emp, 0, 0, zeroF, 0⟩
def Tk.put (t : Tk) (o : Int) : Tk := ⟨t.kind, t.text, t.num, t.fail, t.ref, o⟩
def isBl (c : UInt8) : Bool := c == 32
def inNumC (c : UInt8) : Bool := isDg c || c == 46
def runL : List UInt8 := [95, 36, 91, 93, 33, 58]
def headL : List UInt8 := [95, 36, 91]
def opL : List UInt8 := [43, 45, 42, 47, 94, 38, 61, 37, 60, 62]
def inRunC (c : UInt8) : Bool := (isLet c || isDg c) || runL.contains c
def headC (c : UInt8) : Bool := isLet c || headL.contains c
def opC (c : UInt8) : Bool := opL.contains c
abbrev Tok := Tk × Nat × Int
def badT (e : Int) : Tok := (zeroT, 0, e)
def numR (l : List UInt8) : List UInt8 := l.takeWhile inNumC
def numTok (l : List UInt8) : Tok := if (parseR (numR l)).2 = 0 then (⟨0, emp, (parseR (numR l)).1, 0, zeroF, 0⟩, (numR l).length, 0) else badT (parseR (numR l)).2
def qIn : List UInt8 → Option (List UInt8 × Nat)
  | [] => none
  | [c] => if c = 34 then some ([], 1) else none
  | c :: d :: l => if c = 34 then (if d = 34 then (qIn l).map (fun p => (34 :: p.1, p.2 + 2)) else some ([], 1)) else (qIn (d :: l)).map (fun p => (c :: p.1, p.2 + 1))
def textTok (l : List UInt8) : Tok :=
  match qIn l.tail with
  | none => badT 4
  | some p => if 255 < p.1.length then badT 7 else (⟨1, ⟨p.1.toArray⟩, 0, 0, zeroF, 0⟩, p.2 + 1, 0)
def sigL (f : Int) : List UInt8 := (signV f).data.toList
def failsL : List Int := [1, 2, 3, 4, 5, 6, 7, 8]
def failTok (l : List UInt8) : Tok :=
  match failsL.find? (fun f => (sigL f).isPrefixOf l) with
  | none => badT 4
  | some f => (⟨2, emp, 0, f, zeroF, 0⟩, (sigL f).length, 0)
def runR (l : List UInt8) : List UInt8 := l.takeWhile inRunC
def unbl (l : List UInt8) : List UInt8 := l.dropWhile isBl
def callB (l : List UInt8) : Bool := (unbl (l.dropWhile inRunC)).head? == some 40
def wordT (r : List UInt8) : Tk := ⟨4, ⟨(r.map upC).toArray⟩, 0, 0, zeroF, 0⟩
def nameTok (l : List UInt8) : Tok :=
  if (nameG (runR l) && callB l) = true then (wordT (runR l), (runR l).length, 0)
  else if (fullP (runR l)).2 = 0 then (⟨3, emp, 0, 0, (fullP (runR l)).1, 0⟩, (runR l).length, 0)
  else if (fullP (runR l)).2 = 4 ∧ nameG (runR l) = true then (wordT (runR l), (runR l).length, 0)
  else badT (fullP (runR l)).2
def twoB (l : List UInt8) : Bool :=
  match l with
  | c :: d :: _ => (d == 61 && (c == 60 || c == 62)) || (c == 60 && d == 62)
  | _ => false
def opN (l : List UInt8) : Nat := if twoB l = true then 2 else 1
def opTok (l : List UInt8) : Tok := (⟨5, ⟨(l.take (opN l)).toArray⟩, 0, 0, zeroF, 0⟩, opN l, 0)
def sgnT (k : Int) : Tok := (⟨k, emp, 0, 0, zeroF, 0⟩, 1, 0)
def tok1 (l : List UInt8) : Tok :=
  if isDg (l.headD 0) = true then numTok l
  else if headC (l.headD 0) = true then nameTok l
  else if opC (l.headD 0) = true then opTok l
  else if l.headD 0 = 34 then textTok l
  else if l.headD 0 = 35 then failTok l
  else if l.headD 0 = 40 then sgnT 6
  else if l.headD 0 = 41 then sgnT 7
  else if l.headD 0 = 44 then sgnT 8
  else badT 4
abbrev Lx := List Tk × Nat × Int
def preT (ts : List Tk) (x : Lx) : Lx := if x.2.2 = 0 then (ts ++ x.1, x.2.1, x.2.2) else ([], x.2.1, x.2.2)
def lexF : Nat → Nat → List UInt8 → Lx
  | _, _, [] => ([], 0, 0)
  | 0, _, _ :: _ => ([], 0, 0)
  | f + 1, o, c :: l => if c = 32 then lexF f (o + 1) l
    else if (tok1 (c :: l)).2.2 = 0 then preT [(tok1 (c :: l)).1.put o] (lexF f (o + 1 + ((tok1 (c :: l)).2.1 - 1)) (l.drop ((tok1 (c :: l)).2.1 - 1)))
    else ([], o, (tok1 (c :: l)).2.2)
def lexL (o : Nat) (l : List UInt8) : Lx := lexF l.length o l
def lexT (l : List UInt8) : Lx := if 512 < l.length then ([], 0, 7) else lexL 0 l
theorem lexF_nil (f o : Nat) : lexF f o [] = ([], 0, 0) := by cases f <;> rfl
theorem lexF_more : ∀ (f o : Nat) (l : List UInt8), l.length ≤ f → lexF f o l = lexF l.length o l
  | f, o, [], _ => by rw [lexF_nil, lexF_nil]
  | 0, o, c :: l, h => by simp at h
  | f + 1, o, c :: l, h => by
    have hl : l.length ≤ f := by simpa using h
    rw [List.length_cons, lexF, lexF, lexF_more f (o + 1) l hl]
    have hd : (l.drop ((tok1 (c :: l)).2.1 - 1)).length ≤ l.length := by rw [List.length_drop]; omega
    rw [lexF_more f _ _ (Nat.le_trans hd hl), lexF_more l.length _ _ hd]
theorem lexL_cons (o : Nat) (c : UInt8) (l : List UInt8) : lexL o (c :: l) = if c = 32 then lexL (o + 1) l
    else if (tok1 (c :: l)).2.2 = 0 then preT [(tok1 (c :: l)).1.put o] (lexL (o + 1 + ((tok1 (c :: l)).2.1 - 1)) (l.drop ((tok1 (c :: l)).2.1 - 1)))
    else ([], o, (tok1 (c :: l)).2.2) := by
  have hd : (l.drop ((tok1 (c :: l)).2.1 - 1)).length ≤ l.length := by rw [List.length_drop]; omega
  unfold lexL
  rw [List.length_cons, lexF, lexF_more l.length _ _ hd]
theorem lexL_nil (o : Nat) : lexL o [] = ([], 0, 0) := lexF_nil 0 o
theorem lexL_blank (o : Nat) (l : List UInt8) : lexL o (32 :: l) = lexL (o + 1) l := by rw [lexL_cons, if_pos rfl]
theorem preT_nil (x : Lx) (h : x.2.2 ≠ 0 → x.1 = []) : preT [] x = x := by
  obtain ⟨a, b, c⟩ := x
  unfold preT
  by_cases hc : c = 0
  · rw [if_pos hc]; simp
  · rw [if_neg hc]; rw [show a = [] from h hc]
theorem preT_pre (a b : List Tk) (x : Lx) : preT a (preT b x) = preT (a ++ b) x := by
  obtain ⟨x, p, e⟩ := x
  unfold preT
  by_cases hc : e = 0
  · simp [hc]
  · simp [hc]

theorem tk_len (p : UInt8 → Bool) (l : List UInt8) : (l.takeWhile p).length ≤ l.length := by
  induction l with
  | nil => simp
  | cons c l ih => rw [List.takeWhile_cons]; split <;> simp <;> omega
theorem tw_pos (p : UInt8 → Bool) (c : UInt8) (l : List UInt8) (h : p c = true) : 1 ≤ ((c :: l).takeWhile p).length := by
  rw [List.takeWhile_cons, if_pos h]; simp
theorem qIn_len : ∀ (l : List UInt8) (p : List UInt8 × Nat), qIn l = some p → 1 ≤ p.2 ∧ p.2 ≤ l.length ∧ p.1.length ≤ l.length
  | [], p, h => by rw [qIn] at h; cases h
  | [c], p, h => by
    rw [qIn] at h
    by_cases hc : c = 34
    · rw [if_pos hc] at h; cases h; simp
    · rw [if_neg hc] at h; cases h
  | c :: d :: l, p, h => by
    rw [qIn] at h
    by_cases hc : c = 34
    · rw [if_pos hc] at h
      by_cases hd : d = 34
      · rw [if_pos hd] at h
        cases hq : qIn l with
        | none => rw [hq] at h; cases h
        | some q =>
          rw [hq] at h
          cases h
          have := qIn_len l q hq
          simp; omega
      · rw [if_neg hd] at h; cases h; simp
    · rw [if_neg hc] at h
      cases hq : qIn (d :: l) with
      | none => rw [hq] at h; cases h
      | some q =>
        rw [hq] at h
        cases h
        have := qIn_len (d :: l) q hq
        simp only [List.length_cons] at this ⊢; omega
theorem prefix_len {a l : List UInt8} (h : a.isPrefixOf l = true) : a.length ≤ l.length := by
  have := List.isPrefixOf_iff_prefix.1 h
  exact this.length_le
theorem find_mem {l : List Int} {p : Int → Bool} {f : Int} (h : l.find? p = some f) : f ∈ l ∧ p f = true := ⟨List.mem_of_find?_eq_some h, List.find?_some h⟩
theorem sig_lens : ∀ f ∈ failsL, 1 ≤ (sigL f).length ∧ (sigL f).length ≤ 8 := by decide +kernel
theorem head_run (c : UInt8) (h : headC c = true) : inRunC c = true := by
  unfold headC at h
  unfold inRunC
  rw [Bool.or_eq_true] at h
  rcases h with h | h
  · rw [h]; rfl
  · have : runL.contains c = true := by
      unfold headL at h; unfold runL
      simp only [List.contains_cons, List.contains_nil, Bool.or_false, Bool.or_eq_true, beq_iff_eq] at h ⊢
      rcases h with h | h | h <;> simp [h]
    rw [this]; simp
theorem tok1_len (c : UInt8) (l : List UInt8) (h : (tok1 (c :: l)).2.2 = 0) : 1 ≤ (tok1 (c :: l)).2.1 ∧ (tok1 (c :: l)).2.1 ≤ l.length + 1 := by
  unfold tok1 at h ⊢
  rw [show (c :: l).headD 0 = c from rfl] at h ⊢
  by_cases h1 : isDg c = true
  · rw [if_pos h1] at h ⊢
    unfold numTok at h ⊢
    by_cases h0 : (parseR (numR (c :: l))).2 = 0
    · rw [if_pos h0]
      have a := tw_pos inNumC c l (by unfold inNumC; rw [h1]; rfl)
      have b := tk_len inNumC (c :: l)
      unfold numR
      simp only [List.length_cons] at b ⊢
      exact ⟨a, b⟩
    · rw [if_neg h0] at h; exact absurd h h0
  rw [if_neg h1] at h ⊢
  by_cases h2 : headC c = true
  · rw [if_pos h2] at h ⊢
    have a := tw_pos inRunC c l (head_run c h2)
    have b := tk_len inRunC (c :: l)
    have hr : 1 ≤ (runR (c :: l)).length ∧ (runR (c :: l)).length ≤ l.length + 1 := ⟨a, b⟩
    unfold nameTok at h ⊢
    by_cases q1 : (nameG (runR (c :: l)) && callB (c :: l)) = true
    · rw [if_pos q1]; exact hr
    rw [if_neg q1] at h ⊢
    by_cases q2 : (fullP (runR (c :: l))).2 = 0
    · rw [if_pos q2]; exact hr
    rw [if_neg q2] at h ⊢
    by_cases q3 : (fullP (runR (c :: l))).2 = 4 ∧ nameG (runR (c :: l)) = true
    · rw [if_pos q3]; exact hr
    rw [if_neg q3] at h
    exact absurd h q2
  rw [if_neg h2] at h ⊢
  by_cases h3 : opC c = true
  · rw [if_pos h3]
    show 1 ≤ opN (c :: l) ∧ opN (c :: l) ≤ l.length + 1
    unfold opN
    cases l with
    | nil => simp [twoB]
    | cons d l => split <;> simp
  rw [if_neg h3] at h ⊢
  by_cases h4 : c = 34
  · rw [if_pos h4] at h ⊢
    unfold textTok at h ⊢
    simp only [List.tail_cons] at h ⊢
    cases hq : qIn l with
    | none => rw [hq] at h; simp only [] at h; unfold badT at h; cases h
    | some p =>
      rw [hq] at h
      simp only [] at h ⊢
      have := qIn_len l p hq
      by_cases hl : 255 < p.1.length
      · rw [if_pos hl] at h; unfold badT at h; cases h
      · rw [if_neg hl]
        show 1 ≤ p.2 + 1 ∧ p.2 + 1 ≤ l.length + 1
        omega
  rw [if_neg h4] at h ⊢
  by_cases h5 : c = 35
  · rw [if_pos h5] at h ⊢
    unfold failTok at h ⊢
    cases hq : failsL.find? (fun f => (sigL f).isPrefixOf (c :: l)) with
    | none => rw [hq] at h; simp only [] at h; unfold badT at h; cases h
    | some f =>
      simp only []
      obtain ⟨hm, hp⟩ := find_mem hq
      have := sig_lens f hm
      have hl := prefix_len hp
      simp only [List.length_cons] at hl
      omega
  rw [if_neg h5] at h ⊢
  by_cases h6 : c = 40
  · rw [if_pos h6]; unfold sgnT; simp
  rw [if_neg h6] at h ⊢
  by_cases h7 : c = 41
  · rw [if_pos h7]; unfold sgnT; simp
  rw [if_neg h7] at h ⊢
  by_cases h8 : c = 44
  · rw [if_pos h8]; unfold sgnT; simp
  rw [if_neg h8] at h
  unfold badT at h; cases h
theorem lexL_ok (o : Nat) (c : UInt8) (l : List UInt8) (hc : c ≠ 32) (h : (tok1 (c :: l)).2.2 = 0) :
    lexL o (c :: l) = preT [(tok1 (c :: l)).1.put o] (lexL (o + (tok1 (c :: l)).2.1) ((c :: l).drop (tok1 (c :: l)).2.1)) := by
  have hn := tok1_len c l h
  rw [lexL_cons, if_neg hc, if_pos h]
  generalize (tok1 (c :: l)).2.1 = n at hn ⊢
  obtain ⟨m, rfl⟩ : ∃ m, n = m + 1 := ⟨n - 1, by omega⟩
  rw [show o + 1 + (m + 1 - 1) = o + (m + 1) by omega]
  rfl
theorem lexL_bad (o : Nat) (c : UInt8) (l : List UInt8) (hc : c ≠ 32) (h : (tok1 (c :: l)).2.2 ≠ 0) : lexL o (c :: l) = ([], o, (tok1 (c :: l)).2.2) := by
  rw [lexL_cons, if_neg hc, if_neg h]
theorem lex_ind {M : Nat → List UInt8 → Prop} (h0 : ∀ o, M o []) (h1 : ∀ o l, M (o + 1) l → M o (32 :: l)) (h2 : ∀ o c l, c ≠ 32 → (tok1 (c :: l)).2.2 ≠ 0 → M o (c :: l))
    (h3 : ∀ o c l, c ≠ 32 → (tok1 (c :: l)).2.2 = 0 → M (o + (tok1 (c :: l)).2.1) ((c :: l).drop (tok1 (c :: l)).2.1) → M o (c :: l)) : ∀ (k o : Nat) (l : List UInt8), l.length ≤ k → M o l
  | _, o, [], _ => h0 o
  | 0, _, _ :: _, h => by simp at h
  | k + 1, o, c :: l, h => by
    by_cases hc : c = 32
    · subst hc; exact h1 o l (lex_ind h0 h1 h2 h3 k (o + 1) l (by simpa using h))
    by_cases he : (tok1 (c :: l)).2.2 = 0
    · have hn := tok1_len c l he
      exact h3 o c l hc he (lex_ind h0 h1 h2 h3 k _ _ (by rw [List.length_drop]; simp only [List.length_cons] at h ⊢; omega))
    · exact h2 o c l hc he
theorem lex_all {M : Nat → List UInt8 → Prop} (h0 : ∀ o, M o []) (h1 : ∀ o l, M (o + 1) l → M o (32 :: l)) (h2 : ∀ o c l, c ≠ 32 → (tok1 (c :: l)).2.2 ≠ 0 → M o (c :: l))
    (h3 : ∀ o c l, c ≠ 32 → (tok1 (c :: l)).2.2 = 0 → M (o + (tok1 (c :: l)).2.1) ((c :: l).drop (tok1 (c :: l)).2.1) → M o (c :: l)) (o : Nat) (l : List UInt8) : M o l := lex_ind h0 h1 h2 h3 l.length o l (Nat.le_refl _)
theorem lexL_err (o : Nat) (l : List UInt8) : (lexL o l).2.2 ≠ 0 → (lexL o l).1 = [] := by
  refine lex_all (M := fun o l => (lexL o l).2.2 ≠ 0 → (lexL o l).1 = []) ?_ ?_ ?_ ?_ o l
  · intro o _; rw [lexL_nil]
  · intro o l ih; rw [lexL_blank]; exact ih
  · intro o c l hc he _; rw [lexL_bad o c l hc he]
  · intro o c l hc he ih h
    rw [lexL_ok o c l hc he] at h ⊢
    generalize lexL (o + (tok1 (c :: l)).2.1) ((c :: l).drop (tok1 (c :: l)).2.1) = x at ih h ⊢
    obtain ⟨a, b, e⟩ := x
    unfold preT at h ⊢
    by_cases hz : e = 0
    · simp [hz] at h
    · simp [hz]
theorem lexL_zero (o : Nat) (l : List UInt8) : (lexL o l).2.2 = 0 → (lexL o l).2.1 = 0 := by
  refine lex_all (M := fun o l => (lexL o l).2.2 = 0 → (lexL o l).2.1 = 0) ?_ ?_ ?_ ?_ o l
  · intro o _; rw [lexL_nil]
  · intro o l ih; rw [lexL_blank]; exact ih
  · intro o c l hc he h; rw [lexL_bad o c l hc he] at h; exact absurd h he
  · intro o c l hc he ih h
    rw [lexL_ok o c l hc he] at h ⊢
    generalize lexL (o + (tok1 (c :: l)).2.1) ((c :: l).drop (tok1 (c :: l)).2.1) = x at ih h ⊢
    obtain ⟨a, b, e⟩ := x
    unfold preT at h ⊢
    by_cases hz : e = 0
    · simp [hz]; exact ih hz
    · simp [hz] at h
theorem lexL_count (o : Nat) (l : List UInt8) : (lexL o l).1.length ≤ l.length := by
  refine lex_all (M := fun o l => (lexL o l).1.length ≤ l.length) ?_ ?_ ?_ ?_ o l
  · intro o; rw [lexL_nil]; simp
  · intro o l ih; rw [lexL_blank, List.length_cons]; omega
  · intro o c l hc he; rw [lexL_bad o c l hc he]; simp
  · intro o c l hc he ih
    have hn := tok1_len c l he
    rw [lexL_ok o c l hc he]
    rw [List.length_drop] at ih
    generalize lexL (o + (tok1 (c :: l)).2.1) ((c :: l).drop (tok1 (c :: l)).2.1) = x at ih ⊢
    obtain ⟨a, b, e⟩ := x
    unfold preT
    simp only [List.length_cons] at ih ⊢
    split
    · simp; omega
    · simp
end Go.Proofs.YtloamahbghjjgaaGreatDoor

namespace Go.Proofs.YtloamahbghjjgaaGreatDoor

theorem tw_stop (p : UInt8 → Bool) (x : List UInt8) (hx : x.takeWhile p = []) : ∀ l : List UInt8, (l ++ x).takeWhile p = l.takeWhile p ∧ (l ++ x).dropWhile p = l.dropWhile p ++ x
  | [] => by
    refine ⟨by simpa using hx, ?_⟩
    cases x with
    | nil => rfl
    | cons d y =>
      rw [List.takeWhile_cons] at hx
      by_cases hd : p d = true
      · rw [if_pos hd] at hx; cases hx
      · simp [hd]
  | c :: l => by
    obtain ⟨a, b⟩ := tw_stop p x hx l
    by_cases hc : p c = true
    · simp only [List.cons_append, List.takeWhile_cons, List.dropWhile_cons, hc, if_true, a, b]; exact ⟨trivial, trivial⟩
    · simp [hc]
def TailOk (x : List UInt8) : Prop := x.all isBl = true ∨ ∃ d y, x = d :: y ∧ (d = 44 ∨ d = 41 ∨ d = 43)
theorem tail_head {x : List UInt8} (h : TailOk x) : x = [] ∨ ∃ d y, x = d :: y ∧ (d = 32 ∨ d = 44 ∨ d = 41 ∨ d = 43) := by
  cases x with
  | nil => exact Or.inl rfl
  | cons d y =>
    right
    rcases h with h | ⟨z, u, hz, hd⟩
    · rw [List.all_cons, Bool.and_eq_true] at h
      exact ⟨d, y, rfl, Or.inl (by simpa [isBl] using h.1)⟩
    · cases hz; exact ⟨d, y, rfl, Or.inr hd⟩
theorem tail_tw (p : UInt8 → Bool) (h32 : p 32 = false) (h44 : p 44 = false) (h41 : p 41 = false) (h43 : p 43 = false) {x : List UInt8} (h : TailOk x) : x.takeWhile p = [] := by
  rcases tail_head h with rfl | ⟨d, y, rfl, rfl | rfl | rfl | rfl⟩
  · rfl
  · simp [h32]
  · simp [h44]
  · simp [h41]
  · simp [h43]
theorem unbl_bl : ∀ (x : List UInt8), x.all isBl = true → unbl x = []
  | [], _ => rfl
  | c :: l, h => by
    rw [List.all_cons, Bool.and_eq_true] at h
    unfold unbl
    rw [List.dropWhile_cons, if_pos h.1]
    exact unbl_bl l h.2
theorem unbl_app (x : List UInt8) : ∀ l : List UInt8, unbl (l ++ x) = if unbl l = [] then unbl x else unbl l ++ x
  | [] => by simp [unbl]
  | c :: l => by
    by_cases hc : isBl c = true
    · have := unbl_app x l
      unfold unbl at this ⊢
      rw [List.cons_append, List.dropWhile_cons, if_pos hc, List.dropWhile_cons, if_pos hc]
      exact this
    · unfold unbl
      rw [List.cons_append, List.dropWhile_cons, if_neg hc, List.dropWhile_cons, if_neg hc, if_neg (by simp)]
      rfl
theorem call_app (x : List UInt8) (h : TailOk x) (d : List UInt8) : ((unbl (d ++ x)).head? == some 40) = ((unbl d).head? == some 40) := by
  rw [unbl_app]
  by_cases hd : unbl d = []
  · rw [if_pos hd, hd]
    rcases h with h | ⟨d, y, rfl, rfl | rfl | rfl⟩
    · rw [unbl_bl x h]
    · rfl
    · rfl
    · rfl
  · rw [if_neg hd]
    cases hu : unbl d with
    | nil => exact absurd hu hd
    | cons a b => rfl
theorem qIn_bl : ∀ (x : List UInt8), x.all isBl = true → qIn x = none
  | [], _ => by rw [qIn]
  | [c], h => by
    rw [qIn, if_neg]
    rintro rfl
    simp [isBl] at h
  | c :: d :: l, h => by
    rw [List.all_cons, Bool.and_eq_true] at h
    have hc : c ≠ 34 := by
      rintro rfl
      simp [isBl] at h
    rw [qIn, if_neg hc, qIn_bl (d :: l) h.2]; rfl
theorem qIn_some (x : List UInt8) (h : TailOk x) : ∀ (l : List UInt8) (p : List UInt8 × Nat), qIn l = some p → qIn (l ++ x) = some p
  | [], p, hq => by rw [qIn] at hq; cases hq
  | [c], p, hq => by
    rw [qIn] at hq
    by_cases hc : c = 34
    · rw [if_pos hc] at hq
      rcases tail_head h with rfl | ⟨d, y, rfl, hd⟩
      · rw [List.append_nil, qIn, if_pos hc]; exact hq
      · have : d ≠ 34 := by rcases hd with rfl | rfl | rfl | rfl <;> decide
        rw [List.cons_append, List.nil_append, qIn, if_pos hc, if_neg this]; exact hq
    · rw [if_neg hc] at hq; cases hq
  | c :: d :: l, p, hq => by
    rw [qIn] at hq
    rw [List.cons_append, List.cons_append, qIn]
    by_cases hc : c = 34
    · rw [if_pos hc] at hq ⊢
      by_cases hd : d = 34
      · rw [if_pos hd] at hq ⊢
        cases hr : qIn l with
        | none => rw [hr] at hq; cases hq
        | some q => rw [qIn_some x h l q hr]; rw [hr] at hq; exact hq
      · rw [if_neg hd] at hq ⊢; exact hq
    · rw [if_neg hc] at hq ⊢
      cases hr : qIn (d :: l) with
      | none => rw [hr] at hq; cases hq
      | some q =>
        have := qIn_some x h (d :: l) q hr
        rw [List.cons_append] at this
        rw [this]; rw [hr] at hq; exact hq
theorem qIn_none (x : List UInt8) (h : x.all isBl = true) : ∀ (l : List UInt8), qIn l = none → qIn (l ++ x) = none
  | [], _ => qIn_bl x h
  | [c], hq => by
    rw [qIn] at hq
    by_cases hc : c = 34
    · rw [if_pos hc] at hq; cases hq
    · cases x with
      | nil => rw [List.append_nil, qIn, if_neg hc]
      | cons d y => rw [List.cons_append, List.nil_append, qIn, if_neg hc, qIn_bl (d :: y) h]; rfl
  | c :: d :: l, hq => by
    rw [qIn] at hq
    rw [List.cons_append, List.cons_append, qIn]
    by_cases hc : c = 34
    · rw [if_pos hc] at hq ⊢
      by_cases hd : d = 34
      · rw [if_pos hd] at hq ⊢
        cases hr : qIn l with
        | none => rw [qIn_none x h l hr]; rfl
        | some q => rw [hr] at hq; cases hq
      · rw [if_neg hd] at hq; cases hq
    · rw [if_neg hc] at hq ⊢
      cases hr : qIn (d :: l) with
      | none =>
        have := qIn_none x h (d :: l) hr
        rw [List.cons_append] at this
        rw [this]; rfl
      | some q => rw [hr] at hq; cases hq
theorem prefix_app (d : UInt8) (y : List UInt8) : ∀ (a l : List UInt8), d ∉ a → a.isPrefixOf (l ++ d :: y) = a.isPrefixOf l
  | [], _, _ => by simp
  | b :: a, [], h => by
    rw [List.nil_append]
    have hb : (b == d) = false := by
      rw [beq_eq_false_iff_ne]; rintro rfl; exact h (List.mem_cons_self)
    simp [List.isPrefixOf, hb]
  | b :: a, c :: l, h => by
    rw [List.cons_append]
    simp only [List.isPrefixOf]
    rw [prefix_app d y a l (fun hm => h (List.mem_cons_of_mem _ hm))]
theorem sig_no : ∀ f ∈ failsL, (32 : UInt8) ∉ sigL f ∧ (44 : UInt8) ∉ sigL f ∧ (41 : UInt8) ∉ sigL f ∧ (43 : UInt8) ∉ sigL f := by decide +kernel
theorem find_congr : ∀ (l : List Int) (p q : Int → Bool), (∀ f ∈ l, p f = q f) → l.find? p = l.find? q
  | [], _, _, _ => rfl
  | a :: l, p, q, h => by
    rw [List.find?_cons, List.find?_cons, h a List.mem_cons_self, find_congr l p q (fun f hf => h f (List.mem_cons_of_mem _ hf))]
theorem fail_app (x : List UInt8) (h : TailOk x) (l : List UInt8) : failTok (l ++ x) = failTok l := by
  unfold failTok
  rw [find_congr failsL (fun f => (sigL f).isPrefixOf (l ++ x)) (fun f => (sigL f).isPrefixOf l)]
  intro f hf
  rcases tail_head h with rfl | ⟨d, y, rfl, rfl | rfl | rfl | rfl⟩
  · rw [List.append_nil]
  · exact prefix_app _ _ _ _ (sig_no f hf).1
  · exact prefix_app _ _ _ _ (sig_no f hf).2.1
  · exact prefix_app _ _ _ _ (sig_no f hf).2.2.1
  · exact prefix_app _ _ _ _ (sig_no f hf).2.2.2
theorem num_app (x : List UInt8) (h : TailOk x) (l : List UInt8) : numTok (l ++ x) = numTok l := by
  have e : numR (l ++ x) = numR l := (tw_stop inNumC x (tail_tw inNumC (by decide) (by decide) (by decide) (by decide) h) l).1
  unfold numTok
  rw [e]
theorem name_app (x : List UInt8) (h : TailOk x) (l : List UInt8) : nameTok (l ++ x) = nameTok l := by
  obtain ⟨a, b⟩ := tw_stop inRunC x (tail_tw inRunC (by decide) (by decide) (by decide) (by decide) h) l
  have e : runR (l ++ x) = runR l := a
  have f : callB (l ++ x) = callB l := by
    unfold callB
    rw [b]
    exact call_app x h _
  unfold nameTok
  rw [e, f]
theorem op_app (x : List UInt8) (h : TailOk x) (c : UInt8) (l : List UInt8) : opTok (c :: l ++ x) = opTok (c :: l) := by
  have e : opN (c :: l ++ x) = opN (c :: l) := by
    unfold opN
    cases l with
    | nil =>
      rcases tail_head h with rfl | ⟨d, y, rfl, rfl | rfl | rfl | rfl⟩
      · rfl
      · simp [twoB]
      · simp [twoB]
      · simp [twoB]
      · simp [twoB]
    | cons d l => rfl
  unfold opTok
  rw [e, List.take_append_of_le_length]
  unfold opN
  cases l with
  | nil => simp [twoB]
  | cons d l => split <;> simp
theorem text_app (x : List UInt8) (h : TailOk x) (c : UInt8) (l : List UInt8) (ho : (textTok (c :: l)).2.2 = 0 ∨ x.all isBl = true) : textTok (c :: l ++ x) = textTok (c :: l) := by
  unfold textTok at ho ⊢
  rw [List.cons_append, List.tail_cons, List.tail_cons] at *
  cases hq : qIn l with
  | some p => rw [qIn_some x h l p hq]
  | none =>
    rw [hq] at ho
    rcases ho with ho | ho
    · simp only [] at ho; unfold badT at ho; cases ho
    · rw [qIn_none x ho l hq]
theorem tok_app (x : List UInt8) (h : TailOk x) (c : UInt8) (l : List UInt8) (ho : (tok1 (c :: l)).2.2 = 0 ∨ x.all isBl = true) : tok1 (c :: l ++ x) = tok1 (c :: l) := by
  unfold tok1 at ho ⊢
  rw [show (c :: l ++ x).headD 0 = c from rfl, show (c :: l).headD 0 = c from rfl] at *
  by_cases h1 : isDg c = true
  · rw [if_pos h1, if_pos h1]; exact num_app x h _
  rw [if_neg h1] at ho ⊢
  rw [if_neg h1]
  by_cases h2 : headC c = true
  · rw [if_pos h2, if_pos h2]; exact name_app x h _
  rw [if_neg h2] at ho ⊢
  rw [if_neg h2]
  by_cases h3 : opC c = true
  · rw [if_pos h3, if_pos h3]; exact op_app x h _ _
  rw [if_neg h3] at ho ⊢
  rw [if_neg h3]
  by_cases h4 : c = 34
  · rw [if_pos h4] at ho ⊢; rw [if_pos h4]; exact text_app x h _ _ ho
  rw [if_neg h4] at ho ⊢
  rw [if_neg h4]
  by_cases h5 : c = 35
  · rw [if_pos h5, if_pos h5]; exact fail_app x h _
  rw [if_neg h5, if_neg h5]
theorem pre_lex (ts us : List Tk) (p : Nat) : preT ts (us, p, 0) = (ts ++ us, p, 0) := by unfold preT; rw [if_pos rfl]
theorem lex_app (x : List UInt8) (h : TailOk x) (o : Nat) (l : List UInt8) : (lexL o l).2.2 = 0 → lexL o (l ++ x) = preT (lexL o l).1 (lexL (o + l.length) x) := by
  refine lex_all (M := fun o l => (lexL o l).2.2 = 0 → lexL o (l ++ x) = preT (lexL o l).1 (lexL (o + l.length) x)) ?_ ?_ ?_ ?_ o l
  · intro o _; rw [lexL_nil, List.nil_append]; exact (preT_nil _ (lexL_err _ _)).symm
  · intro o l ih h0
    rw [lexL_blank] at h0
    rw [List.cons_append, lexL_blank, lexL_blank, ih h0, List.length_cons, show o + 1 + l.length = o + (l.length + 1) by omega]
  · intro o c l hc he h0; rw [lexL_bad o c l hc he] at h0; exact absurd h0 he
  · intro o c l hc he ih h0
    have hn := tok1_len c l he
    have ht := tok_app x h c l (Or.inl he)
    rw [lexL_ok o c l hc he] at h0 ⊢
    rw [show c :: l ++ x = c :: (l ++ x) from rfl] at ht ⊢
    rw [lexL_ok o c (l ++ x) hc (by rw [ht]; exact he), ht]
    rw [show (c :: (l ++ x)).drop (tok1 (c :: l)).2.1 = (c :: l).drop (tok1 (c :: l)).2.1 ++ x by
      rw [← List.cons_append, List.drop_append_of_le_length (by simpa using hn.2)]]
    have e0 : (lexL (o + (tok1 (c :: l)).2.1) ((c :: l).drop (tok1 (c :: l)).2.1)).2.2 = 0 := by
      unfold preT at h0
      by_cases hz : (lexL (o + (tok1 (c :: l)).2.1) ((c :: l).drop (tok1 (c :: l)).2.1)).2.2 = 0
      · exact hz
      · rw [if_neg hz] at h0; exact absurd h0 hz
    rw [ih e0, preT_pre]
    have el : o + (tok1 (c :: l)).2.1 + ((c :: l).drop (tok1 (c :: l)).2.1).length = o + (c :: l).length := by
      rw [List.length_drop]; simp only [List.length_cons] at hn ⊢; omega
    rw [el]
    generalize lexL (o + (tok1 (c :: l)).2.1) ((c :: l).drop (tok1 (c :: l)).2.1) = y at e0 ⊢
    obtain ⟨a, b, e⟩ := y
    simp only [] at e0
    subst e0
    rw [pre_lex]
def shiftT (k : Nat) (t : Tk) : Tk := t.put (t.place + k)
def shiftX (k : Nat) (x : Lx) : Lx := (x.1.map (shiftT k), if x.2.2 = 0 then x.2.1 else x.2.1 + k, x.2.2)
theorem lex_shift (k : Nat) (o : Nat) (l : List UInt8) : lexL (o + k) l = shiftX k (lexL o l) := by
  refine lex_all (M := fun o l => lexL (o + k) l = shiftX k (lexL o l)) ?_ ?_ ?_ ?_ o l
  · intro o; rw [lexL_nil, lexL_nil]; rfl
  · intro o l ih; rw [lexL_blank, lexL_blank, ← ih, show o + k + 1 = o + 1 + k by omega]
  · intro o c l hc he; rw [lexL_bad _ c l hc he, lexL_bad _ c l hc he]; unfold shiftX; simp [he]
  · intro o c l hc he ih
    rw [lexL_ok _ c l hc he, lexL_ok _ c l hc he, show o + k + (tok1 (c :: l)).2.1 = o + (tok1 (c :: l)).2.1 + k by omega, ih]
    generalize lexL (o + (tok1 (c :: l)).2.1) ((c :: l).drop (tok1 (c :: l)).2.1) = y
    obtain ⟨a, b, e⟩ := y
    unfold shiftX preT
    by_cases hz : e = 0
    · simp [hz, shiftT, Tk.put]
    · simp [hz]
end Go.Proofs.YtloamahbghjjgaaGreatDoor

namespace Go.Proofs.YtloamahbghjjgaaGreatDoor

theorem tw_drop (p : UInt8 → Bool) : ∀ (l : List UInt8), l.drop (l.takeWhile p).length = l.dropWhile p
  | [] => rfl
  | c :: l => by
    by_cases h : p c = true
    · rw [List.takeWhile_cons, if_pos h, List.dropWhile_cons, if_pos h, List.length_cons, List.drop_succ_cons, tw_drop p l]
    · rw [List.takeWhile_cons, if_neg h, List.dropWhile_cons, if_neg h]; rfl
end Go.Proofs.YtloamahbghjjgaaGreatDoor

namespace Go.Proofs.YtloamahbghjjgaaGreatDoor

theorem rep_skip (old new : List UInt8) (c : UInt8) (s : List UInt8) (k : Nat) (h : old.isPrefixOf (c :: s) = false) : Lib.replaceK old new k (c :: s) = c :: Lib.replaceK old new k s := by
  have hi : Lib.index (c :: s) old = if Lib.index s old == -1 then -1 else Lib.index s old + 1 := by
    rw [Lib.index, h]; rfl
  cases k with
  | zero => rfl
  | succ k =>
    have hge := Lib.index_ge s old
    by_cases hm : Lib.index s old = -1
    · have e1 : Lib.index (c :: s) old = -1 := by rw [hi, hm]; rfl
      rw [Lib.replaceK, e1, Lib.replaceK, hm]; rfl
    · have hb : (Lib.index s old == -1) = false := by simpa using hm
      obtain ⟨i, e0⟩ : ∃ i : Nat, Lib.index s old = i := ⟨(Lib.index s old).toNat, by omega⟩
      have e1 : Lib.index (c :: s) old = ((i + 1 : Nat) : Int) := by rw [hi, hb, e0]; simp
      rw [Lib.replaceK_hit old new k (c :: s) (i + 1) e1, Lib.replaceK_hit old new k s i e0]
      rw [List.take_succ_cons, show i + 1 + old.length = (i + old.length) + 1 by omega, List.drop_succ_cons]
      rfl
theorem index_zero (old s : List UInt8) (c : UInt8) (h : old.isPrefixOf (c :: s) = true) : Lib.index (c :: s) old = ((0 : Nat) : Int) := by
  rw [Lib.index, h]; rfl
theorem rep_hit (old new : List UInt8) (c : UInt8) (s : List UInt8) (k : Nat) (h : old.isPrefixOf (c :: s) = true) : Lib.replaceK old new (k + 1) (c :: s) = new ++ Lib.replaceK old new k ((c :: s).drop old.length) := by
  rw [Lib.replaceK_hit old new k (c :: s) 0 (index_zero old s c h), List.take_zero, List.nil_append, Nat.zero_add]
theorem cnt_skip (old : List UInt8) (c : UInt8) (s : List UInt8) (ho : old ≠ []) (h : old.isPrefixOf (c :: s) = false) : Lib.count (c :: s) old = Lib.count s old := by
  have hi : Lib.index (c :: s) old = if Lib.index s old == -1 then -1 else Lib.index s old + 1 := by
    rw [Lib.index, h]; rfl
  have hge := Lib.index_ge s old
  by_cases hm : Lib.index s old = -1
  · have e1 : Lib.index (c :: s) old = -1 := by rw [hi, hm]; rfl
    rw [Lib.count_miss e1, Lib.count_miss hm]
  · have hb : (Lib.index s old == -1) = false := by simpa using hm
    obtain ⟨i, e0⟩ : ∃ i : Nat, Lib.index s old = i := ⟨(Lib.index s old).toNat, by omega⟩
    have e1 : Lib.index (c :: s) old = ((i + 1 : Nat) : Int) := by rw [hi, hb, e0]; simp
    rw [Lib.count_hit ho e1, Lib.count_hit ho e0]
    rw [show i + 1 + old.length = (i + old.length) + 1 by omega, List.drop_succ_cons]
theorem cnt_hit (old : List UInt8) (c : UInt8) (s : List UInt8) (ho : old ≠ []) (h : old.isPrefixOf (c :: s) = true) : Lib.count (c :: s) old = Lib.count ((c :: s).drop old.length) old + 1 := by
  rw [Lib.count_hit ho (index_zero old s c h), Nat.zero_add, Nat.add_comm]
theorem rep_all (s old new : List UInt8) (h : (old == new) = false) : Lib.replaceAll s old new = Lib.replaceK old new (Lib.count s old) s := by
  unfold Lib.replaceAll Lib.replace Lib.replaceNum
  rw [h, if_neg (by simp), if_pos (Or.inl (by decide))]
def sqz : List UInt8 → List UInt8
  | [] => []
  | [c] => [c]
  | c :: d :: l => if c = 34 ∧ d = 34 then 34 :: sqz l else c :: sqz (d :: l)
theorem rep_sqz : ∀ (s : List UInt8), Lib.replaceK [34, 34] [34] (Lib.count s [34, 34]) s = sqz s
  | [] => by decide
  | [c] => by
    have h : ([34, 34] : List UInt8).isPrefixOf [c] = false := by simp [List.isPrefixOf]
    rw [cnt_skip _ c [] (by simp) h, rep_skip _ _ c [] _ h, rep_sqz [], sqz, sqz]
  | c :: d :: l => by
    rw [sqz]
    by_cases hc : c = 34 ∧ d = 34
    · obtain ⟨rfl, rfl⟩ := hc
      have h : ([34, 34] : List UInt8).isPrefixOf (34 :: 34 :: l) = true := by simp [List.isPrefixOf]
      rw [cnt_hit _ 34 (34 :: l) (by simp) h, rep_hit _ _ 34 (34 :: l) _ h, if_pos ⟨rfl, rfl⟩]
      rw [show (34 :: 34 :: l).drop ([34, 34] : List UInt8).length = l from rfl, rep_sqz l]
      rfl
    · have h : ([34, 34] : List UInt8).isPrefixOf (c :: d :: l) = false := by
        rw [← Bool.not_eq_true]
        intro e
        apply hc
        simp only [List.isPrefixOf, Bool.and_eq_true, beq_iff_eq] at e
        exact ⟨e.1.symm, e.2.1.symm⟩
      rw [cnt_skip _ c (d :: l) (by simp) h, rep_skip _ _ c (d :: l) _ h, if_neg hc, rep_sqz (d :: l)]
theorem all_sqz (s : List UInt8) : Lib.replaceAll s [34, 34] [34] = sqz s := by rw [rep_all _ _ _ (by decide), rep_sqz]
theorem q_sqz : ∀ (l : List UInt8) (p : List UInt8 × Nat), qIn l = some p → sqz (l.take (p.2 - 1)) = p.1
  | [], p, h => by rw [qIn] at h; cases h
  | [c], p, h => by
    rw [qIn] at h
    by_cases hc : c = 34
    · rw [if_pos hc] at h; cases h; rfl
    · rw [if_neg hc] at h; cases h
  | c :: d :: l, p, h => by
    rw [qIn] at h
    by_cases hc : c = 34
    · rw [if_pos hc] at h
      by_cases hd : d = 34
      · rw [if_pos hd] at h
        cases hq : qIn l with
        | none => rw [hq] at h; cases h
        | some q =>
          rw [hq] at h
          cases h
          have ih := q_sqz l q hq
          have hn := (qIn_len l q hq).1
          show sqz ((c :: d :: l).take (q.2 + 2 - 1)) = 34 :: q.1
          rw [show q.2 + 2 - 1 = (q.2 - 1) + 1 + 1 by omega, List.take_succ_cons, List.take_succ_cons, sqz, if_pos ⟨hc, hd⟩, ih]
      · rw [if_neg hd] at h; cases h; rfl
    · rw [if_neg hc] at h
      cases hq : qIn (d :: l) with
      | none => rw [hq] at h; cases h
      | some q =>
        rw [hq] at h
        cases h
        have ih := q_sqz (d :: l) q hq
        have hn := (qIn_len (d :: l) q hq).1
        show sqz ((c :: d :: l).take (q.2 + 1 - 1)) = c :: q.1
        by_cases h1 : q.2 = 1
        · rw [h1] at ih ⊢
          show sqz [c] = c :: q.1
          rw [sqz, ← ih]; rfl
        · obtain ⟨m, hm⟩ : ∃ m, q.2 = m + 2 := ⟨q.2 - 2, by omega⟩
          rw [hm] at ih ⊢
          rw [show m + 2 - 1 = m + 1 by omega, List.take_succ_cons] at ih
          rw [show m + 2 + 1 - 1 = m + 1 + 1 by omega, List.take_succ_cons, List.take_succ_cons, sqz, if_neg (fun e => hc e.1), ih]
theorem q_two (l : List UInt8) (k : Nat) (h : (l.drop k).take 2 = [34, 34]) : qIn (l.drop k) = (qIn (l.drop (k + 2))).map (fun p => (34 :: p.1, p.2 + 2)) := by
  have e : l.drop (k + 2) = (l.drop k).drop 2 := by rw [List.drop_drop]
  rw [e]
  generalize l.drop k = m at h ⊢
  match m, h with
  | [], h => simp at h
  | [c], h => simp at h
  | c :: d :: m, h =>
    simp only [List.take_succ_cons, List.take_zero, List.cons.injEq, and_true] at h
    obtain ⟨rfl, rfl⟩ := h
    rw [qIn, if_pos rfl, if_pos rfl]; rfl
theorem q_end (l : List UInt8) (k : Nat) (h0 : (l.drop k).head? = some 34) (h : (l.drop k).take 2 ≠ [34, 34]) : qIn (l.drop k) = some ([], 1) := by
  generalize l.drop k = m at h h0 ⊢
  match m, h, h0 with
  | [], _, h0 => simp at h0
  | [c], _, h0 =>
    rw [List.head?_cons] at h0
    cases h0
    rw [qIn, if_pos rfl]
  | c :: d :: m, h, h0 =>
    rw [List.head?_cons] at h0
    cases h0
    have hd : d ≠ 34 := by rintro rfl; exact h rfl
    rw [qIn, if_pos rfl, if_neg hd]
theorem q_on (l : List UInt8) (k : Nat) (c : UInt8) (h0 : (l.drop k).head? = some c) (hc : c ≠ 34) : qIn (l.drop k) = (qIn (l.drop (k + 1))).map (fun p => (c :: p.1, p.2 + 1)) := by
  have e : l.drop (k + 1) = (l.drop k).drop 1 := by rw [List.drop_drop]
  rw [e]
  generalize l.drop k = m at h0 ⊢
  match m, h0 with
  | [], h0 => simp at h0
  | [d], h0 =>
    rw [List.head?_cons] at h0
    cases h0
    rw [qIn, if_neg hc, show ([c].drop 1 : List UInt8) = [] from rfl, qIn]; rfl
  | d :: b :: m, h0 =>
    rw [List.head?_cons] at h0
    cases h0
    rw [qIn, if_neg hc]; rfl
theorem q_stop (l : List UInt8) (k : Nat) (h : l.length ≤ k) : qIn (l.drop k) = none := by
  rw [List.drop_of_length_le h, qIn]
def QRel (l : List UInt8) (k : Nat) : Prop := (qIn l.tail).map (·.2) = (qIn (l.drop k)).map (fun p => p.2 + (k - 1))
theorem QRel.first (l : List UInt8) : QRel l 1 := by
  unfold QRel
  rw [show l.drop 1 = l.tail by cases l <;> rfl]
  cases qIn l.tail <;> rfl
theorem QRel.two {l : List UInt8} {k : Nat} (h : QRel l k) (h1 : 1 ≤ k) (h2 : (l.drop k).take 2 = [34, 34]) : QRel l (k + 2) := by
  unfold QRel at h ⊢
  rw [h, q_two l k h2]
  cases qIn (l.drop (k + 2)) with
  | none => rfl
  | some p => simp only [Option.map_some]; congr 1; omega
theorem QRel.on {l : List UInt8} {k : Nat} (h : QRel l k) (h1 : 1 ≤ k) (c : UInt8) (h0 : (l.drop k).head? = some c) (hc : c ≠ 34) : QRel l (k + 1) := by
  unfold QRel at h ⊢
  rw [h, q_on l k c h0 hc]
  cases qIn (l.drop (k + 1)) with
  | none => rfl
  | some p => simp only [Option.map_some]; congr 1; omega
theorem QRel.stop {l : List UInt8} {k : Nat} (h : QRel l k) (h1 : 1 ≤ k) (h0 : (l.drop k).head? = some 34) (h2 : (l.drop k).take 2 ≠ [34, 34]) : (qIn l.tail).map (·.2) = some k := by
  unfold QRel at h
  rw [h, q_end l k h0 h2]
  simp only [Option.map_some]; congr 1; omega
theorem QRel.none {l : List UInt8} {k : Nat} (h : QRel l k) (h0 : l.length ≤ k) : (qIn l.tail).map (·.2) = Option.none := by
  unfold QRel at h
  rw [h, q_stop l k h0]; rfl
end Go.Proofs.YtloamahbghjjgaaGreatDoor
