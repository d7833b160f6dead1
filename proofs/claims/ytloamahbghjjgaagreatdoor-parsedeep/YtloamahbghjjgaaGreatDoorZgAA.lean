/- Plain: cells, areas, names and references of layer 4, as the document has them. -/
import Derived.Lib.Atoi
import Derived.Lib.BitFns
import Derived.Lib.CutLaws
import Derived.Lib.IndexMore
import Derived.Lib.ItoaNum
import Derived.Shelf.Bits.Mul64
import Derived.Shelf.LaysM
import Derived.Shelf.Small.Bits
import Derived.Shelf.Small.Strs
import Derived.Shelf.Small.Utf8
import Derived.Shelf.Small.Wraps
import Derived.Shelf.Strconv.Atoi
import Derived.Shelf.Strconv.Itoa0
import Derived.Shelf.Strconv.Itoa1
import Derived.Shelf.Strconv.Itoa2
import Derived.Shelf.Strconv.Itoa3
import Derived.Shelf.Strings.AsciiSet
import Derived.Shelf.Strings.Builder1
import Derived.Shelf.Strings.Builder2
import Derived.Shelf.Strings.Count
import Derived.Shelf.Strings.Cut
import Derived.Shelf.Strings.OnBuilder
import Derived.Shelf.Strings.Prefix
import Derived.Shelf.Strings.Replace
import Derived.Shelf.Strings.Runes
import Derived.Shelf.Strings.Search1
import Derived.Shelf.Strings.Search2
import Derived.Shelf.Strings.Search3
import Derived.Shelf.Strings.Shaped
import Derived.Shelf.Strings.Split
import Derived.Shelf.Strings.SplitShaped
import Derived.Shelf.Strings.Trim
import Derived.Shelf.Unicode.DecodeSlow
import Derived.Test.YtloamahbghjjgaaGreatDoorProg
import Derived.Test.YtloamahbghjjgaaGreatDoorRows
import Derived.WalkKit
import Derived.WalkLawsBesides
import Derived.WalkSpells
namespace Go.Proofs.YtloamahbghjjgaaGreatDoor

structure Rf where
  col : Int
  row : Int
  fc : Bool
  fr : Bool
structure Fl where
  book : ByteArray
  sheet : ByteArray
  a : Rf
  b : Rf
  wide : Bool
def zeroR : Rf := ⟨0, 0, false, false⟩
def zeroF : Fl := ⟨⟨#[]⟩, ⟨#[]⟩, zeroR, zeroR, false⟩
def cellG (c r : Int) : Bool := decide (0 ≤ c) && decide (c < 64) && decide (0 ≤ r) && decide (r < 1024)
def areaC (a b c d : Int) : Int := (c - a + 1) * (d - b + 1)
def areaG (a b c d : Int) : Bool := cellG a b && cellG c d && decide (a ≤ c) && decide (b ≤ d) && decide (areaC a b c d ≤ 4096)
def isLet (c : UInt8) : Bool := (decide (65 ≤ c.toNat) && decide (c.toNat ≤ 90)) || (decide (97 ≤ c.toNat) && decide (c.toNat ≤ 122))
def isDg (c : UInt8) : Bool := decide (48 ≤ c.toNat) && decide (c.toNat ≤ 57)
def inNm (c : UInt8) : Bool := isLet c || isDg c || c == 95
def nameG (l : List UInt8) : Bool := decide (1 ≤ l.length) && decide (l.length ≤ 16) && !(isDg (l.headD 0)) && l.all inNm
def goodF (f : Fl) : Bool :=
  (f.sheet.data.toList.isEmpty || nameG f.sheet.data.toList) && (f.book.data.toList.isEmpty || (!f.sheet.data.toList.isEmpty && nameG f.book.data.toList)) &&
    (if f.wide = true then areaG f.a.col f.a.row f.b.col f.b.row else (f.b.col == 0 && f.b.row == 0 && !f.b.fc && !f.b.fr) && cellG f.a.col f.a.row)
def colT (n : Nat) : List UInt8 := if n < 26 then [UInt8.ofNat (65 + n)] else [UInt8.ofNat (64 + n / 26), UInt8.ofNat (65 + n % 26)]
def dlr (b : Bool) : List UInt8 := if b = true then [36] else []
def dgC (k : Nat) : UInt8 := UInt8.ofNat (48 + k)
def dgT (n : Nat) : List UInt8 :=
  if n < 10 then [dgC n] else if n < 100 then [dgC (n / 10), dgC (n % 10)] else if n < 1000 then [dgC (n / 100), dgC (n / 10 % 10), dgC (n % 10)]
  else [dgC (n / 1000), dgC (n / 100 % 10), dgC (n / 10 % 10), dgC (n % 10)]
def refT (r : Rf) : List UInt8 := if cellG r.col r.row = true then dlr r.fc ++ colT r.col.toNat ++ dlr r.fr ++ dgT (r.row.toNat + 1) else []
def bookT (l : List UInt8) : List UInt8 := if l.isEmpty = true then [] else 91 :: (l ++ [93])
def sheetT (l : List UInt8) : List UInt8 := if l.isEmpty = true then [] else l ++ [33]
def fullT (f : Fl) : List UInt8 :=
  if goodF f = true then bookT f.book.data.toList ++ (sheetT f.sheet.data.toList ++ (refT f.a ++ (if f.wide = true then 58 :: refT f.b else []))) else []
def upL (c : UInt8) : UInt8 := if 97 ≤ c.toNat ∧ c.toNat ≤ 122 then UInt8.ofNat (c.toNat - 32) else c
def colV (l : List UInt8) : Nat := l.foldl (fun n c => n * 26 + ((upL c).toNat - 65) + 1) 0
def rowV (l : List UInt8) : Nat := l.foldl (fun n c => n * 10 + (c.toNat - 48)) 0
def dolB (l : List UInt8) : Bool := l.head? == some 36
def dolR (l : List UInt8) : List UInt8 := if dolB l = true then l.tail else l
def letsL (l : List UInt8) : List UInt8 := (dolR l).takeWhile isLet
def restL (l : List UInt8) : List UInt8 := (dolR l).dropWhile isLet
def ref1B (l : List UInt8) : Bool :=
  decide (1 ≤ (letsL l).length) && decide ((letsL l).length ≤ 3) && decide (1 ≤ (dolR (restL l)).length) && decide ((dolR (restL l)).length ≤ 5) && !((dolR (restL l)).headD 0 == 48) && (dolR (restL l)).all isDg
def ref1V (l : List UInt8) : Rf := ⟨(colV (letsL l) : Int) - 1, (rowV (dolR (restL l)) : Int) - 1, dolB l, dolB (restL l)⟩
def cornA (a b : Rf) : Rf := ⟨if b.col < a.col then b.col else a.col, if b.row < a.row then b.row else a.row, if b.col < a.col then b.fc else a.fc, if b.row < a.row then b.fr else a.fr⟩
def cornB (a b : Rf) : Rf := ⟨if b.col < a.col then a.col else b.col, if b.row < a.row then a.row else b.row, if b.col < a.col then a.fc else b.fc, if b.row < a.row then a.fr else b.fr⟩
def bkB (l : List UInt8) : Bool := l.head? == some 91
def bkC (l : List UInt8) : List UInt8 × List UInt8 × Bool := Lib.cut l.tail [93]
def bkOk (l : List UInt8) : Bool := !(bkB l) || ((bkC l).2.2 && nameG (bkC l).1)
def bkR (l : List UInt8) : List UInt8 := if bkB l = true then (bkC l).2.1 else l
def shC (l : List UInt8) : List UInt8 × List UInt8 × Bool := Lib.cut (bkR l) [33]
def shOk (l : List UInt8) : Bool := if (shC l).2.2 = true then nameG (shC l).1 else !(bkB l)
def partOk (l : List UInt8) : Bool := bkOk l && shOk l
def partB (l : List UInt8) : List UInt8 := if bkB l = true then (bkC l).1 else []
def partS (l : List UInt8) : List UInt8 := if (shC l).2.2 = true then (shC l).1 else []
def partP (l : List UInt8) : List UInt8 := if (shC l).2.2 = true then (shC l).2.1 else bkR l
def plC (l : List UInt8) : List UInt8 × List UInt8 × Bool := Lib.cut (partP l) [58]
def formOk (l : List UInt8) : Bool := partOk l && (ref1B (plC l).1 && (!(plC l).2.2 || ref1B (plC l).2.1))
def formF (l : List UInt8) : Fl := ⟨⟨(partB l).toArray⟩, ⟨(partS l).toArray⟩, ref1V (plC l).1, if (plC l).2.2 = true then ref1V (plC l).2.1 else zeroR, (plC l).2.2⟩
def turnF (f : Fl) : Fl := if f.wide = true then ⟨f.book, f.sheet, cornA f.a f.b, cornB f.a f.b, f.wide⟩ else f
def fullP (l : List UInt8) : Fl × Int :=
  if formOk l = true then
    if (cellG (formF l).a.col (formF l).a.row && cellG (formF l).b.col (formF l).b.row) = true then
      if goodF (turnF (formF l)) = true then (turnF (formF l), 0) else (zeroF, 7)
    else (zeroF, 3)
  else (zeroF, 4)
theorem dec_dg (n : Nat) (h : n < 10000) : Lib.decDigits n = dgT n := by
  unfold dgT
  by_cases h1 : n < 10
  · rw [if_pos h1, Lib.decDigits, dif_pos h1]; rfl
  · rw [if_neg h1, Lib.decDigits, dif_neg h1]
    by_cases h2 : n < 100
    · rw [if_pos h2, Lib.decDigits, dif_pos (by omega)]; rfl
    · rw [if_neg h2, Lib.decDigits, dif_neg (by omega)]
      by_cases h3 : n < 1000
      · rw [if_pos h3, Lib.decDigits, dif_pos (by omega), show n / 10 / 10 = n / 100 by omega]; rfl
      · rw [if_neg h3, Lib.decDigits, dif_neg (by omega), Lib.decDigits, dif_pos (by omega), show n / 10 / 10 / 10 = n / 1000 by omega, show n / 10 / 10 = n / 100 by omega]; rfl
theorem cellG_iff (c r : Int) : cellG c r = true ↔ 0 ≤ c ∧ c < 64 ∧ 0 ≤ r ∧ r < 1024 := by
  unfold cellG; simp [and_assoc]
end Go.Proofs.YtloamahbghjjgaaGreatDoor

namespace Go.Proofs.YtloamahbghjjgaaGreatDoor

theorem refT_good (r : Rf) (h : cellG r.col r.row = true) : refT r = dlr r.fc ++ colT r.col.toNat ++ dlr r.fr ++ dgT (r.row.toNat + 1) := by
  unfold refT; rw [if_pos h]
theorem areaG_iff (a b c d : Int) : areaG a b c d = true ↔ cellG a b = true ∧ cellG c d = true ∧ a ≤ c ∧ b ≤ d ∧ areaC a b c d ≤ 4096 := by
  unfold areaG; simp [and_assoc]
end Go.Proofs.YtloamahbghjjgaaGreatDoor

namespace Go.Proofs.YtloamahbghjjgaaGreatDoor
open Go.RowKit

def goodB (a : Int) : Bool := decide (-9000000000000000000 ≤ a) && decide (a ≤ 9000000000000000000)
theorem goodB_iff (a : Int) : goodB a = true ↔ -9000000000000000000 ≤ a ∧ a ≤ 9000000000000000000 := by
  unfold goodB; simp
theorem goodB_not (a : Int) : goodB a = false ↔ a < -9000000000000000000 ∨ 9000000000000000000 < a := by
  rw [← Bool.not_eq_true, goodB_iff]; omega
theorem hide {p : Prop} (h : p) : Hid p := h
theorem unhide {p : Prop} (h : Hid p) : p := h
theorem ret_ne {k k' : IntKind} {a b c d : Int} (h : a = b) (h' : c = d) : Ending.returned (.tuple #[.int k a, .int k' c]) = .returned (.tuple #[.int k b, .int k' d]) := by rw [h, h']

def sgnN (b : Bool) (p : Int) : Int := if 9000000000000000000 < p then 0 else if b then -p else p
def sgnE (p : Int) : Int := if 9000000000000000000 < p then 5 else 0

set_option maxHeartbeats 400000 in
theorem signed_any (b : Bool) (p : Int) (w : World) (h1 : 0 ≤ p) (h2 : p ≤ 18446744073709551615) :
    Calls Tryz.prog 183 #[.bool b, .int .u64 p] w fun e w' => e = .returned (.tuple #[.int .i64 (sgnN b p), .int .i64 (sgnE p)]) ∧ w' = w := by
  unfold sgnN sgnE
  by_cases h : 9000000000000000000 < p
  · rw [if_pos h, if_pos h]
    go_enter Tryz.func183, Tryz.ntmps183
    go_wp2
    go_ret2
    exact ⟨rfl, rfl⟩
  · rw [if_neg h, if_neg h]
    cases b
    · go_enter Tryz.func183, Tryz.ntmps183
      go_wp2
      go_ret2
      exact ⟨rfl, rfl⟩
    · go_enter Tryz.func183, Tryz.ntmps183
      go_wp2
      go_ret2
      exact ⟨rfl, rfl⟩

set_option maxHeartbeats 400000 in
theorem good_any (b off len cap : Nat) (zs : List Int) (w : World) (hl : zs.length = len) (hm : len ≤ 1000000)
    (hc : ∀ i, i < len → w.cell? ⟨b, off + i, none⟩ = some (.int .i64 (zs.getD i 0))) :
    Calls Tryz.prog 231 #[.slice (some ⟨b, off, none⟩) len cap] w fun e w' => e = .returned (.bool (zs.all goodB)) ∧ w' = w := by
  go_enter Tryz.func231, Tryz.ntmps231
  go_wp2
  go_loop [7] (fun i => ∃ k : Nat, k ≤ len ∧ i = .int .i64 k ∧ (zs.take k).all goodB = true) (fun i => len - (intOf i).toNat)
  case atStart => exact ⟨0, Nat.zero_le _, rfl, rfl⟩
  case round =>
    obtain ⟨k, hk, rfl, ht⟩ := hrel
    have HT := hide ht
    clear ht
    by_cases hlt : k < len
    · have hcell := hc k hlt
      have HL := hide hl
      clear hl hc
      have hget : zs.getD k 0 = zs[k]'(by rw [unhide HL]; exact hlt) := by simp [List.getD, unhide HL, hlt]
      by_cases hg : goodB (zs.getD k 0) = true
      · have hs : Hid ((zs.take (k + 1)).all goodB = true) := by
          have e := List.take_succ_eq_append_getElem (l := zs) (i := k) (by rw [unhide HL]; exact hlt)
          exact hide (by rw [e, List.all_append, unhide HT, ← hget, List.all_cons, hg]; rfl)
        have HG := hide hget
        clear hget
        rw [goodB_iff] at hg
        obtain ⟨g1, g2⟩ := hg
        generalize zs.getD k 0 = z at *
        go_wp2
        go_round
        case rel => exact ⟨k + 1, by omega, by go_num, unhide hs⟩
        case measure => simp [intOf]; omega
      · have hs : Hid (zs.all goodB = false) := by
          refine hide (List.all_eq_false.2 ⟨zs[k]'(by rw [unhide HL]; exact hlt), List.getElem_mem _, ?_⟩)
          rw [← hget]; exact hg
        have HG := hide hget
        clear hget
        rw [Bool.not_eq_true, goodB_not] at hg
        generalize zs.getD k 0 = z at *
        rcases hg with hg | hg
        · go_wp2
          go_ret
          exact ⟨by rw [unhide hs]; rfl, rfl⟩
        · have hg' : ¬ z < -9000000000000000000 := by omega
          go_wp2
          go_ret
          exact ⟨by rw [unhide hs]; rfl, rfl⟩
    · have hs : Hid (zs.all goodB = true) := by
        have e : zs.take k = zs := List.take_of_length_le (by omega)
        exact hide (by rw [e] at HT; exact unhide HT)
      go_wp2
      go_ret
      exact ⟨by rw [unhide hs]; rfl, rfl⟩

set_option maxHeartbeats 400000 in
theorem power_any (n : Nat) (w : World) (hn : n ≤ 19) :
    Calls Tryz.prog 182 #[.int .i64 (n : Int)] w fun e w' => e = .returned (.int .u64 ((10 ^ n : Nat) : Int)) ∧ w' = w := by
  go_enter Tryz.func182, Tryz.ntmps182
  go_wp2
  go_loop [3, 5] (fun p i => ∃ k : Nat, k ≤ n ∧ i = .int .i64 k ∧ p = .int .u64 ((10 ^ k : Nat) : Int)) (fun _ i => n - (intOf i).toNat)
  case atStart => exact ⟨0, Nat.zero_le _, rfl, rfl⟩
  case round =>
    obtain ⟨k, hk, rfl, rfl⟩ := hrel
    by_cases hlt : k < n
    · have hp : 10 ^ k ≤ 10 ^ 18 := Nat.pow_le_pow_right (by omega) (by omega)
      have hx : (10 ^ 18 : Nat) = 1000000000000000000 := by decide
      rw [hx] at hp
      clear hx
      generalize hq : 10 ^ k = q at *
      have HQ := hide hq
      clear hq
      go_wp2
      go_round
      case rel => exact ⟨k + 1, by omega, by go_num, by rw [Nat.pow_succ, unhide HQ]; exact congrArg _ (by omega)⟩
      case measure => simp [intOf]; omega
    · have : k = n := by omega
      subst this
      go_wp2
      go_ret
      exact ⟨rfl, rfl⟩
end Go.Proofs.YtloamahbghjjgaaGreatDoor

namespace Go.Proofs.YtloamahbghjjgaaGreatDoor
open Go.RowKit

theorem good1_any (a : Int) (w : World) (t : TypeId) :
    Calls Tryz.prog 231 #[.slice (some ⟨w.heap.size, 0, none⟩) 1 1] (w.alloc (.cells #[.int .i64 a] t)) fun e w' => e = .returned (.bool (goodB a)) ∧ w' = w.alloc (.cells #[.int .i64 a] t) := by
  have h := good_any w.heap.size 0 1 1 [a] (w.alloc (.cells #[.int .i64 a] t)) rfl (by omega) (by
    intro i hi
    match i, hi with
    | 0, _ => simp [go_sem])
  refine h.mono ?_
  rintro e w' ⟨rfl, rfl⟩
  exact ⟨by simp, rfl⟩

theorem below_alloc (w : World) (o : Obj) : Below w.heap.size w (w.alloc o) := (Below.refl _ _).alloc (Nat.le_refl _) _

set_option maxHeartbeats 400000 in
theorem raw_any (a : Int) (w : World) :
    Calls Tryz.prog 228 #[.int .i64 a] w fun e w' => e = .returned (.tuple #[.int .i64 (if goodB a = true then a else 0), .int .i64 (if goodB a = true then 0 else 5)]) ∧ Below w.heap.size w w' := by
  cases hg : goodB a
  · have HG := hide hg
    clear hg
    go_enter Tryz.func228, Tryz.ntmps228
    go_wp2_with fail
    refine (good1_any _ _ _).mono ?_
    rintro e w' ⟨rfl, rfl⟩
    rw [unhide HG]
    go_wp2
    go_ret2
    exact ⟨rfl, below_alloc _ _⟩
  · have HG := hide hg
    clear hg
    go_enter Tryz.func228, Tryz.ntmps228
    go_wp2_with fail
    refine (good1_any _ _ _).mono ?_
    rintro e w' ⟨rfl, rfl⟩
    rw [unhide HG]
    go_wp2
    go_ret2
    exact ⟨rfl, below_alloc _ _⟩

end Go.Proofs.YtloamahbghjjgaaGreatDoor

namespace Go.Proofs.YtloamahbghjjgaaGreatDoor.Dv

theorem norm (hi lo y : Nat) (hhy : hi < y) (h1 : lo < 18446744073709551616) (hy : y < 18446744073709551616) :
    ∃ s Y H L u v : Nat, Lib.bitLen y + s = 64 ∧ s ≤ 63 ∧ y * 2 ^ s = Y ∧ 9223372036854775808 ≤ Y ∧ Y < 18446744073709551616 ∧
      hi * 2 ^ s = H ∧ H < 18446744073709551616 ∧ lo / 2 ^ (64 - s) = L ∧ L < 18446744073709551616 ∧ (H ||| L) = u ∧ u < Y ∧
      (lo * 2 ^ s) % 18446744073709551616 = v ∧ v < 18446744073709551616 ∧ (hi * 18446744073709551616 + lo) * 2 ^ s = u * 18446744073709551616 + v := by
  obtain ⟨b1, b2, b3⟩ := Lib.bitLenAux_bounds 64 y (by omega) (by omega)
  have bl : Lib.bitLen y ≤ 64 := Lib.bitLen_le y 64 (by omega) (by omega)
  have be : Lib.bitLenAux 64 y = Lib.bitLen y := rfl
  rw [be] at b1 b2 b3
  generalize Lib.bitLen y = n at *
  have e64 : (18446744073709551616 : Nat) = 2 ^ 64 := by decide
  have e63 : (9223372036854775808 : Nat) = 2 ^ 63 := by decide
  have pw : 2 ^ n * 2 ^ (64 - n) = 2 ^ 64 := by rw [← Nat.pow_add]; congr 1; omega
  have pw1 : 2 ^ (n - 1) * 2 ^ (64 - n) = 2 ^ 63 := by rw [← Nat.pow_add]; congr 1; omega
  have pp : 0 < 2 ^ (64 - n) := Nat.two_pow_pos _
  have hYl : 2 ^ 63 ≤ y * 2 ^ (64 - n) := by rw [← pw1]; exact Nat.mul_le_mul_right _ b2
  have hYu : y * 2 ^ (64 - n) < 2 ^ 64 := by rw [← pw]; exact (Nat.mul_lt_mul_right pp).2 b3
  have hH : hi * 2 ^ (64 - n) < 2 ^ 64 := Nat.lt_of_le_of_lt (Nat.mul_le_mul_right _ (Nat.le_of_lt hhy)) hYu
  have e6 : 64 - (64 - n) = n := by omega
  have hL : lo / 2 ^ n < 2 ^ (64 - n) := by
    rw [Nat.div_lt_iff_lt_mul (Nat.two_pow_pos _), Nat.mul_comm, pw, ← e64]; exact h1
  have hor : hi * 2 ^ (64 - n) ||| lo / 2 ^ n = hi * 2 ^ (64 - n) + lo / 2 ^ n := by
    have := Nat.two_pow_add_eq_or_of_lt hL hi
    rw [Nat.mul_comm hi]; exact this.symm
  have hdm : lo * 2 ^ (64 - n) = lo / 2 ^ n * 2 ^ 64 + (lo * 2 ^ (64 - n)) % 2 ^ 64 := by
    have h := Nat.div_add_mod (lo * 2 ^ (64 - n)) (2 ^ 64)
    have h2 : lo * 2 ^ (64 - n) / 2 ^ 64 = lo / 2 ^ n := by
      rw [← pw]; exact Nat.mul_div_mul_right _ _ pp
    rw [h2] at h
    omega
  have heq : (hi * 2 ^ 64 + lo) * 2 ^ (64 - n) = (hi * 2 ^ (64 - n) + lo / 2 ^ n) * 2 ^ 64 + (lo * 2 ^ (64 - n)) % 2 ^ 64 := by
    rw [Nat.add_mul, Nat.add_mul, Nat.mul_right_comm]
    omega
  have hlt : (hi * 2 ^ 64 + lo) * 2 ^ (64 - n) < y * 2 ^ (64 - n) * 2 ^ 64 := by
    have a : hi * 2 ^ 64 + lo < y * 2 ^ 64 := by omega
    rw [Nat.mul_right_comm]
    exact (Nat.mul_lt_mul_right pp).2 a
  have hu : hi * 2 ^ (64 - n) + lo / 2 ^ n < y * 2 ^ (64 - n) := by
    rw [heq] at hlt
    omega
  refine ⟨64 - n, _, _, _, _, _, by omega, by omega, rfl, by omega, by omega, rfl, by omega, rfl, ?_, rfl, ?_, rfl, Nat.mod_lt _ (by omega), ?_⟩
  · rw [e6]; exact Nat.lt_of_le_of_lt (Nat.div_le_self _ _) h1
  · rw [e6, hor]; exact hu
  · rw [e6, hor, e64]; exact heq

def dig (Y u n : Nat) : Nat := (u * 4294967296 + n) / Y

theorem dig_lt (Y u n : Nat) (hu : u < Y) (hn : n < 4294967296) : dig Y u n < 4294967296 := by
  unfold dig
  rw [Nat.div_lt_iff_lt_mul (by omega)]
  have : u * 4294967296 + 4294967296 ≤ Y * 4294967296 := by omega
  omega

theorem mulY (q y1 y0 : Nat) : q * (y1 * 4294967296 + y0) = q * y1 * 4294967296 + q * y0 := by
  rw [Nat.mul_add, Nat.mul_assoc]

theorem too_big (y1 y0 u n q r : Nat) (hu : u < y1 * 4294967296 + y0) (hn : n < 4294967296) (h : q * y1 + r = u) (hc : 4294967296 ≤ q ∨ 4294967296 * r + n < q * y0) :
    dig (y1 * 4294967296 + y0) u n + 1 ≤ q := by
  rcases hc with hc | hc
  · have := dig_lt _ u n hu hn; omega
  · have : dig (y1 * 4294967296 + y0) u n < q := by
      unfold dig
      rw [Nat.div_lt_iff_lt_mul (by omega), mulY]
      omega
    omega

theorem small (y1 y0 u n q r : Nat) (hu : u < y1 * 4294967296 + y0) (h : q * y1 + r = u) (hq : dig (y1 * 4294967296 + y0) u n ≤ q) (hc : q * y0 ≤ 4294967296 * r + n) :
    q = dig (y1 * 4294967296 + y0) u n := by
  refine Nat.le_antisymm ?_ hq
  unfold dig
  rw [Nat.le_div_iff_mul_le (by omega), mulY]
  omega

theorem brk (y1 y0 u n q r : Nat) (hu : u < y1 * 4294967296 + y0) (hy0 : y0 < 4294967296) (h : q * y1 + r = u) (hq : dig (y1 * 4294967296 + y0) u n ≤ q) (hr : 4294967296 ≤ r) (hb : q ≤ 4294967296) :
    q = dig (y1 * 4294967296 + y0) u n := by
  refine small y1 y0 u n q r hu h hq ?_
  have : q * y0 ≤ 4294967296 * y0 := Nat.mul_le_mul_right _ hb
  omega

theorem first (y1 y0 u n : Nat) (hu : u < y1 * 4294967296 + y0) (hn : n < 4294967296) (hy0 : y0 < 4294967296) (hy1 : 2147483648 ≤ y1) :
    dig (y1 * 4294967296 + y0) u n ≤ u / y1 ∧ u / y1 ≤ 4294967297 ∧ u / y1 * y1 + u % y1 = u ∧ u % y1 < y1 := by
  have hp : 0 < y1 := by omega
  refine ⟨?_, ?_, ?_, Nat.mod_lt _ hp⟩
  · rw [Nat.le_div_iff_mul_le hp]
    have h := Nat.div_mul_le_self (u * 4294967296 + n) (y1 * 4294967296 + y0)
    have h' : dig (y1 * 4294967296 + y0) u n * (y1 * 4294967296 + y0) ≤ u * 4294967296 + n := h
    rw [mulY] at h'
    omega
  · have h := Nat.div_mul_le_self u y1
    generalize u / y1 = q at *
    by_cases hc : q ≤ 4294967297
    · exact hc
    · have : 4294967298 * y1 ≤ q * y1 := Nat.mul_le_mul_right _ (by omega)
      omega
  · have := Nat.div_add_mod u y1
    rw [Nat.mul_comm] at this
    exact this

theorem next {q y1 r u : Nat} (h : q * y1 + r = u) (hq : 1 ≤ q) : (q - 1) * y1 + (r + y1) = u := by
  obtain ⟨p, rfl⟩ : ∃ p, q = p + 1 := ⟨q - 1, by omega⟩
  rw [Nat.add_sub_cancel, ← h, Nat.add_mul]; omega

theorem left (Y u n : Nat) (hY : 0 < Y) : dig Y u n * Y ≤ u * 4294967296 + n ∧ u * 4294967296 + n - dig Y u n * Y = (u * 4294967296 + n) % Y ∧ u * 4294967296 + n - dig Y u n * Y < Y := by
  unfold dig
  have h := Nat.div_add_mod (u * 4294967296 + n) Y
  have h2 := Nat.mod_lt (u * 4294967296 + n) hY
  rw [Nat.mul_comm] at h
  omega

theorem two_gen (Y A B v0 : Nat) (hY : 0 < Y) : (A * B + v0) / Y = A / Y * B + (A % Y * B + v0) / Y ∧ (A * B + v0) % Y = (A % Y * B + v0) % Y := by
  have h := Nat.div_add_mod A Y
  generalize A / Y = a at *
  generalize A % Y = b at *
  have e2 : A * B + v0 = (b * B + v0) + Y * (a * B) := by
    rw [← h, Nat.add_mul, Nat.mul_assoc]; omega
  rw [e2]
  refine ⟨?_, ?_⟩
  · rw [Nat.add_mul_div_left _ _ hY, Nat.add_comm]
  · rw [Nat.add_mul_mod_self_left]

theorem two (Y u v1 v0 : Nat) (hY : 0 < Y) :
    (u * 18446744073709551616 + (v1 * 4294967296 + v0)) / Y = dig Y u v1 * 4294967296 + dig Y ((u * 4294967296 + v1) % Y) v0 ∧
    (u * 18446744073709551616 + (v1 * 4294967296 + v0)) % Y = (((u * 4294967296 + v1) % Y) * 4294967296 + v0) % Y := by
  have e : u * 18446744073709551616 + (v1 * 4294967296 + v0) = (u * 4294967296 + v1) * 4294967296 + v0 := by omega
  rw [e]
  unfold dig
  exact two_gen Y (u * 4294967296 + v1) 4294967296 v0 hY

theorem back (hi lo y s Y u v : Nat) (hY : y * 2 ^ s = Y) (h : (hi * 18446744073709551616 + lo) * 2 ^ s = u * 18446744073709551616 + v) :
    (u * 18446744073709551616 + v) / Y = (hi * 18446744073709551616 + lo) / y ∧ (u * 18446744073709551616 + v) % Y / 2 ^ s = (hi * 18446744073709551616 + lo) % y := by
  rw [← h, ← hY]
  refine ⟨Nat.mul_div_mul_right _ _ (Nat.two_pow_pos _), ?_⟩
  rw [Nat.mul_mod_mul_right, Nat.mul_div_cancel _ (Nat.two_pow_pos _)]

end Go.Proofs.YtloamahbghjjgaaGreatDoor.Dv

namespace Go.Proofs
open Go.Shelf
def Tryz.lays161_ren : Go.Shelf.Ren := ⟨fun | 161 => 87 | 231 => 137 | 227 => 138 | 233 => 139 | 235 => 140 | 228 => 174 | 197 => 175 | 151 => 176 | 260 => 209 | 152 => 210 | 137 => 144 | 119 => 235 | 224 => 236 | 225 => 237 | 217 => 184 | 266 => 215 | n => n, fun | 9 => 9 | 4 => 4 | 3 => 3 | 5 => 5 | 117 => 175 | 116 => 174 | 0 => 0 | 124 => 178 | 105 => 202 | 21 => 21 | 119 => 260 | 46 => 261 | 139 => 264 | 138 => 263 | n => n, fun | 3 => 2 | 4 => 3 | n => n⟩
theorem Tryz.lays161 : Go.Proofs.Lays.n161 Tryz.prog Tryz.lays161_ren := {
  mixed := by kernel_rfl
  f119 := Tryz.func235.trans (congrArg some (by kernel_rfl))
  f137 := Tryz.func144.trans (congrArg some (by kernel_rfl))
  f151 := Tryz.func176.trans (congrArg some (by kernel_rfl))
  f152 := Tryz.func210.trans (congrArg some (by kernel_rfl))
  f161 := Tryz.func87.trans (congrArg some (by kernel_rfl))
  f197 := Tryz.func175.trans (congrArg some (by kernel_rfl))
  f217 := Tryz.func184.trans (congrArg some (by kernel_rfl))
  f224 := Tryz.func236.trans (congrArg some (by kernel_rfl))
  f225 := Tryz.func237.trans (congrArg some (by kernel_rfl))
  f227 := Tryz.func138.trans (congrArg some (by kernel_rfl))
  f228 := Tryz.func174.trans (congrArg some (by kernel_rfl))
  f231 := Tryz.func137.trans (congrArg some (by kernel_rfl))
  f233 := Tryz.func139.trans (congrArg some (by kernel_rfl))
  f235 := Tryz.func140.trans (congrArg some (by kernel_rfl))
  f260 := Tryz.func209.trans (congrArg some (by kernel_rfl))
  f266 := Tryz.func215.trans (congrArg some (by kernel_rfl))
  t0 := Tryz.underlying0
  a0 := Tryz.isAgg0
  z0 := Tryz.sizeOf0
  v0 := Tryz.zeroValue0
  t3 := Tryz.underlying3
  a3 := Tryz.isAgg3
  z3 := Tryz.sizeOf3
  v3 := Tryz.zeroValue3
  t4 := Tryz.underlying4
  a4 := Tryz.isAgg4
  z4 := Tryz.sizeOf4
  v4 := Tryz.zeroValue4
  t5 := Tryz.underlying5
  a5 := Tryz.isAgg5
  z5 := Tryz.sizeOf5
  v5 := Tryz.zeroValue5
  t9 := Tryz.underlying9
  a9 := Tryz.isAgg9
  z9 := Tryz.sizeOf9
  v9 := Tryz.zeroValue9
  t21 := Tryz.underlying21
  a21 := Tryz.isAgg21
  z21 := Tryz.sizeOf21
  v21 := Tryz.zeroValue21
  t46 := Tryz.underlying261
  a46 := Tryz.isAgg261
  z46 := Tryz.sizeOf261
  v46 := Tryz.zeroValue261
  t105 := Tryz.underlying202
  a105 := Tryz.isAgg202
  z105 := Tryz.sizeOf202
  v105 := Tryz.zeroValue202
  t116 := Tryz.underlying174
  a116 := Tryz.isAgg174
  z116 := Tryz.sizeOf174
  t117 := Tryz.underlying175
  a117 := Tryz.isAgg175
  z117 := Tryz.sizeOf175
  v117 := Tryz.zeroValue175
  t119 := Tryz.underlying260
  a119 := Tryz.isAgg260
  z119 := Tryz.sizeOf260
  t124 := Tryz.underlying178
  a124 := Tryz.isAgg178
  z124 := Tryz.sizeOf178
  v124 := Tryz.zeroValue178
  t138 := Tryz.underlying263
  a138 := Tryz.isAgg263
  z138 := Tryz.sizeOf263
  v138 := Tryz.zeroValue263
  t139 := Tryz.underlying264
  a139 := Tryz.isAgg264
  z139 := Tryz.sizeOf264
  v139 := Tryz.zeroValue264
  g3 := by kernel_rfl
  g4 := by kernel_rfl }
open Go.RowKit in
theorem Tryz.strings_TrimLeft_one (s : ByteArray) (c : UInt8) (hc : c.toNat < 128) (w : World) :
    Calls Tryz.prog 87 #[.string s, .string ⟨#[c]⟩] w fun e w' => e = .returned (.string ⟨(Lib.trimLeftB s.data.toList c).toArray⟩) ∧ w' = w := Any.strings_TrimLeft_one Tryz.lays161 s c hc w
def Tryz.lays134_ren : Go.Shelf.Ren := ⟨fun | 134 => 239 | 129 => 249 | n => n, fun | 53 => 208 | 3 => 3 | 4 => 4 | 46 => 261 | 5 => 5 | 9 => 9 | n => n, fun | n => n⟩
theorem Tryz.lays134 : Go.Proofs.Lays.n134 Tryz.prog Tryz.lays134_ren := {
  mixed := by kernel_rfl
  f129 := Tryz.func249.trans (congrArg some (by kernel_rfl))
  f134 := Tryz.func239.trans (congrArg some (by kernel_rfl))
  t3 := Tryz.underlying3
  a3 := Tryz.isAgg3
  z3 := Tryz.sizeOf3
  v3 := Tryz.zeroValue3
  t4 := Tryz.underlying4
  a4 := Tryz.isAgg4
  z4 := Tryz.sizeOf4
  v4 := Tryz.zeroValue4
  t5 := Tryz.underlying5
  a5 := Tryz.isAgg5
  z5 := Tryz.sizeOf5
  v5 := Tryz.zeroValue5
  t9 := Tryz.underlying9
  a9 := Tryz.isAgg9
  z9 := Tryz.sizeOf9
  v9 := Tryz.zeroValue9
  t46 := Tryz.underlying261
  a46 := Tryz.isAgg261
  z46 := Tryz.sizeOf261
  v46 := Tryz.zeroValue261
  t53 := Tryz.underlying208
  a53 := Tryz.isAgg208
  z53 := Tryz.sizeOf208
  v53 := Tryz.zeroValue208 }
theorem Tryz.bits_LeadingZeros64 (x : Int) (w : World) (h0 : 0 ≤ x) (h1 : x ≤ 18446744073709551615) :
    Calls Tryz.prog 239 #[.int .u64 x] w fun e w' => e = .returned (.int .i64 (64 - (Lib.bitLen x.toNat : Int))) ∧ w' = w := Any.bits_LeadingZeros64 Tryz.lays134 x w h0 h1
def Tryz.lays137_ren : Go.Shelf.Ren := ⟨fun | 137 => 144 | 217 => 184 | 266 => 215 | n => n, fun | 9 => 9 | 5 => 5 | 3 => 3 | n => n, fun | n => n⟩
theorem Tryz.lays137 : Go.Proofs.Lays.n137 Tryz.prog Tryz.lays137_ren := {
  mixed := by kernel_rfl
  f137 := Tryz.func144.trans (congrArg some (by kernel_rfl))
  f217 := Tryz.func184.trans (congrArg some (by kernel_rfl))
  f266 := Tryz.func215.trans (congrArg some (by kernel_rfl))
  t3 := Tryz.underlying3
  a3 := Tryz.isAgg3
  z3 := Tryz.sizeOf3
  v3 := Tryz.zeroValue3
  t5 := Tryz.underlying5
  a5 := Tryz.isAgg5
  z5 := Tryz.sizeOf5
  v5 := Tryz.zeroValue5
  t9 := Tryz.underlying9
  a9 := Tryz.isAgg9
  z9 := Tryz.sizeOf9
  v9 := Tryz.zeroValue9 }
open Go.RowKit in
theorem Tryz.strings_IndexByte (s : ByteArray) (c : Int) (w : World) :
    Calls Tryz.prog 144 #[.string s, .int .u8 c] w fun e w' => e = .returned (.int .i64 (Lib.indexByte s.data.toList c.toNat.toUInt8)) ∧ w' = w := Any.strings_IndexByte Tryz.lays137 s c w
def Tryz.lays103_ren : Go.Shelf.Ren := ⟨fun | 103 => 177 | 210 => 211 | 206 => 186 | n => n, fun | 9 => 9 | 4 => 4 | 24 => 161 | 3 => 3 | n => n, fun | n => n⟩
theorem Tryz.lays103 : Go.Proofs.Lays.n103 Tryz.prog Tryz.lays103_ren := {
  mixed := by kernel_rfl
  f103 := Tryz.func177.trans (congrArg some (by kernel_rfl))
  f206 := Tryz.func186.trans (congrArg some (by kernel_rfl))
  f210 := Tryz.func211.trans (congrArg some (by kernel_rfl))
  t3 := Tryz.underlying3
  a3 := Tryz.isAgg3
  z3 := Tryz.sizeOf3
  v3 := Tryz.zeroValue3
  t4 := Tryz.underlying4
  a4 := Tryz.isAgg4
  z4 := Tryz.sizeOf4
  v4 := Tryz.zeroValue4
  t9 := Tryz.underlying9
  a9 := Tryz.isAgg9
  z9 := Tryz.sizeOf9
  v9 := Tryz.zeroValue9
  t24 := Tryz.underlying161
  a24 := Tryz.isAgg161
  z24 := Tryz.sizeOf161
  v24 := Tryz.zeroValue161 }
open Go.RowKit in
theorem Tryz.strings_CutPrefix (s p : ByteArray) (w : World) :
    Calls Tryz.prog 177 #[.string s, .string p] w fun e w' => e = .returned (.tuple #[.string ⟨(Lib.trimPrefix s.data.toList p.data.toList).toArray⟩, .bool (Lib.hasPrefix s.data.toList p.data.toList)]) ∧ w' = w := Any.strings_CutPrefix Tryz.lays103 s p w
def Tryz.lays172_ren : Go.Shelf.Ren := ⟨fun | 172 => 240 | 244 => 260 | 245 => 261 | 247 => 268 | 279 => 269 | 280 => 270 | 281 => 271 | 282 => 272 | 287 => 274 | 316 => 275 | 171 => 116 | 205 => 276 | 321 => 277 | 322 => 278 | 243 => 164 | 246 => 200 | 283 => 224 | 284 => 225 | 285 => 226 | 286 => 227 | 129 => 249 | 317 => 248 | 318 => 250 | 319 => 251 | 320 => 252 | 337 => 264 | 338 => 265 | n => n, fun | 9 => 9 | 3 => 3 | 75 => 235 | 76 => 236 | 4 => 4 | 5 => 5 | 167 => 284 | 37 => 166 | 0 => 0 | 85 => 285 | 2 => 2 | 168 => 287 | 53 => 208 | 175 => 292 | 46 => 261 | 210 => 295 | 127 => 256 | 145 => 300 | 143 => 298 | 21 => 21 | 171 => 250 | 173 => 253 | 212 => 269 | 51 => 270 | 20 => 20 | 213 => 271 | 232 => 290 | 233 => 291 | 80 => 93 | n => n, fun | 15 => 10 | 16 => 11 | 17 => 7 | 18 => 8 | 19 => 9 | n => n⟩
theorem Tryz.lays172 : Go.Proofs.Lays.n172 Tryz.prog Tryz.lays172_ren := {
  mixed := by kernel_rfl
  f129 := Tryz.func249.trans (congrArg some (by kernel_rfl))
  f171 := Tryz.func116.trans (congrArg some (by kernel_rfl))
  f172 := Tryz.func240.trans (congrArg some (by kernel_rfl))
  f205 := Tryz.func276.trans (congrArg some (by kernel_rfl))
  f243 := Tryz.func164.trans (congrArg some (by kernel_rfl))
  f244 := Tryz.func260.trans (congrArg some (by kernel_rfl))
  f245 := Tryz.func261.trans (congrArg some (by kernel_rfl))
  f246 := Tryz.func200.trans (congrArg some (by kernel_rfl))
  f247 := Tryz.func268.trans (congrArg some (by kernel_rfl))
  f279 := Tryz.func269.trans (congrArg some (by kernel_rfl))
  f280 := Tryz.func270.trans (congrArg some (by kernel_rfl))
  f281 := Tryz.func271.trans (congrArg some (by kernel_rfl))
  f282 := Tryz.func272.trans (congrArg some (by kernel_rfl))
  f283 := Tryz.func224.trans (congrArg some (by kernel_rfl))
  f284 := Tryz.func225.trans (congrArg some (by kernel_rfl))
  f285 := Tryz.func226.trans (congrArg some (by kernel_rfl))
  f286 := Tryz.func227.trans (congrArg some (by kernel_rfl))
  f287 := Tryz.func274.trans (congrArg some (by kernel_rfl))
  f316 := Tryz.func275.trans (congrArg some (by kernel_rfl))
  f317 := Tryz.func248.trans (congrArg some (by kernel_rfl))
  f318 := Tryz.func250.trans (congrArg some (by kernel_rfl))
  f319 := Tryz.func251.trans (congrArg some (by kernel_rfl))
  f320 := Tryz.func252.trans (congrArg some (by kernel_rfl))
  f321 := Tryz.func277.trans (congrArg some (by kernel_rfl))
  f322 := Tryz.func278.trans (congrArg some (by kernel_rfl))
  f337 := Tryz.func264.trans (congrArg some (by kernel_rfl))
  f338 := Tryz.func265.trans (congrArg some (by kernel_rfl))
  t0 := Tryz.underlying0
  a0 := Tryz.isAgg0
  z0 := Tryz.sizeOf0
  v0 := Tryz.zeroValue0
  t2 := Tryz.underlying2
  a2 := Tryz.isAgg2
  z2 := Tryz.sizeOf2
  v2 := Tryz.zeroValue2
  t3 := Tryz.underlying3
  a3 := Tryz.isAgg3
  z3 := Tryz.sizeOf3
  v3 := Tryz.zeroValue3
  t4 := Tryz.underlying4
  a4 := Tryz.isAgg4
  z4 := Tryz.sizeOf4
  v4 := Tryz.zeroValue4
  t5 := Tryz.underlying5
  a5 := Tryz.isAgg5
  z5 := Tryz.sizeOf5
  v5 := Tryz.zeroValue5
  t9 := Tryz.underlying9
  a9 := Tryz.isAgg9
  z9 := Tryz.sizeOf9
  v9 := Tryz.zeroValue9
  t20 := Tryz.underlying20
  a20 := Tryz.isAgg20
  z20 := Tryz.sizeOf20
  v20 := Tryz.zeroValue20
  t21 := Tryz.underlying21
  a21 := Tryz.isAgg21
  z21 := Tryz.sizeOf21
  v21 := Tryz.zeroValue21
  t37 := Tryz.underlying166
  a37 := Tryz.isAgg166
  z37 := Tryz.sizeOf166
  v37 := Tryz.zeroValue166
  t46 := Tryz.underlying261
  a46 := Tryz.isAgg261
  z46 := Tryz.sizeOf261
  v46 := Tryz.zeroValue261
  t51 := Tryz.underlying270
  a51 := Tryz.isAgg270
  z51 := Tryz.sizeOf270
  v51 := Tryz.zeroValue270
  t53 := Tryz.underlying208
  a53 := Tryz.isAgg208
  z53 := Tryz.sizeOf208
  v53 := Tryz.zeroValue208
  t75 := Tryz.underlying235
  a75 := Tryz.isAgg235
  z75 := Tryz.sizeOf235
  v75 := Tryz.zeroValue235
  t76 := Tryz.underlying236
  a76 := Tryz.isAgg236
  z76 := Tryz.sizeOf236
  v76 := Tryz.zeroValue236
  t85 := Tryz.underlying285
  a85 := Tryz.isAgg285
  z85 := Tryz.sizeOf285
  v85 := Tryz.zeroValue285
  t127 := Tryz.underlying256
  a127 := Tryz.isAgg256
  z127 := Tryz.sizeOf256
  v127 := Tryz.zeroValue256
  t143 := Tryz.underlying298
  a143 := Tryz.isAgg298
  z143 := Tryz.sizeOf298
  v143 := Tryz.zeroValue298
  t145 := Tryz.underlying300
  a145 := Tryz.isAgg300
  z145 := Tryz.sizeOf300
  v145 := Tryz.zeroValue300
  t167 := Tryz.underlying284
  a167 := Tryz.isAgg284
  z167 := Tryz.sizeOf284
  v167 := Tryz.zeroValue284
  t168 := Tryz.underlying287
  a168 := Tryz.isAgg287
  z168 := Tryz.sizeOf287
  v168 := Tryz.zeroValue287
  t171 := Tryz.underlying250
  a171 := Tryz.isAgg250
  z171 := Tryz.sizeOf250
  v171 := Tryz.zeroValue250
  t173 := Tryz.underlying253
  a173 := Tryz.isAgg253
  z173 := Tryz.sizeOf253
  v173 := Tryz.zeroValue253
  t175 := Tryz.underlying292
  a175 := Tryz.isAgg292
  z175 := Tryz.sizeOf292
  v175 := Tryz.zeroValue292
  t210 := Tryz.underlying295
  a210 := Tryz.isAgg295
  z210 := Tryz.sizeOf295
  v210 := Tryz.zeroValue295
  t212 := Tryz.underlying269
  a212 := Tryz.isAgg269
  z212 := Tryz.sizeOf269
  v212 := Tryz.zeroValue269
  t213 := Tryz.underlying271
  a213 := Tryz.isAgg271
  z213 := Tryz.sizeOf271
  t232 := Tryz.underlying290
  a232 := Tryz.isAgg290
  z232 := Tryz.sizeOf290
  v232 := Tryz.zeroValue290
  t233 := Tryz.underlying291
  a233 := Tryz.isAgg291
  z233 := Tryz.sizeOf291
  v233 := Tryz.zeroValue291
  g15 := by kernel_rfl
  g16 := by kernel_rfl
  g17 := by kernel_rfl
  g18 := by kernel_rfl
  g19 := by kernel_rfl }
open Go.RowKit in
theorem Tryz.strconv_Atoi (s : ByteArray) (n : Int) (hl : s.size ≤ 18) (h : Lib.atoi s.data.toList = some n) (w : World) :
    Calls Tryz.prog 240 #[.string s] w fun e w' => e = .returned (.tuple #[.int .i64 n, .nilIface]) ∧ ∃ t, w' = Lib.bytesWorld w 5 t := Any.strconv_Atoi Tryz.lays172 s n hl h w
def Tryz.laysM171_ren : Go.Shelf.Ren := ⟨fun | 171 => 116 | 243 => 164 | 246 => 200 | 283 => 224 | 284 => 225 | 285 => 226 | 286 => 227 | 129 => 249 | 317 => 248 | 318 => 250 | 319 => 251 | 320 => 252 | 337 => 264 | 338 => 265 | n => n, fun | 3 => 3 | 9 => 9 | 2 => 2 | 4 => 4 | 171 => 250 | 0 => 0 | 53 => 208 | 37 => 166 | 5 => 5 | 173 => 253 | 212 => 269 | 51 => 270 | 20 => 20 | 213 => 271 | 46 => 261 | 232 => 290 | 233 => 291 | n => n, fun | 17 => 7 | 18 => 8 | 19 => 9 | n => n⟩
theorem Tryz.laysM171 : Go.Proofs.LaysM.n171 Tryz.prog Tryz.laysM171_ren := {
  mixed := by kernel_rfl
  f129 := Tryz.func249.trans (congrArg some (by kernel_rfl))
  f171 := Tryz.func116.trans (congrArg some (by kernel_rfl))
  f243 := Tryz.func164.trans (congrArg some (by kernel_rfl))
  f246 := Tryz.func200.trans (congrArg some (by kernel_rfl))
  f283 := Tryz.func224.trans (congrArg some (by kernel_rfl))
  f284 := Tryz.func225.trans (congrArg some (by kernel_rfl))
  f285 := Tryz.func226.trans (congrArg some (by kernel_rfl))
  f286 := Tryz.func227.trans (congrArg some (by kernel_rfl))
  f317 := Tryz.func248.trans (congrArg some (by kernel_rfl))
  f318 := Tryz.func250.trans (congrArg some (by kernel_rfl))
  f319 := Tryz.func251.trans (congrArg some (by kernel_rfl))
  f320 := Tryz.func252.trans (congrArg some (by kernel_rfl))
  f337 := Tryz.func264.trans (congrArg some (by kernel_rfl))
  f338 := Tryz.func265.trans (congrArg some (by kernel_rfl))
  t0 := Tryz.underlying0
  a0 := Tryz.isAgg0
  z0 := Tryz.sizeOf0
  v0 := Tryz.zeroValue0
  t2 := Tryz.underlying2
  a2 := Tryz.isAgg2
  z2 := Tryz.sizeOf2
  v2 := Tryz.zeroValue2
  t3 := Tryz.underlying3
  a3 := Tryz.isAgg3
  z3 := Tryz.sizeOf3
  v3 := Tryz.zeroValue3
  t4 := Tryz.underlying4
  a4 := Tryz.isAgg4
  z4 := Tryz.sizeOf4
  v4 := Tryz.zeroValue4
  t5 := Tryz.underlying5
  a5 := Tryz.isAgg5
  z5 := Tryz.sizeOf5
  v5 := Tryz.zeroValue5
  t9 := Tryz.underlying9
  a9 := Tryz.isAgg9
  z9 := Tryz.sizeOf9
  v9 := Tryz.zeroValue9
  t20 := Tryz.underlying20
  a20 := Tryz.isAgg20
  z20 := Tryz.sizeOf20
  v20 := Tryz.zeroValue20
  t37 := Tryz.underlying166
  a37 := Tryz.isAgg166
  z37 := Tryz.sizeOf166
  v37 := Tryz.zeroValue166
  t46 := Tryz.underlying261
  a46 := Tryz.isAgg261
  z46 := Tryz.sizeOf261
  v46 := Tryz.zeroValue261
  t51 := Tryz.underlying270
  a51 := Tryz.isAgg270
  z51 := Tryz.sizeOf270
  v51 := Tryz.zeroValue270
  t53 := Tryz.underlying208
  a53 := Tryz.isAgg208
  z53 := Tryz.sizeOf208
  v53 := Tryz.zeroValue208
  t171 := Tryz.underlying250
  a171 := Tryz.isAgg250
  z171 := Tryz.sizeOf250
  v171 := Tryz.zeroValue250
  t173 := Tryz.underlying253
  a173 := Tryz.isAgg253
  z173 := Tryz.sizeOf253
  v173 := Tryz.zeroValue253
  t212 := Tryz.underlying269
  a212 := Tryz.isAgg269
  z212 := Tryz.sizeOf269
  v212 := Tryz.zeroValue269
  t213 := Tryz.underlying271
  a213 := Tryz.isAgg271
  z213 := Tryz.sizeOf271
  t232 := Tryz.underlying290
  a232 := Tryz.isAgg290
  z232 := Tryz.sizeOf290
  v232 := Tryz.zeroValue290
  t233 := Tryz.underlying291
  a233 := Tryz.isAgg291
  z233 := Tryz.sizeOf291
  v233 := Tryz.zeroValue291
  g17 := by kernel_rfl
  g18 := by kernel_rfl
  g19 := by kernel_rfl
  i0 := by kernel_rfl
  i2 := by kernel_rfl
  i3 := by kernel_rfl
  i4 := by kernel_rfl
  i5 := by kernel_rfl
  i9 := by kernel_rfl
  i20 := by kernel_rfl
  i37 := by kernel_rfl
  i46 := by kernel_rfl
  i51 := by kernel_rfl
  i53 := by kernel_rfl
  i171 := by kernel_rfl
  i173 := by kernel_rfl
  i212 := by kernel_rfl
  i232 := by kernel_rfl
  i233 := by kernel_rfl
  m17 := by kernel_rfl
  m18 := by kernel_rfl
  m19 := by kernel_rfl }
open Go.RowKit Go.Sort Go.Lib in
theorem Tryz.strconv_Itoa (n : Int) (h0 : -9223372036854775808 ≤ n) (h1 : n ≤ 9223372036854775807) (w : World) (htab : Lib.TabIs Tryz.prog w "internal/strconv.uint64pow10" .u64 Lib.pow10Tab) :
    Calls Tryz.prog 116 #[.int .i64 n] w fun e w' => e = .returned (.string ⟨(Lib.itoa n).toArray⟩) ∧ ∃ k os, w' = grow (w.drewN k) os := Any.strconv_Itoa Tryz.laysM171 n h0 h1 w htab
def Tryz.lays145_ren : Go.Shelf.Ren := ⟨fun | 145 => 178 | 220 => 212 | 219 => 238 | 217 => 184 | 225 => 237 | 224 => 236 | 267 => 259 | 266 => 215 | 314 => 267 | n => n, fun | 9 => 9 | 4 => 4 | 59 => 206 | 3 => 3 | 5 => 5 | 46 => 261 | 146 => 282 | 51 => 270 | n => n, fun | 1 => 6 | n => n⟩
theorem Tryz.lays145 : Go.Proofs.Lays.n145 Tryz.prog Tryz.lays145_ren := {
  mixed := by kernel_rfl
  f145 := Tryz.func178.trans (congrArg some (by kernel_rfl))
  f217 := Tryz.func184.trans (congrArg some (by kernel_rfl))
  f219 := Tryz.func238.trans (congrArg some (by kernel_rfl))
  f220 := Tryz.func212.trans (congrArg some (by kernel_rfl))
  f224 := Tryz.func236.trans (congrArg some (by kernel_rfl))
  f225 := Tryz.func237.trans (congrArg some (by kernel_rfl))
  f266 := Tryz.func215.trans (congrArg some (by kernel_rfl))
  f267 := Tryz.func259.trans (congrArg some (by kernel_rfl))
  f314 := Tryz.func267.trans (congrArg some (by kernel_rfl))
  t3 := Tryz.underlying3
  a3 := Tryz.isAgg3
  z3 := Tryz.sizeOf3
  v3 := Tryz.zeroValue3
  t4 := Tryz.underlying4
  a4 := Tryz.isAgg4
  z4 := Tryz.sizeOf4
  v4 := Tryz.zeroValue4
  t5 := Tryz.underlying5
  a5 := Tryz.isAgg5
  z5 := Tryz.sizeOf5
  v5 := Tryz.zeroValue5
  t9 := Tryz.underlying9
  a9 := Tryz.isAgg9
  z9 := Tryz.sizeOf9
  v9 := Tryz.zeroValue9
  t46 := Tryz.underlying261
  a46 := Tryz.isAgg261
  z46 := Tryz.sizeOf261
  v46 := Tryz.zeroValue261
  t51 := Tryz.underlying270
  a51 := Tryz.isAgg270
  z51 := Tryz.sizeOf270
  v51 := Tryz.zeroValue270
  t59 := Tryz.underlying206
  a59 := Tryz.isAgg206
  z59 := Tryz.sizeOf206
  v59 := Tryz.zeroValue206
  t146 := Tryz.underlying282
  a146 := Tryz.isAgg282
  z146 := Tryz.sizeOf282
  v146 := Tryz.zeroValue282
  g1 := by kernel_rfl }
open Go.RowKit Go.Lib in
theorem Tryz.strings_Cut (s sep : ByteArray) (m : Int) (w : World) (hs : s.size < 4294967281) (hm : w.cell? ⟨6, 0, none⟩ = some (.int .i64 m)) :
    Calls Tryz.prog 178 #[.string s, .string sep] w fun e w' => e = .returned (.tuple #[.string ⟨(Lib.cut s.data.toList sep.data.toList).1.toArray⟩, .string ⟨(Lib.cut s.data.toList sep.data.toList).2.1.toArray⟩, .bool (Lib.cut s.data.toList sep.data.toList).2.2]) ∧ ∃ n, w' = w.drewN n := Any.strings_Cut Tryz.lays145 s sep m w hs hm
def Tryz.laysM145_ren : Go.Shelf.Ren := ⟨fun | 145 => 178 | 220 => 212 | 219 => 238 | 217 => 184 | 225 => 237 | 224 => 236 | 267 => 259 | 266 => 215 | 314 => 267 | n => n, fun | 9 => 9 | 4 => 4 | 59 => 206 | 3 => 3 | 5 => 5 | 46 => 261 | 146 => 282 | 51 => 270 | n => n, fun | 1 => 6 | n => n⟩
theorem Tryz.laysM145 : Go.Proofs.LaysM.n145 Tryz.prog Tryz.laysM145_ren := {
  mixed := by kernel_rfl
  f145 := Tryz.func178.trans (congrArg some (by kernel_rfl))
  f217 := Tryz.func184.trans (congrArg some (by kernel_rfl))
  f219 := Tryz.func238.trans (congrArg some (by kernel_rfl))
  f220 := Tryz.func212.trans (congrArg some (by kernel_rfl))
  f224 := Tryz.func236.trans (congrArg some (by kernel_rfl))
  f225 := Tryz.func237.trans (congrArg some (by kernel_rfl))
  f266 := Tryz.func215.trans (congrArg some (by kernel_rfl))
  f267 := Tryz.func259.trans (congrArg some (by kernel_rfl))
  f314 := Tryz.func267.trans (congrArg some (by kernel_rfl))
  t3 := Tryz.underlying3
  a3 := Tryz.isAgg3
  z3 := Tryz.sizeOf3
  v3 := Tryz.zeroValue3
  t4 := Tryz.underlying4
  a4 := Tryz.isAgg4
  z4 := Tryz.sizeOf4
  v4 := Tryz.zeroValue4
  t5 := Tryz.underlying5
  a5 := Tryz.isAgg5
  z5 := Tryz.sizeOf5
  v5 := Tryz.zeroValue5
  t9 := Tryz.underlying9
  a9 := Tryz.isAgg9
  z9 := Tryz.sizeOf9
  v9 := Tryz.zeroValue9
  t46 := Tryz.underlying261
  a46 := Tryz.isAgg261
  z46 := Tryz.sizeOf261
  v46 := Tryz.zeroValue261
  t51 := Tryz.underlying270
  a51 := Tryz.isAgg270
  z51 := Tryz.sizeOf270
  v51 := Tryz.zeroValue270
  t59 := Tryz.underlying206
  a59 := Tryz.isAgg206
  z59 := Tryz.sizeOf206
  v59 := Tryz.zeroValue206
  t146 := Tryz.underlying282
  a146 := Tryz.isAgg282
  z146 := Tryz.sizeOf282
  v146 := Tryz.zeroValue282
  g1 := by kernel_rfl
  i3 := by kernel_rfl
  i4 := by kernel_rfl
  i5 := by kernel_rfl
  i9 := by kernel_rfl
  i46 := by kernel_rfl
  i51 := by kernel_rfl
  i59 := by kernel_rfl
  i146 := by kernel_rfl
  m1 := by kernel_rfl
  s1_3 := fun w h => Go.Proofs.cell_of_shapedOpen_int (zero := #[.int .i64 0]) (t := 3) h (of_decide_eq_true (by kernel_rfl)) (by kernel_rfl) rfl (by kernel_rfl) (by kernel_rfl) Tryz.underlying3 }
def Tryz.lays99_ren : Go.Shelf.Ren := ⟨fun | 99 => 147 | 206 => 186 | n => n, fun | 9 => 9 | 4 => 4 | 3 => 3 | n => n, fun | n => n⟩
theorem Tryz.lays99 : Go.Proofs.Lays.n99 Tryz.prog Tryz.lays99_ren := {
  mixed := by kernel_rfl
  f99 := Tryz.func147.trans (congrArg some (by kernel_rfl))
  f206 := Tryz.func186.trans (congrArg some (by kernel_rfl))
  t3 := Tryz.underlying3
  a3 := Tryz.isAgg3
  z3 := Tryz.sizeOf3
  v3 := Tryz.zeroValue3
  t4 := Tryz.underlying4
  a4 := Tryz.isAgg4
  z4 := Tryz.sizeOf4
  v4 := Tryz.zeroValue4
  t9 := Tryz.underlying9
  a9 := Tryz.isAgg9
  z9 := Tryz.sizeOf9
  v9 := Tryz.zeroValue9 }
open Go.RowKit Go.Lib in
theorem Tryz.strings_HasPrefix (s p : ByteArray) (w : World) :
    Calls Tryz.prog 147 #[.string s, .string p] w fun e w' => e = .returned (.bool (Lib.hasPrefix s.data.toList p.data.toList)) ∧ w' = w := Any.strings_HasPrefix Tryz.lays99 s p w
def Tryz.lays155_ren : Go.Shelf.Ren := ⟨fun | 155 => 150 | 154 => 189 | 138 => 218 | 165 => 204 | 143 => 219 | 166 => 205 | 197 => 175 | 169 => 206 | 195 => 242 | 218 => 243 | 240 => 229 | 241 => 230 | 219 => 238 | 260 => 209 | 276 => 253 | 277 => 254 | 217 => 184 | 225 => 237 | 224 => 236 | 267 => 259 | 266 => 215 | 314 => 267 | n => n, fun | 9 => 9 | 3 => 3 | 4 => 4 | 72 => 232 | 0 => 0 | 76 => 236 | 105 => 202 | 21 => 21 | 5 => 5 | 70 => 230 | 20 => 20 | 37 => 166 | 75 => 235 | 127 => 256 | 164 => 274 | 46 => 261 | 119 => 260 | 139 => 264 | 138 => 263 | 146 => 282 | 51 => 270 | 80 => 93 | n => n, fun | 1 => 6 | 3 => 2 | 4 => 3 | n => n⟩
theorem Tryz.lays155 : Go.Proofs.Lays.n155 Tryz.prog Tryz.lays155_ren := {
  mixed := by kernel_rfl
  f138 := Tryz.func218.trans (congrArg some (by kernel_rfl))
  f143 := Tryz.func219.trans (congrArg some (by kernel_rfl))
  f154 := Tryz.func189.trans (congrArg some (by kernel_rfl))
  f155 := Tryz.func150.trans (congrArg some (by kernel_rfl))
  f165 := Tryz.func204.trans (congrArg some (by kernel_rfl))
  f166 := Tryz.func205.trans (congrArg some (by kernel_rfl))
  f169 := Tryz.func206.trans (congrArg some (by kernel_rfl))
  f195 := Tryz.func242.trans (congrArg some (by kernel_rfl))
  f197 := Tryz.func175.trans (congrArg some (by kernel_rfl))
  f217 := Tryz.func184.trans (congrArg some (by kernel_rfl))
  f218 := Tryz.func243.trans (congrArg some (by kernel_rfl))
  f219 := Tryz.func238.trans (congrArg some (by kernel_rfl))
  f224 := Tryz.func236.trans (congrArg some (by kernel_rfl))
  f225 := Tryz.func237.trans (congrArg some (by kernel_rfl))
  f240 := Tryz.func229.trans (congrArg some (by kernel_rfl))
  f241 := Tryz.func230.trans (congrArg some (by kernel_rfl))
  f260 := Tryz.func209.trans (congrArg some (by kernel_rfl))
  f266 := Tryz.func215.trans (congrArg some (by kernel_rfl))
  f267 := Tryz.func259.trans (congrArg some (by kernel_rfl))
  f276 := Tryz.func253.trans (congrArg some (by kernel_rfl))
  f277 := Tryz.func254.trans (congrArg some (by kernel_rfl))
  f314 := Tryz.func267.trans (congrArg some (by kernel_rfl))
  t0 := Tryz.underlying0
  a0 := Tryz.isAgg0
  z0 := Tryz.sizeOf0
  v0 := Tryz.zeroValue0
  t3 := Tryz.underlying3
  a3 := Tryz.isAgg3
  z3 := Tryz.sizeOf3
  v3 := Tryz.zeroValue3
  t4 := Tryz.underlying4
  a4 := Tryz.isAgg4
  z4 := Tryz.sizeOf4
  v4 := Tryz.zeroValue4
  t5 := Tryz.underlying5
  a5 := Tryz.isAgg5
  z5 := Tryz.sizeOf5
  v5 := Tryz.zeroValue5
  t9 := Tryz.underlying9
  a9 := Tryz.isAgg9
  z9 := Tryz.sizeOf9
  v9 := Tryz.zeroValue9
  t20 := Tryz.underlying20
  a20 := Tryz.isAgg20
  z20 := Tryz.sizeOf20
  v20 := Tryz.zeroValue20
  t21 := Tryz.underlying21
  a21 := Tryz.isAgg21
  z21 := Tryz.sizeOf21
  v21 := Tryz.zeroValue21
  t37 := Tryz.underlying166
  a37 := Tryz.isAgg166
  z37 := Tryz.sizeOf166
  v37 := Tryz.zeroValue166
  t46 := Tryz.underlying261
  a46 := Tryz.isAgg261
  z46 := Tryz.sizeOf261
  v46 := Tryz.zeroValue261
  t51 := Tryz.underlying270
  a51 := Tryz.isAgg270
  z51 := Tryz.sizeOf270
  v51 := Tryz.zeroValue270
  t70 := Tryz.underlying230
  a70 := Tryz.isAgg230
  z70 := Tryz.sizeOf230
  v70 := Tryz.zeroValue230
  t72 := Tryz.underlying232
  a72 := Tryz.isAgg232
  z72 := Tryz.sizeOf232
  v72 := Tryz.zeroValue232
  t75 := Tryz.underlying235
  a75 := Tryz.isAgg235
  z75 := Tryz.sizeOf235
  v75 := Tryz.zeroValue235
  t76 := Tryz.underlying236
  a76 := Tryz.isAgg236
  z76 := Tryz.sizeOf236
  v76 := Tryz.zeroValue236
  t105 := Tryz.underlying202
  a105 := Tryz.isAgg202
  z105 := Tryz.sizeOf202
  v105 := Tryz.zeroValue202
  t119 := Tryz.underlying260
  a119 := Tryz.isAgg260
  z119 := Tryz.sizeOf260
  t127 := Tryz.underlying256
  a127 := Tryz.isAgg256
  z127 := Tryz.sizeOf256
  v127 := Tryz.zeroValue256
  t138 := Tryz.underlying263
  a138 := Tryz.isAgg263
  z138 := Tryz.sizeOf263
  v138 := Tryz.zeroValue263
  t139 := Tryz.underlying264
  a139 := Tryz.isAgg264
  z139 := Tryz.sizeOf264
  v139 := Tryz.zeroValue264
  t146 := Tryz.underlying282
  a146 := Tryz.isAgg282
  z146 := Tryz.sizeOf282
  v146 := Tryz.zeroValue282
  t164 := Tryz.underlying274
  a164 := Tryz.isAgg274
  z164 := Tryz.sizeOf274
  v164 := Tryz.zeroValue274
  g1 := by kernel_rfl
  g3 := by kernel_rfl
  g4 := by kernel_rfl }
theorem Tryz.Builder_Extra_155 : Builder.Extra Tryz.prog Tryz.lays155_ren := {
  sizeBuilder := by kernel_rfl
  liesBuilder := by kernel_rfl
  t5 := Tryz.underlying5
  a5 := Tryz.isAgg5
  z5 := Tryz.sizeOf5
  v5 := Tryz.zeroValue5
  infoByte := by kernel_rfl
  cellsByte := by kernel_rfl
  sizeByte := by kernel_rfl
  neB5 := by decide }
open Go.RowKit Go.Lib in
theorem Tryz.strings_ReplaceAll (s old new : ByteArray) (m : Int) (w : World) (hs : s.size < 4294967281) (hm : w.cell? ⟨6, 0, none⟩ = some (.int .i64 m)) (h1 : 1 ≤ old.size) (hlen : s.size + Lib.countB s old * new.size ≤ 140737488355328) :
    Calls Tryz.prog 150 #[.string s, .string old, .string new] w fun e w' =>
      e = .returned (.string ⟨(Lib.replaceAll s.data.toList old.data.toList new.data.toList).toArray⟩) ∧ Below w.heap.size w w' := Any.strings_ReplaceAll Tryz.lays155 Tryz.Builder_Extra_155 s old new m w hs hm h1 hlen
def Tryz.lays264_ren : Go.Shelf.Ren := ⟨fun | 264 => 213 | n => n, fun | 53 => 208 | 46 => 261 | n => n, fun | n => n⟩
theorem Tryz.lays264 : Go.Proofs.Lays.n264 Tryz.prog Tryz.lays264_ren := {
  mixed := by kernel_rfl
  f264 := Tryz.func213.trans (congrArg some (by kernel_rfl))
  t46 := Tryz.underlying261
  a46 := Tryz.isAgg261
  z46 := Tryz.sizeOf261
  v46 := Tryz.zeroValue261
  t53 := Tryz.underlying208
  a53 := Tryz.isAgg208
  z53 := Tryz.sizeOf208
  v53 := Tryz.zeroValue208 }
open Go.RowKit Go.Lib in
theorem Tryz.bits_Mul64 (x y : Nat) (hx : x < 18446744073709551616) (hy : y < 18446744073709551616) (w : World) :
    Calls Tryz.prog 213 #[.int .u64 x, .int .u64 y] w fun e w' => e = .returned (.tuple #[.int .u64 ((x * y / 18446744073709551616 : Nat) : Int), .int .u64 ((x * y % 18446744073709551616 : Nat) : Int)]) ∧ w' = w := Any.bits_Mul64 Tryz.lays264 x y hx hy w
end Go.Proofs
