/- Plain: cells, areas, names and references of layer 4, as the document has them. -/
import Derived.Lib.IndexMore
import Derived.Lib.ItoaNum
import Derived.Lib.Atoi
import Derived.Lib.CutLaws
namespace Go.Proofs.YtlgmpoofcdkaeaaDoor

/-- A cell as a formula names it. -/
structure Rf where
  col : Int
  row : Int
  fc : Bool
  fr : Bool
/-- With its sheet and its book. -/
structure Fl where
  book : ByteArray
  sheet : ByteArray
  a : Rf
  b : Rf
  wide : Bool
def zeroR : Rf := ⟨0, 0, false, false⟩
def zeroF : Fl := ⟨⟨#[]⟩, ⟨#[]⟩, zeroR, zeroR, false⟩
def cellG (c r : Int) : Bool := decide (0 ≤ c) && decide (c < 64) && decide (0 ≤ r) && decide (r < 1024)
def areaC (a b c d : Int) : Int := (c - a + 1) * (d - b + 1)
/-- The area from column a, row b, to column c, row d. -/
def areaG (a b c d : Int) : Bool := cellG a b && cellG c d && decide (a ≤ c) && decide (b ≤ d) && decide (areaC a b c d ≤ 4096)
def areaN (a b c d : Int) : Int := if areaG a b c d = true then areaC a b c d else 0
def isLet (c : UInt8) : Bool := (decide (65 ≤ c.toNat) && decide (c.toNat ≤ 90)) || (decide (97 ≤ c.toNat) && decide (c.toNat ≤ 122))
def isDg (c : UInt8) : Bool := decide (48 ≤ c.toNat) && decide (c.toNat ≤ 57)
def inNm (c : UInt8) : Bool := isLet c || isDg c || c == 95
def nameG (l : List UInt8) : Bool := decide (1 ≤ l.length) && decide (l.length ≤ 16) && !(isDg (l.headD 0)) && l.all inNm
def goodF (f : Fl) : Bool :=
  (f.sheet.data.toList.isEmpty || nameG f.sheet.data.toList) && (f.book.data.toList.isEmpty || (!f.sheet.data.toList.isEmpty && nameG f.book.data.toList)) &&
    (if f.wide = true then areaG f.a.col f.a.row f.b.col f.b.row else (f.b.col == 0 && f.b.row == 0 && !f.b.fc && !f.b.fr) && cellG f.a.col f.a.row)
def colT (n : Nat) : List UInt8 := if n < 26 then [UInt8.ofNat (65 + n)] else [UInt8.ofNat (64 + n / 26), UInt8.ofNat (65 + n % 26)]
def dlr (b : Bool) : List UInt8 := if b = true then [36] else []
def dgC (k : Nat) : UInt8 := UInt8.ofNat (48 + k)
def dgT (n : Nat) : List UInt8 :=
  if n < 10 then [dgC n] else if n < 100 then [dgC (n / 10), dgC (n % 10)] else if n < 1000 then [dgC (n / 100), dgC (n / 10 % 10), dgC (n % 10)]
  else [dgC (n / 1000), dgC (n / 100 % 10), dgC (n / 10 % 10), dgC (n % 10)]
def refT (r : Rf) : List UInt8 := if cellG r.col r.row = true then dlr r.fc ++ colT r.col.toNat ++ dlr r.fr ++ dgT (r.row.toNat + 1) else []
def bookT (l : List UInt8) : List UInt8 := if l.isEmpty = true then [] else 91 :: (l ++ [93])
def sheetT (l : List UInt8) : List UInt8 := if l.isEmpty = true then [] else l ++ [33]
def fullT (f : Fl) : List UInt8 :=
  if goodF f = true then bookT f.book.data.toList ++ (sheetT f.sheet.data.toList ++ (refT f.a ++ (if f.wide = true then 58 :: refT f.b else []))) else []
def upL (c : UInt8) : UInt8 := if 97 ≤ c.toNat ∧ c.toNat ≤ 122 then UInt8.ofNat (c.toNat - 32) else c
def loL (c : UInt8) : UInt8 := if 65 ≤ c.toNat ∧ c.toNat ≤ 90 then UInt8.ofNat (c.toNat + 32) else c
def colV (l : List UInt8) : Nat := l.foldl (fun n c => n * 26 + ((upL c).toNat - 65) + 1) 0
def rowV (l : List UInt8) : Nat := l.foldl (fun n c => n * 10 + (c.toNat - 48)) 0
def dolB (l : List UInt8) : Bool := l.head? == some 36
def dolR (l : List UInt8) : List UInt8 := if dolB l = true then l.tail else l
def letsL (l : List UInt8) : List UInt8 := (dolR l).takeWhile isLet
def restL (l : List UInt8) : List UInt8 := (dolR l).dropWhile isLet
def ref1B (l : List UInt8) : Bool :=
  decide (1 ≤ (letsL l).length) && decide ((letsL l).length ≤ 3) && decide (1 ≤ (dolR (restL l)).length) && decide ((dolR (restL l)).length ≤ 5) && !((dolR (restL l)).headD 0 == 48) && (dolR (restL l)).all isDg
def ref1V (l : List UInt8) : Rf := ⟨(colV (letsL l) : Int) - 1, (rowV (dolR (restL l)) : Int) - 1, dolB l, dolB (restL l)⟩
def ref1 (l : List UInt8) : Option Rf := if ref1B l = true then some (ref1V l) else none
def refP (l : List UInt8) : Rf × Int :=
  match ref1 l with
  | none => (zeroR, 4)
  | some r => if cellG r.col r.row = true then (r, 0) else (zeroR, 3)
def cornA (a b : Rf) : Rf := ⟨if b.col < a.col then b.col else a.col, if b.row < a.row then b.row else a.row, if b.col < a.col then b.fc else a.fc, if b.row < a.row then b.fr else a.fr⟩
def cornB (a b : Rf) : Rf := ⟨if b.col < a.col then a.col else b.col, if b.row < a.row then a.row else b.row, if b.col < a.col then a.fc else b.fc, if b.row < a.row then a.fr else b.fr⟩
/-- A text in its book, its sheet, and what stands behind them. -/
def bkB (l : List UInt8) : Bool := l.head? == some 91
def bkC (l : List UInt8) : List UInt8 × List UInt8 × Bool := Lib.cut l.tail [93]
def bkOk (l : List UInt8) : Bool := !(bkB l) || ((bkC l).2.2 && nameG (bkC l).1)
def bkR (l : List UInt8) : List UInt8 := if bkB l = true then (bkC l).2.1 else l
def shC (l : List UInt8) : List UInt8 × List UInt8 × Bool := Lib.cut (bkR l) [33]
def shOk (l : List UInt8) : Bool := if (shC l).2.2 = true then nameG (shC l).1 else !(bkB l)
def partOk (l : List UInt8) : Bool := bkOk l && shOk l
def partB (l : List UInt8) : List UInt8 := if bkB l = true then (bkC l).1 else []
def partS (l : List UInt8) : List UInt8 := if (shC l).2.2 = true then (shC l).1 else []
def partP (l : List UInt8) : List UInt8 := if (shC l).2.2 = true then (shC l).2.1 else bkR l
def plC (l : List UInt8) : List UInt8 × List UInt8 × Bool := Lib.cut (partP l) [58]
def formOk (l : List UInt8) : Bool := partOk l && (ref1B (plC l).1 && (!(plC l).2.2 || ref1B (plC l).2.1))
def formF (l : List UInt8) : Fl := ⟨⟨(partB l).toArray⟩, ⟨(partS l).toArray⟩, ref1V (plC l).1, if (plC l).2.2 = true then ref1V (plC l).2.1 else zeroR, (plC l).2.2⟩
def turnF (f : Fl) : Fl := if f.wide = true then ⟨f.book, f.sheet, cornA f.a f.b, cornB f.a f.b, f.wide⟩ else f
def fullP (l : List UInt8) : Fl × Int :=
  if formOk l = true then
    if (cellG (formF l).a.col (formF l).a.row && cellG (formF l).b.col (formF l).b.row) = true then
      if goodF (turnF (formF l)) = true then (turnF (formF l), 0) else (zeroF, 7)
    else (zeroF, 3)
  else (zeroF, 4)
def spanG (f : Fl) : Int × Int × Int × Int := if f.wide = true then (f.a.col, f.a.row, f.b.col, f.b.row) else (f.a.col, f.a.row, f.a.col, f.a.row)

theorem dg_toNat (k : Nat) (h : k < 10) : (dgC k).toNat = 48 + k := by unfold dgC; rw [UInt8.toNat_ofNat']; omega
theorem dec_dg (n : Nat) (h : n < 10000) : Lib.decDigits n = dgT n := by
  unfold dgT
  by_cases h1 : n < 10
  · rw [if_pos h1, Lib.decDigits, dif_pos h1]; rfl
  · rw [if_neg h1, Lib.decDigits, dif_neg h1]
    by_cases h2 : n < 100
    · rw [if_pos h2, Lib.decDigits, dif_pos (by omega)]; rfl
    · rw [if_neg h2, Lib.decDigits, dif_neg (by omega)]
      by_cases h3 : n < 1000
      · rw [if_pos h3, Lib.decDigits, dif_pos (by omega), show n / 10 / 10 = n / 100 by omega]; rfl
      · rw [if_neg h3, Lib.decDigits, dif_neg (by omega), Lib.decDigits, dif_pos (by omega), show n / 10 / 10 / 10 = n / 1000 by omega, show n / 10 / 10 = n / 100 by omega]; rfl
theorem col_spec : ∀ n : Fin 64, (colT n.1).all isLet = true ∧ ((colT n.1).map loL).all isLet = true ∧ 1 ≤ (colT n.1).length ∧ (colT n.1).length ≤ 2 ∧ colV (colT n.1) = n.1 + 1 ∧ colV ((colT n.1).map loL) = n.1 + 1 := by decide +kernel
theorem row_spec : ∀ n : Fin 1024, (dgT (n.1 + 1)).all isDg = true ∧ 1 ≤ (dgT (n.1 + 1)).length ∧ (dgT (n.1 + 1)).length ≤ 4 ∧ ((dgT (n.1 + 1)).headD 0 == 48) = false ∧ rowV (dgT (n.1 + 1)) = n.1 + 1 := by decide +kernel
theorem cellG_iff (c r : Int) : cellG c r = true ↔ 0 ≤ c ∧ c < 64 ∧ 0 ≤ r ∧ r < 1024 := by
  unfold cellG; simp [and_assoc]
end Go.Proofs.YtlgmpoofcdkaeaaDoor
