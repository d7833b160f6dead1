/- Plain: cells, areas, names and references of layer 4, as the document has them. -/
import Derived.Lib.IndexMore
import Derived.Lib.ItoaNum
import Derived.Lib.Atoi
import Derived.Lib.CutLaws
namespace Go.Proofs.YtloamahbghjjgaaGreatDoor

/-- A cell as a formula names it. -/
structure Rf where
  col : Int
  row : Int
  fc : Bool
  fr : Bool
/-- With its sheet and its book. -/
structure Fl where
  book : ByteArray
  sheet : ByteArray
  a : Rf
  b : Rf
  wide : Bool
def zeroR : Rf := ⟨0, 0, false, false⟩
def zeroF : Fl := ⟨⟨#[]⟩, ⟨#[]⟩, zeroR, zeroR, false⟩
def cellG (c r : Int) : Bool := decide (0 ≤ c) && decide (c < 64) && decide (0 ≤ r) && decide (r < 1024)
def areaC (a b c d : Int) : Int := (c - a + 1) * (d - b + 1)
/-- The area from column a, row b, to column c, row d. -/
def areaG (a b c d : Int) : Bool := cellG a b && cellG c d && decide (a ≤ c) && decide (b ≤ d) && decide (areaC a b c d ≤ 4096)
def areaN (a b c d : Int) : Int := if areaG a b c d = true then areaC a b c d else 0
def isLet (c : UInt8) : Bool := (decide (65 ≤ c.toNat) && decide (c.toNat ≤ 90)) || (decide (97 ≤ c.toNat) && decide (c.toNat ≤ 122))
def isDg (c : UInt8) : Bool := decide (48 ≤ c.toNat) && decide (c.toNat ≤ 57)
def inNm (c : UInt8) : Bool := isLet c || isDg c || c == 95
def nameG (l : List UInt8) : Bool := decide (1 ≤ l.length) && decide (l.length ≤ 16) && !(isDg (l.headD 0)) && l.all inNm
def goodF (f : Fl) : Bool :=
  (f.sheet.data.toList.isEmpty || nameG f.sheet.data.toList) && (f.book.data.toList.isEmpty || (!f.sheet.data.toList.isEmpty && nameG f.book.data.toList)) &&
    (if f.wide = true then areaG f.a.col f.a.row f.b.col f.b.row else (f.b.col == 0 && f.b.row == 0 && !f.b.fc && !f.b.fr) && cellG f.a.col f.a.row)
def colT (n : Nat) : List UInt8 := if n < 26 then [UInt8.ofNat (65 + n)] else [UInt8.ofNat (64 + n / 26), UInt8.ofNat (65 + n % 26)]
def dlr (b : Bool) : List UInt8 := if b = true then [36] else []
def dgC (k : Nat) : UInt8 := UInt8.ofNat (48 + k)
def dgT (n : Nat) : List UInt8 :=
  if n < 10 then [dgC n] else if n < 100 then [dgC (n / 10), dgC (n % 10)] else if n < 1000 then [dgC (n / 100), dgC (n / 10 % 10), dgC (n % 10)]
  else [dgC (n / 1000), dgC (n / 100 % 10), dgC (n / 10 % 10), dgC (n % 10)]
def refT (r : Rf) : List UInt8 := if cellG r.col r.row = true then dlr r.fc ++ colT r.col.toNat ++ dlr r.fr ++ dgT (r.row.toNat + 1) else []
def bookT (l : List UInt8) : List UInt8 := if l.isEmpty = true then [] else 91 :: (l ++ [93])
def sheetT (l : List UInt8) : List UInt8 := if l.isEmpty = true then [] else l ++ [33]
def fullT (f : Fl) : List UInt8 :=
  if goodF f = true then bookT f.book.data.toList ++ (sheetT f.sheet.data.toList ++ (refT f.a ++ (if f.wide = true then 58 :: refT f.b else []))) else []
def upL (c : UInt8) : UInt8 := if 97 ≤ c.toNat ∧ c.toNat ≤ 122 then UInt8.ofNat (c.toNat - 32) else c
def loL (c : UInt8) : UInt8 := if 65 ≤ c.toNat ∧ c.toNat ≤ 90 then UInt8.ofNat (c.toNat + 32) else c
def colV (l : List UInt8) : Nat := l.foldl (fun n c => n * 26 + ((upL c).toNat - 65) + 1) 0
def rowV (l : List UInt8) : Nat := l.foldl (fun n c => n * 10 + (c.toNat - 48)) 0
def dolB (l : List UInt8) : Bool := l.head? == some 36
def dolR (l : List UInt8) : List UInt8 := if dolB l = true then l.tail else l
def letsL (l : List UInt8) : List UInt8 := (dolR l).takeWhile isLet
def restL (l : List UInt8) : List UInt8 := (dolR l).dropWhile isLet
def ref1B (l : List UInt8) : Bool :=
  decide (1 ≤ (letsL l).length) && decide ((letsL l).length ≤ 3) && decide (1 ≤ (dolR (restL l)).length) && decide ((dolR (restL l)).length ≤ 5) && !((dolR (restL l)).headD 0 == 48) && (dolR (restL l)).all isDg
def ref1V (l : List UInt8) : Rf := ⟨(colV (letsL l) : Int) - 1, (rowV (dolR (restL l)) : Int) - 1, dolB l, dolB (restL l)⟩
def ref1 (l : List UInt8) : Option Rf := if ref1B l = true then some (ref1V l) else none
def refP (l : List UInt8) : Rf × Int :=
  match ref1 l with
  | none => (zeroR, 4)
  | some r => if cellG r.col r.row = true then (r, 0) else (zeroR, 3)
def cornA (a b : Rf) : Rf := ⟨if b.col < a.col then b.col else a.col, if b.row < a.row then b.row else a.row, if b.col < a.col then b.fc else a.fc, if b.row < a.row then b.fr else a.fr⟩
def cornB (a b : Rf) : Rf := ⟨if b.col < a.col then a.col else b.col, if b.row < a.row then a.row else b.row, if b.col < a.col then a.fc else b.fc, if b.row < a.row then a.fr else b.fr⟩
/-- A text in its book, its sheet, and what stands behind them. -/
def bkB (l : List UInt8) : Bool := l.head? == some 91
def bkC (l : List UInt8) : List UInt8 × List UInt8 × Bool := Lib.cut l.tail [93]
def bkOk (l : List UInt8) : Bool := !(bkB l) || ((bkC l).2.2 && nameG (bkC l).1)
def bkR (l : List UInt8) : List UInt8 := if bkB l = true then (bkC l).2.1 else l
def shC (l : List UInt8) : List UInt8 × List UInt8 × Bool := Lib.cut (bkR l) [33]
def shOk (l : List UInt8) : Bool := if (shC l).2.2 = true then nameG (shC l).1 else !(bkB l)
def partOk (l : List UInt8) : Bool := bkOk l && shOk l
def partB (l : List UInt8) : List UInt8 := if bkB l = true then (bkC l).1 else []
def partS (l : List UInt8) : List UInt8 := if (shC l).2.2 = true then (shC l).1 else []
def partP (l : List UInt8) : List UInt8 := if (shC l).2.2 = true then (shC l).2.1 else bkR l
def plC (l : List UInt8) : List UInt8 × List UInt8 × Bool := Lib.cut (partP l) [58]
def formOk (l : List UInt8) : Bool := partOk l && (ref1B (plC l).1 && (!(plC l).2.2 || ref1B (plC l).2.1))
def formF (l : List UInt8) : Fl := ⟨⟨(partB l).toArray⟩, ⟨(partS l).toArray⟩, ref1V (plC l).1, if (plC l).2.2 = true then ref1V (plC l).2.1 else zeroR, (plC l).2.2⟩
def turnF (f : Fl) : Fl := if f.wide = true then ⟨f.book, f.sheet, cornA f.a f.b, cornB f.a f.b, f.wide⟩ else f
def fullP (l : List UInt8) : Fl × Int :=
  if formOk l = true then
    if (cellG (formF l).a.col (formF l).a.row && cellG (formF l).b.col (formF l).b.row) = true then
      if goodF (turnF (formF l)) = true then (turnF (formF l), 0) else (zeroF, 7)
    else (zeroF, 3)
  else (zeroF, 4)
def spanG (f : Fl) : Int × Int × Int × Int := if f.wide = true then (f.a.col, f.a.row, f.b.col, f.b.row) else (f.a.col, f.a.row, f.a.col, f.a.row)

theorem dg_toNat (k : Nat) (h : k < 10) : (dgC k).toNat = 48 + k := by unfold dgC; rw [UInt8.toNat_ofNat']; omega
theorem dec_dg (n : Nat) (h : n < 10000) : Lib.decDigits n = dgT n := by
  unfold dgT
  by_cases h1 : n < 10
  · rw [if_pos h1, Lib.decDigits, dif_pos h1]; rfl
  · rw [if_neg h1, Lib.decDigits, dif_neg h1]
    by_cases h2 : n < 100
    · rw [if_pos h2, Lib.decDigits, dif_pos (by omega)]; rfl
    · rw [if_neg h2, Lib.decDigits, dif_neg (by omega)]
      by_cases h3 : n < 1000
      · rw [if_pos h3, Lib.decDigits, dif_pos (by omega), show n / 10 / 10 = n / 100 by omega]; rfl
      · rw [if_neg h3, Lib.decDigits, dif_neg (by omega), Lib.decDigits, dif_pos (by omega), show n / 10 / 10 / 10 = n / 1000 by omega, show n / 10 / 10 = n / 100 by omega]; rfl
theorem col_spec : ∀ n : Fin 64, (colT n.1).all isLet = true ∧ ((colT n.1).map loL).all isLet = true ∧ 1 ≤ (colT n.1).length ∧ (colT n.1).length ≤ 2 ∧ colV (colT n.1) = n.1 + 1 ∧ colV ((colT n.1).map loL) = n.1 + 1 := by decide +kernel
theorem row_spec : ∀ n : Fin 1024, (dgT (n.1 + 1)).all isDg = true ∧ 1 ≤ (dgT (n.1 + 1)).length ∧ (dgT (n.1 + 1)).length ≤ 4 ∧ ((dgT (n.1 + 1)).headD 0 == 48) = false ∧ rowV (dgT (n.1 + 1)) = n.1 + 1 := by decide +kernel
theorem cellG_iff (c r : Int) : cellG c r = true ↔ 0 ≤ c ∧ c < 64 ∧ 0 ≤ r ∧ r < 1024 := by
  unfold cellG; simp [and_assoc]
end Go.Proofs.YtloamahbghjjgaaGreatDoor

namespace Go.Proofs.YtloamahbghjjgaaGreatDoor

theorem cutC_none (k : UInt8) : ∀ (l : List UInt8), (∀ c, c ∈ l → c ≠ k) → Lib.cut l [k] = (l, [], false) := by
  intro l h
  have hi : Lib.index l [k] = -1 := by
    induction l with
    | nil => rfl
    | cons b l ih =>
      have hb : b ≠ k := h b (by simp)
      have := ih (fun c hc => h c (by simp [hc]))
      unfold Lib.index
      rw [this]
      have e : ([k] : List UInt8).isPrefixOf (b :: l) = false := by simp [List.isPrefixOf, Ne.symm hb]
      rw [e]; rfl
  unfold Lib.cut
  rw [hi]; rfl
theorem cutC_at (k : UInt8) (l r : List UInt8) (h : ∀ c, c ∈ l → c ≠ k) : Lib.cut (l ++ k :: r) [k] = (l, r, true) := by
  have hi : Lib.index (l ++ k :: r) [k] = (l.length : Int) := by
    induction l with
    | nil => unfold Lib.index; simp [List.isPrefixOf]
    | cons b l ih =>
      have hb : b ≠ k := h b (by simp)
      have := ih (fun c hc => h c (by simp [hc]))
      rw [List.cons_append]
      unfold Lib.index
      rw [this]
      have e : ([k] : List UInt8).isPrefixOf (b :: (l ++ k :: r)) = false := by simp [List.isPrefixOf, Ne.symm hb]
      have e2 : ((l.length : Int) == -1) = false := by rw [beq_eq_false_iff_ne]; omega
      rw [e, e2]
      simp
  unfold Lib.cut
  rw [hi, if_pos (by omega)]
  simp
theorem tw_app (p : UInt8 → Bool) (r : List UInt8) (hr : r.takeWhile p = []) : ∀ (c : List UInt8), c.all p = true → (c ++ r).takeWhile p = c ∧ (c ++ r).dropWhile p = r
  | [], _ => by
    refine ⟨hr, ?_⟩
    have h := List.takeWhile_append_dropWhile (p := p) (l := r)
    rw [hr, List.nil_append] at h
    exact h
  | b :: c, h => by
    rw [List.all_cons, Bool.and_eq_true] at h
    obtain ⟨i1, i2⟩ := tw_app p r hr c h.2
    refine ⟨?_, ?_⟩
    · rw [List.cons_append, List.takeWhile_cons, if_pos h.1, i1]
    · rw [List.cons_append, List.dropWhile_cons, if_pos h.1, i2]
theorem let_36 (c : UInt8) (h : isLet c = true) : c ≠ 36 := by
  intro e; subst e; exact absurd h (by decide)
theorem dg_36 (c : UInt8) (h : isDg c = true) : c ≠ 36 := by
  intro e; subst e; exact absurd h (by decide)
theorem dg_let (c : UInt8) (h : isDg c = true) : isLet c = false := by
  unfold isDg at h
  unfold isLet
  simp at h ⊢
  omega
/-- What is written is read. -/
theorem ref1_mk (fc fr : Bool) (c d : List UInt8) (hc : c.all isLet = true) (c1 : 1 ≤ c.length) (c3 : c.length ≤ 3) (hd : d.all isDg = true) (d1 : 1 ≤ d.length) (d5 : d.length ≤ 5) (d0 : (d.headD 0 == 48) = false) :
    ref1B (dlr fc ++ c ++ dlr fr ++ d) = true ∧ ref1V (dlr fc ++ c ++ dlr fr ++ d) = ⟨(colV c : Int) - 1, (rowV d : Int) - 1, fc, fr⟩ := by
  obtain ⟨x, d', rfl⟩ : ∃ x d', d = x :: d' := by
    match d, d1 with
    | x :: d', _ => exact ⟨x, d', rfl⟩
  obtain ⟨y, c', rfl⟩ : ∃ x d', c = x :: d' := by
    match c, c1 with
    | x :: d', _ => exact ⟨x, d', rfl⟩
  have hx : isDg x = true := by rw [List.all_cons, Bool.and_eq_true] at hd; exact hd.1
  have hy : isLet y = true := by rw [List.all_cons, Bool.and_eq_true] at hc; exact hc.1
  have x36 : (x == 36) = false := by rw [beq_eq_false_iff_ne]; exact dg_36 x hx
  have y36 : (y == 36) = false := by rw [beq_eq_false_iff_ne]; exact let_36 y hy
  have hD2 : dolB (dlr fr ++ x :: d') = fr ∧ dolR (dlr fr ++ x :: d') = x :: d' := by
    cases fr
    · have e : dolB (dlr false ++ x :: d') = false := by show (some x == some 36) = false; simpa using dg_36 x hx
      exact ⟨e, by unfold dolR; rw [e]; rfl⟩
    · exact ⟨rfl, rfl⟩
  have hD1 : dolB (dlr fc ++ (y :: c') ++ dlr fr ++ x :: d') = fc ∧ dolR (dlr fc ++ (y :: c') ++ dlr fr ++ x :: d') = (y :: c') ++ (dlr fr ++ x :: d') := by
    cases fc
    · have e : dolB (dlr false ++ (y :: c') ++ dlr fr ++ x :: d') = false := by show (some y == some 36) = false; simpa using let_36 y hy
      refine ⟨e, ?_⟩
      unfold dolR
      rw [e]
      show [] ++ (y :: c') ++ dlr fr ++ x :: d' = _
      simp
    · refine ⟨rfl, ?_⟩
      show ([] ++ (y :: c') ++ dlr fr ++ x :: d') = _
      simp
  have hT : (dlr fr ++ x :: d').takeWhile isLet = [] := by
    cases fr
    · show (x :: d').takeWhile isLet = []
      rw [List.takeWhile_cons, if_neg (by rw [dg_let x hx]; simp)]
    · rfl
  obtain ⟨t1, t2⟩ := tw_app isLet (dlr fr ++ x :: d') hT (y :: c') hc
  have hL : letsL (dlr fc ++ (y :: c') ++ dlr fr ++ x :: d') = y :: c' := by unfold letsL; rw [hD1.2, t1]
  have hR : restL (dlr fc ++ (y :: c') ++ dlr fr ++ x :: d') = dlr fr ++ x :: d' := by unfold restL; rw [hD1.2, t2]
  refine ⟨?_, ?_⟩
  · unfold ref1B
    rw [hL, hR, hD2.2, decide_eq_true c1, decide_eq_true c3, decide_eq_true d1, decide_eq_true d5, d0, hd]
    rfl
  · unfold ref1V
    rw [hL, hR, hD2.1, hD2.2, hD1.1]
theorem loL_dg (c : UInt8) (h : isDg c = true) : loL c = c := by
  unfold isDg at h
  unfold loL
  simp at h
  rw [if_neg (by omega)]
theorem map_dg : ∀ (d : List UInt8), d.all isDg = true → d.map loL = d
  | [], _ => rfl
  | c :: d, h => by
    rw [List.all_cons, Bool.and_eq_true] at h
    rw [List.map_cons, loL_dg c h.1, map_dg d h.2]
theorem refT_good (r : Rf) (h : cellG r.col r.row = true) : refT r = dlr r.fc ++ colT r.col.toNat ++ dlr r.fr ++ dgT (r.row.toNat + 1) := by
  unfold refT; rw [if_pos h]
theorem map_dlr (b : Bool) : (dlr b).map loL = dlr b := by cases b <;> rfl
theorem ref1_back (r : Rf) (h : cellG r.col r.row = true) :
    (ref1B (refT r) = true ∧ ref1V (refT r) = r) ∧ (ref1B ((refT r).map loL) = true ∧ ref1V ((refT r).map loL) = r) := by
  have hi := (cellG_iff _ _).1 h
  obtain ⟨a1, a2, a3, a4, a5, a6⟩ := col_spec ⟨r.col.toNat, by omega⟩
  obtain ⟨b1, b2, b3, b4, b5⟩ := row_spec ⟨r.row.toNat, by omega⟩
  simp only [] at a1 a2 a3 a4 a5 a6 b1 b2 b3 b4 b5
  rw [refT_good r h]
  have e : ∀ n m : Nat, n = r.col.toNat + 1 → m = r.row.toNat + 1 → (⟨(n : Int) - 1, (m : Int) - 1, r.fc, r.fr⟩ : Rf) = r := by
    intro n m hn hm
    obtain ⟨c, w, f, g⟩ := r
    simp only [] at hn hm hi ⊢
    have e1 : (n : Int) - 1 = c := by omega
    have e2 : (m : Int) - 1 = w := by omega
    rw [e1, e2]
  refine ⟨?_, ?_⟩
  · obtain ⟨h1, h2⟩ := ref1_mk r.fc r.fr (colT r.col.toNat) (dgT (r.row.toNat + 1)) a1 a3 (by omega) b1 b2 (by omega) b4
    exact ⟨h1, by rw [h2, e _ _ a5 b5]⟩
  · obtain ⟨h1, h2⟩ := ref1_mk r.fc r.fr ((colT r.col.toNat).map loL) (dgT (r.row.toNat + 1)) a2 (by rw [List.length_map]; exact a3) (by rw [List.length_map]; omega) b1 b2 (by omega) b4
    rw [List.map_append, List.map_append, List.map_append, map_dlr, map_dlr, map_dg _ b1]
    exact ⟨h1, by rw [h2, e _ _ a6 b5]⟩
/-- None of the signs that part a reference. -/
def plainL (l : List UInt8) : Prop := ∀ c, c ∈ l → c ≠ 91 ∧ c ≠ 93 ∧ c ≠ 33 ∧ c ≠ 58
theorem plain_app {l r : List UInt8} (h : plainL l) (k : plainL r) : plainL (l ++ r) := by
  intro c hc
  rcases List.mem_append.1 hc with h1 | h1
  · exact h c h1
  · exact k c h1
theorem plain_all (p : UInt8 → Bool) (hp : ∀ c, p c = true → c ≠ 91 ∧ c ≠ 93 ∧ c ≠ 33 ∧ c ≠ 58) (l : List UInt8) (h : l.all p = true) : plainL l := by
  intro c hc
  rw [List.all_eq_true] at h
  exact hp c (h c hc)
theorem let_plain (c : UInt8) (h : isLet c = true) : c ≠ 91 ∧ c ≠ 93 ∧ c ≠ 33 ∧ c ≠ 58 := by
  refine ⟨?_, ?_, ?_, ?_⟩ <;> (intro e; subst e; exact absurd h (by decide))
theorem dg_plain (c : UInt8) (h : isDg c = true) : c ≠ 91 ∧ c ≠ 93 ∧ c ≠ 33 ∧ c ≠ 58 := by
  refine ⟨?_, ?_, ?_, ?_⟩ <;> (intro e; subst e; exact absurd h (by decide))
theorem nm_plain (c : UInt8) (h : inNm c = true) : c ≠ 91 ∧ c ≠ 93 ∧ c ≠ 33 ∧ c ≠ 58 := by
  refine ⟨?_, ?_, ?_, ?_⟩ <;> (intro e; subst e; exact absurd h (by decide))
theorem dlr_plain (b : Bool) : plainL (dlr b) := by
  intro c hc
  cases b
  · cases hc
  · rw [show c = 36 by simpa [dlr] using hc]; decide
theorem refT_plain (r : Rf) (h : cellG r.col r.row = true) : plainL (refT r) ∧ plainL ((refT r).map loL) := by
  have hi := (cellG_iff _ _).1 h
  obtain ⟨a1, a2, _, _, _, _⟩ := col_spec ⟨r.col.toNat, by omega⟩
  obtain ⟨b1, _, _, _, _⟩ := row_spec ⟨r.row.toNat, by omega⟩
  simp only [] at a1 a2 b1
  rw [refT_good r h]
  refine ⟨plain_app (plain_app (plain_app (dlr_plain _) (plain_all _ let_plain _ a1)) (dlr_plain _)) (plain_all _ dg_plain _ b1), ?_⟩
  rw [List.map_append, List.map_append, List.map_append, map_dlr, map_dlr, map_dg _ b1]
  exact plain_app (plain_app (plain_app (dlr_plain _) (plain_all _ let_plain _ a2)) (dlr_plain _)) (plain_all _ dg_plain _ b1)
theorem name_plain (l : List UInt8) (h : nameG l = true) : plainL l ∧ l.isEmpty = false := by
  unfold nameG at h
  rw [Bool.and_eq_true, Bool.and_eq_true, Bool.and_eq_true] at h
  refine ⟨plain_all _ nm_plain _ h.2, ?_⟩
  have := of_decide_eq_true h.1.1.1
  cases l
  · simp at this
  · rfl
theorem good_names (f : Fl) (h : goodF f = true) : (f.sheet.data.toList.isEmpty = true ∨ nameG f.sheet.data.toList = true) ∧ (f.book.data.toList.isEmpty = true ∨ (f.sheet.data.toList.isEmpty = false ∧ nameG f.book.data.toList = true)) := by
  unfold goodF at h
  rw [Bool.and_eq_true, Bool.and_eq_true, Bool.or_eq_true, Bool.or_eq_true, Bool.and_eq_true, Bool.not_eq_true'] at h
  exact h.1
theorem good_place (f : Fl) (h : goodF f = true) : if f.wide = true then areaG f.a.col f.a.row f.b.col f.b.row = true else f.b = zeroR ∧ cellG f.a.col f.a.row = true := by
  unfold goodF at h
  rw [Bool.and_eq_true] at h
  have h2 := h.2
  by_cases hw : f.wide = true
  · rw [if_pos hw] at h2 ⊢; exact h2
  · rw [if_neg hw] at h2 ⊢
    obtain ⟨bk, sh, a, ⟨c, r, x, y⟩, w⟩ := f
    simp only [Bool.and_eq_true, beq_iff_eq, Bool.not_eq_true'] at h2
    obtain ⟨⟨⟨⟨rfl, rfl⟩, rfl⟩, rfl⟩, h3⟩ := h2
    exact ⟨rfl, h3⟩
theorem areaG_iff (a b c d : Int) : areaG a b c d = true ↔ cellG a b = true ∧ cellG c d = true ∧ a ≤ c ∧ b ≤ d ∧ areaC a b c d ≤ 4096 := by
  unfold areaG; simp [and_assoc]
theorem turn_same4 (f : Fl) (h : goodF f = true) : turnF f = f := by
  have hp := good_place f h
  unfold turnF
  by_cases hw : f.wide = true
  · rw [if_pos hw] at hp ⊢
    obtain ⟨_, _, h1, h2, _⟩ := (areaG_iff _ _ _ _).1 hp
    unfold cornA cornB
    rw [if_neg (by omega), if_neg (by omega), if_neg (by omega), if_neg (by omega), if_neg (by omega), if_neg (by omega), if_neg (by omega), if_neg (by omega)]
  · rw [if_neg hw]
theorem head_plain (l r : List UInt8) (h : plainL l) (hne : l ≠ []) : bkB (l ++ r) = false := by
  match l, hne with
  | c :: l', _ =>
    show (some c == some 91) = false
    simpa using (h c (by simp)).1
theorem place_cut (A : List UInt8) (B : List UInt8) (w : Bool) (hA : plainL A) : Lib.cut (A ++ (if w = true then 58 :: B else [])) [58] = (A, if w = true then B else [], w) := by
  cases w
  · rw [if_neg (by simp), if_neg (by simp), List.append_nil]
    exact cutC_none 58 A (fun c hc => (hA c hc).2.2.2)
  · rw [if_pos rfl, if_pos rfl]
    exact cutC_at 58 A B (fun c hc => (hA c hc).2.2.2)
/-- What is written, with texts of its cells that are read as these, is read back. -/
theorem parse_mk (f : Fl) (A B : List UInt8) (hg : goodF f = true) (hA : ref1B A = true ∧ ref1V A = f.a) (pA : plainL A) (hB : f.wide = true → ref1B B = true ∧ ref1V B = f.b) (pB : f.wide = true → plainL B) :
    fullP (bookT f.book.data.toList ++ (sheetT f.sheet.data.toList ++ (A ++ (if f.wide = true then 58 :: B else [])))) = (f, 0) := by
  have hp := good_place f hg
  obtain ⟨n1, n2⟩ := good_names f hg
  have hne : A ≠ [] := by
    intro e
    subst e
    exact absurd hA.1 (by decide)
  have hX : ∀ c, c ∈ A ++ (if f.wide = true then 58 :: B else []) → c ≠ 33 := by
    intro c hc
    rcases List.mem_append.1 hc with h1 | h1
    · exact (pA c h1).2.2.1
    · by_cases hw : f.wide = true
      · rw [if_pos hw] at h1
        rcases List.mem_cons.1 h1 with h2 | h2
        · subst h2; decide
        · exact (pB hw c h2).2.2.1
      · rw [if_neg hw] at h1; cases h1
  obtain ⟨X, eX⟩ : ∃ X, A ++ (if f.wide = true then 58 :: B else []) = X := ⟨_, rfl⟩
  have hcut : Lib.cut X [58] = (A, if f.wide = true then B else [], f.wide) := by rw [← eX]; exact place_cut A B f.wide pA
  have hhead : bkB X = false := by rw [← eX]; exact head_plain A _ pA hne
  rw [eX] at hX ⊢
  clear eX
  -- the parts
  have parts : ∃ l, bookT f.book.data.toList ++ (sheetT f.sheet.data.toList ++ X) = l ∧ partOk l = true ∧ partB l = f.book.data.toList ∧ partS l = f.sheet.data.toList ∧ partP l = X := by
    refine ⟨_, rfl, ?_⟩
    rcases n2 with hb | ⟨hs, hb⟩
    · have eb : f.book.data.toList = [] := List.isEmpty_iff.1 hb
      rw [eb]
      show partOk (sheetT f.sheet.data.toList ++ X) = true ∧ partB (sheetT f.sheet.data.toList ++ X) = [] ∧ partS (sheetT f.sheet.data.toList ++ X) = _ ∧ partP (sheetT f.sheet.data.toList ++ X) = X
      by_cases hs : f.sheet.data.toList.isEmpty = true
      · have es : f.sheet.data.toList = [] := List.isEmpty_iff.1 hs
        rw [es]
        show partOk X = true ∧ partB X = [] ∧ partS X = [] ∧ partP X = X
        have r1 : bkR X = X := by unfold bkR; rw [hhead]; rfl
        have c1 : shC X = (X, [], false) := by unfold shC; rw [r1]; exact cutC_none 33 X hX
        refine ⟨?_, ?_, ?_, ?_⟩
        · unfold partOk bkOk shOk; rw [hhead, c1]; rfl
        · unfold partB; rw [hhead]; rfl
        · unfold partS; rw [c1]; rfl
        · unfold partP; rw [c1]; exact r1
      · have hn : nameG f.sheet.data.toList = true := by rcases n1 with h | h; exact absurd h hs; exact h
        obtain ⟨q1, q2⟩ := name_plain _ hn
        have e1 : sheetT f.sheet.data.toList ++ X = f.sheet.data.toList ++ 33 :: X := by unfold sheetT; rw [if_neg hs]; simp
        rw [e1]
        have hh : bkB (f.sheet.data.toList ++ 33 :: X) = false := head_plain _ _ q1 (by intro e; rw [e] at q2; cases q2)
        have r1 : bkR (f.sheet.data.toList ++ 33 :: X) = f.sheet.data.toList ++ 33 :: X := by unfold bkR; rw [hh]; rfl
        have c1 : shC (f.sheet.data.toList ++ 33 :: X) = (f.sheet.data.toList, X, true) := by unfold shC; rw [r1]; exact cutC_at 33 _ _ (fun c hc => (q1 c hc).2.2.1)
        refine ⟨?_, ?_, ?_, ?_⟩
        · unfold partOk bkOk shOk; rw [hh, c1]; simp [hn]
        · unfold partB; rw [hh]; rfl
        · unfold partS; rw [c1]; rfl
        · unfold partP; rw [c1]; rfl
    · have hn : nameG f.sheet.data.toList = true := by rcases n1 with h | h; rw [hs] at h; cases h; exact h
      obtain ⟨q1, q2⟩ := name_plain _ hn
      obtain ⟨q3, q4⟩ := name_plain _ hb
      have e1 : bookT f.book.data.toList ++ (sheetT f.sheet.data.toList ++ X) = 91 :: (f.book.data.toList ++ 93 :: (f.sheet.data.toList ++ 33 :: X)) := by
        unfold bookT sheetT; rw [if_neg (by rw [q4]; simp), if_neg (by rw [hs]; simp)]; simp
      rw [e1]
      have hh : bkB (91 :: (f.book.data.toList ++ 93 :: (f.sheet.data.toList ++ 33 :: X))) = true := rfl
      have c0 : bkC (91 :: (f.book.data.toList ++ 93 :: (f.sheet.data.toList ++ 33 :: X))) = (f.book.data.toList, f.sheet.data.toList ++ 33 :: X, true) := cutC_at 93 _ _ (fun c hc => (q3 c hc).2.1)
      have r1 : bkR (91 :: (f.book.data.toList ++ 93 :: (f.sheet.data.toList ++ 33 :: X))) = f.sheet.data.toList ++ 33 :: X := by unfold bkR; rw [hh, c0]; rfl
      have c1 : shC (91 :: (f.book.data.toList ++ 93 :: (f.sheet.data.toList ++ 33 :: X))) = (f.sheet.data.toList, X, true) := by unfold shC; rw [r1]; exact cutC_at 33 _ _ (fun c hc => (q1 c hc).2.2.1)
      refine ⟨?_, ?_, ?_, ?_⟩
      · unfold partOk bkOk shOk; rw [hh, c0, c1]; simp [hn, hb]
      · unfold partB; rw [hh, c0]; rfl
      · unfold partS; rw [c1]; rfl
      · unfold partP; rw [c1]; rfl
  obtain ⟨l, el, p1, p2, p3, p4⟩ := parts
  rw [el]
  have hc : plC l = (A, if f.wide = true then B else [], f.wide) := by unfold plC; rw [p4]; exact hcut
  have hfo : formOk l = true := by
    unfold formOk
    rw [p1, hc]
    simp only [hA.1, Bool.true_and]
    by_cases hw : f.wide = true
    · rw [hw, if_pos rfl, (hB hw).1]; rfl
    · rw [Bool.not_eq_true] at hw; rw [hw]; rfl
  have hF : formF l = f := by
    unfold formF
    rw [p2, p3, hc]
    simp only []
    obtain ⟨bk, sh, a, b, w⟩ := f
    simp only [] at hA hB hp ⊢
    have e1 : (⟨bk.data.toList.toArray⟩ : ByteArray) = bk := rfl
    have e2 : (⟨sh.data.toList.toArray⟩ : ByteArray) = sh := rfl
    rw [e1, e2, hA.2]
    by_cases hw : w = true
    · rw [if_pos hw, if_pos hw, (hB hw).2]
    · rw [if_neg hw]
      rw [if_neg hw] at hp
      rw [hp.1]
  unfold fullP
  rw [if_pos hfo, hF, turn_same4 f hg, if_pos hg]
  have hcc : (cellG f.a.col f.a.row && cellG f.b.col f.b.row) = true := by
    by_cases hw : f.wide = true
    · rw [if_pos hw] at hp
      obtain ⟨g1, g2, _⟩ := (areaG_iff _ _ _ _).1 hp
      rw [g1, g2]; rfl
    · rw [if_neg hw] at hp
      rw [hp.1, hp.2]; rfl
  rw [if_pos hcc]
theorem good_cells (f : Fl) (h : goodF f = true) : cellG f.a.col f.a.row = true ∧ (f.wide = true → cellG f.b.col f.b.row = true) := by
  have hp := good_place f h
  by_cases hw : f.wide = true
  · rw [if_pos hw] at hp
    obtain ⟨g1, g2, _⟩ := (areaG_iff _ _ _ _).1 hp
    exact ⟨g1, fun _ => g2⟩
  · rw [if_neg hw] at hp
    exact ⟨hp.2, fun h => absurd h hw⟩
theorem parse_back (f : Fl) (hg : goodF f = true) : fullP (fullT f) = (f, 0) := by
  obtain ⟨g1, g2⟩ := good_cells f hg
  unfold fullT
  rw [if_pos hg]
  exact parse_mk f (refT f.a) (refT f.b) hg (ref1_back _ g1).1 (refT_plain _ g1).1 (fun hw => (ref1_back _ (g2 hw)).1) (fun hw => (refT_plain _ (g2 hw)).1)
theorem low_back (f : Fl) (hg : goodF f = true) (hb : f.book = ⟨#[]⟩) (hs : f.sheet = ⟨#[]⟩) : fullP ((fullT f).map loL) = (f, 0) := by
  obtain ⟨g1, g2⟩ := good_cells f hg
  have e : (fullT f).map loL = bookT f.book.data.toList ++ (sheetT f.sheet.data.toList ++ ((refT f.a).map loL ++ (if f.wide = true then 58 :: (refT f.b).map loL else []))) := by
    unfold fullT
    rw [if_pos hg, hb, hs]
    show ((refT f.a ++ _).map loL) = _ ++ _
    rw [List.map_append]
    by_cases hw : f.wide = true
    · rw [if_pos hw, if_pos hw]; rfl
    · rw [if_neg hw, if_neg hw]; rfl
  rw [e]
  exact parse_mk f _ _ hg (ref1_back _ g1).2 (refT_plain _ g1).2 (fun hw => (ref1_back _ (g2 hw)).2) (fun hw => (refT_plain _ (g2 hw)).2)
theorem refP_back (r : Rf) (h : cellG r.col r.row = true) : refP (refT r) = (r, 0) := by
  obtain ⟨h1, h2⟩ := (ref1_back r h).1
  unfold refP ref1
  rw [if_pos h1, h2]
  show (if cellG r.col r.row = true then (r, (0 : Int)) else (zeroR, 3)) = _
  rw [if_pos h]
theorem full_empty (f : Fl) : (fullT f).isEmpty = !(goodF f) := by
  unfold fullT
  cases hg : goodF f
  · rfl
  · rw [if_pos rfl]
    obtain ⟨g1, _⟩ := good_cells f hg
    have h1 := (ref1_back _ g1).1.1
    have hne : refT f.a ≠ [] := by
      intro e; rw [e] at h1; exact absurd h1 (by decide)
    cases hx : bookT f.book.data.toList ++ (sheetT f.sheet.data.toList ++ (refT f.a ++ (if f.wide = true then 58 :: refT f.b else [])))
    · simp at hx
      exact absurd hx.2.2.1 hne
    · rfl
end Go.Proofs.YtloamahbghjjgaaGreatDoor
