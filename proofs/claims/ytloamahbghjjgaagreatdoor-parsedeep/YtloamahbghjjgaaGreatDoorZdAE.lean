/- Plain: texts that are formulas, and what is made of them. -/
import Derived.BigQuiet
import Derived.Deep.CutBlock
import Derived.Deep.CutRange
import Derived.Deep.DeepFit
import Derived.Deep.QuietTactic
import Derived.Deep.RegionHeld3
import Derived.Laws.Bits64b
import Derived.Laws.IdiomStrings
import Derived.Laws.Rows
import Derived.Lib.Atoi
import Derived.Lib.BitFns
import Derived.Lib.CutLaws
import Derived.Lib.IndexMore
import Derived.Lib.ItoaMem
import Derived.Lib.ItoaNum
import Derived.Lib.Join
import Derived.Lib.Replace
import Derived.Lib.Walk
import Derived.Shelf.Bits.Mul64
import Derived.Shelf.LaysM
import Derived.Shelf.Small.Bits
import Derived.Shelf.Small.Strs
import Derived.Shelf.Small.Utf8
import Derived.Shelf.Small.Wraps
import Derived.Shelf.Strconv.Atoi
import Derived.Shelf.Strconv.Itoa0
import Derived.Shelf.Strconv.Itoa1
import Derived.Shelf.Strconv.Itoa2
import Derived.Shelf.Strconv.Itoa3
import Derived.Shelf.Strings.AsciiSet
import Derived.Shelf.Strings.Builder1
import Derived.Shelf.Strings.Builder2
import Derived.Shelf.Strings.Count
import Derived.Shelf.Strings.Cut
import Derived.Shelf.Strings.OnBuilder
import Derived.Shelf.Strings.Prefix
import Derived.Shelf.Strings.Replace
import Derived.Shelf.Strings.Runes
import Derived.Shelf.Strings.Search1
import Derived.Shelf.Strings.Search2
import Derived.Shelf.Strings.Search3
import Derived.Shelf.Strings.Shaped
import Derived.Shelf.Strings.Split
import Derived.Shelf.Strings.SplitShaped
import Derived.Shelf.Strings.Trim
import Derived.Shelf.Unicode.DecodeSlow
import Derived.Test.YtloamahbghjjgaaGreatDoorProg
import Derived.Test.YtloamahbghjjgaaGreatDoorRows
import Derived.WalkKit
import Derived.WalkLawsBesides
import Derived.WalkSmall
import Derived.WalkSpells
import Derived.Test.YtloamahbghjjgaaGreatDoorZdAA
import Derived.Test.YtloamahbghjjgaaGreatDoorZdAB
import Derived.Test.YtloamahbghjjgaaGreatDoorZdAC
import Derived.Test.YtloamahbghjjgaaGreatDoorZdAD
namespace Go.Proofs.YtloamahbghjjgaaGreatDoor

def Syn.mp (f : Tk → Tk) : Syn → Syn
  | .atom t => .atom (f t)
  | .par o s c => .par (f o) (s.mp f) (f c)
  | .call t o l c => .call (f t) (f o) (l.mp f) (f c)
  | .sign t s => .sign (f t) (s.mp f)
  | .pct s t => .pct (s.mp f) (f t)
  | .bin a t b => .bin (a.mp f) (f t) (b.mp f)
  | .nil => .nil
  | .first s => .first (s.mp f)
  | .snoc l c s => .snoc (l.mp f) (f c) (s.mp f)
def pl0 (t : Tk) : Tk := t.put 0
abbrev Syn.bare (s : Syn) : Syn := s.mp pl0
theorem bare_nil : ∀ {s : Syn}, s.bare = .nil ↔ s = .nil
  | .atom _ => by simp [Syn.bare, Syn.mp]
  | .par _ _ _ => by simp [Syn.bare, Syn.mp]
  | .call _ _ _ _ => by simp [Syn.bare, Syn.mp]
  | .sign _ _ => by simp [Syn.bare, Syn.mp]
  | .pct _ _ => by simp [Syn.bare, Syn.mp]
  | .bin _ _ _ => by simp [Syn.bare, Syn.mp]
  | .nil => by simp [Syn.bare, Syn.mp]
  | .first _ => by simp [Syn.bare, Syn.mp]
  | .snoc _ _ _ => by simp [Syn.bare, Syn.mp]
theorem bare_wf : ∀ (s : Syn) (k : Nat), s.bare.wf k ↔ s.wf k
  | .atom t, k => Iff.rfl
  | .par o s c, k => by
    have := bare_wf s 1
    show (k ≤ 8 ∧ o.kind = 6 ∧ c.kind = 7 ∧ s.bare.wf 1) ↔ (k ≤ 8 ∧ o.kind = 6 ∧ c.kind = 7 ∧ s.wf 1)
    rw [this]
  | .call t o l c, k => by
    have := bare_wf l 9
    show (k ≤ 8 ∧ t.kind = 4 ∧ o.kind = 6 ∧ c.kind = 7 ∧ l.bare.wf 9) ↔ (k ≤ 8 ∧ t.kind = 4 ∧ o.kind = 6 ∧ c.kind = 7 ∧ l.wf 9)
    rw [this]
  | .sign t s, k => by
    have := bare_wf s 6
    show (k ≤ 6 ∧ signB t = true ∧ s.bare.wf 6) ↔ (k ≤ 6 ∧ signB t = true ∧ s.wf 6)
    rw [this]
  | .pct s t, k => by
    have := bare_wf s 7
    show (k ≤ 7 ∧ pctB t = true ∧ s.bare.wf 7) ↔ (k ≤ 7 ∧ pctB t = true ∧ s.wf 7)
    rw [this]
  | .bin a t b, k => by
    have h1 := bare_wf a (lineT t)
    have h2 := bare_wf b (lineT t + 1)
    show (k ≤ lineT t ∧ 1 ≤ lineT t ∧ a.bare.wf (lineT t) ∧ b.bare.wf (lineT t + 1)) ↔ (k ≤ lineT t ∧ 1 ≤ lineT t ∧ a.wf (lineT t) ∧ b.wf (lineT t + 1))
    rw [h1, h2]
  | .nil, k => Iff.rfl
  | .first s, k => by
    have := bare_wf s 1
    show (k = 9 ∧ s.bare.wf 1) ↔ (k = 9 ∧ s.wf 1)
    rw [this]
  | .snoc l c s, k => by
    have h1 := bare_wf l 9
    have h2 := bare_wf s 1
    show (k = 9 ∧ l.bare.wf 9 ∧ l.bare ≠ .nil ∧ c.kind = 8 ∧ s.bare.wf 1) ↔ (k = 9 ∧ l.wf 9 ∧ l ≠ .nil ∧ c.kind = 8 ∧ s.wf 1)
    rw [h1, h2, Ne, bare_nil]
theorem bare_size : ∀ s : Syn, s.bare.size = s.size
  | .atom _ => rfl
  | .par _ s _ => bare_size s
  | .call _ _ l _ => by have := bare_size l; show l.bare.size + 1 = l.size + 1; rw [this]
  | .sign t s => by have := bare_size s; show (if minusB t = true then s.bare.size + 1 else s.bare.size) = if minusB t = true then s.size + 1 else s.size; rw [this]
  | .pct s _ => by have := bare_size s; show s.bare.size + 1 = s.size + 1; rw [this]
  | .bin a _ b => by have h1 := bare_size a; have h2 := bare_size b; show a.bare.size + b.bare.size + 1 = a.size + b.size + 1; rw [h1, h2]
  | .nil => rfl
  | .first s => bare_size s
  | .snoc l _ s => by have h1 := bare_size l; have h2 := bare_size s; show l.bare.size + s.bare.size = l.size + s.size; rw [h1, h2]
theorem bare_kids : ∀ (s : Syn) (b : Nat), s.bare.kidsL b = s.kidsL b
  | .nil, _ => rfl
  | .first s, b => by have := bare_size s; show [b + s.bare.size - 1] = [b + s.size - 1]; rw [this]
  | .snoc l c s, b => by
    have h1 := bare_kids l b
    have h2 := bare_size l
    have h3 := bare_size s
    show l.bare.kidsL b ++ [b + l.bare.size + s.bare.size - 1] = l.kidsL b ++ [b + l.size + s.size - 1]
    rw [h1, h2, h3]
  | .atom _, _ => rfl
  | .par _ _ _, _ => rfl
  | .call _ _ _ _, _ => rfl
  | .sign _ _, _ => rfl
  | .pct _ _, _ => rfl
  | .bin _ _ _, _ => rfl
theorem bare_nest : ∀ s : Syn, s.bare.nest = s.nest
  | .atom _ => rfl
  | .par _ s _ => by have := bare_nest s; show s.bare.nest + 1 = s.nest + 1; rw [this]
  | .call _ _ l _ => bare_nest l
  | .sign _ s => by have := bare_nest s; show s.bare.nest + 1 = s.nest + 1; rw [this]
  | .pct s _ => bare_nest s
  | .bin a _ b => by have h1 := bare_nest a; have h2 := bare_nest b; show max a.bare.nest b.bare.nest = max a.nest b.nest; rw [h1, h2]
  | .nil => rfl
  | .first s => by have := bare_nest s; show s.bare.nest + 1 = s.nest + 1; rw [this]
  | .snoc l _ s => by have h1 := bare_nest l; have h2 := bare_nest s; show max l.bare.nest (s.bare.nest + 1) = max l.nest (s.nest + 1); rw [h1, h2]
theorem bare_most : ∀ s : Syn, s.bare.most = s.most
  | .atom _ => rfl
  | .par _ s _ => bare_most s
  | .call _ _ l _ => by have h1 := bare_most l; have h2 := bare_kids l 0; show max l.bare.most (l.bare.kidsL 0).length = max l.most (l.kidsL 0).length; rw [h1, h2]
  | .sign _ s => bare_most s
  | .pct s _ => bare_most s
  | .bin a _ b => by have h1 := bare_most a; have h2 := bare_most b; show max a.bare.most b.bare.most = max a.most b.most; rw [h1, h2]
  | .nil => rfl
  | .first s => bare_most s
  | .snoc l _ s => by have h1 := bare_most l; have h2 := bare_most s; show max l.bare.most s.bare.most = max l.most s.most; rw [h1, h2]
theorem bare_emit : ∀ (s : Syn) (b : Nat), s.bare.emit b = s.emit b
  | .atom _, _ => rfl
  | .par _ s _, b => bare_emit s b
  | .call t _ l _, b => by have h1 := bare_emit l b; have h2 := bare_kids l b; show l.bare.emit b ++ [callN t (l.bare.kidsL b)] = l.emit b ++ [callN t (l.kidsL b)]; rw [h1, h2]
  | .sign t s, b => by
    have h1 := bare_emit s b; have h2 := bare_size s
    show (if minusB t = true then s.bare.emit b ++ [negN (b + s.bare.size - 1)] else s.bare.emit b) = if minusB t = true then s.emit b ++ [negN (b + s.size - 1)] else s.emit b
    rw [h1, h2]
  | .pct s _, b => by have h1 := bare_emit s b; have h2 := bare_size s; show s.bare.emit b ++ [pctN (b + s.bare.size - 1)] = s.emit b ++ [pctN (b + s.size - 1)]; rw [h1, h2]
  | .bin x t y, b => by
    have h1 := bare_emit x b; have h2 := bare_size x; have h3 := bare_size y
    have h4 := bare_emit y (b + x.size)
    show x.bare.emit b ++ (y.bare.emit (b + x.bare.size) ++ [binN t (b + x.bare.size - 1) (b + x.bare.size + y.bare.size - 1)]) = x.emit b ++ (y.emit (b + x.size) ++ [binN t (b + x.size - 1) (b + x.size + y.size - 1)])
    rw [h1, h2, h3, h4]
  | .nil, _ => rfl
  | .first s, b => bare_emit s b
  | .snoc l _ s, b => by
    have h1 := bare_emit l b; have h2 := bare_size l; have h3 := bare_emit s (b + l.size)
    show l.bare.emit b ++ s.bare.emit (b + l.bare.size) = l.emit b ++ s.emit (b + l.size)
    rw [h1, h2, h3]
theorem bare_parse (s : Syn) : parseS (some s.bare) = parseS (some s) := by
  unfold parseS
  simp only [bare_nest, bare_most, bare_size, bare_emit]
def Fm (l : List UInt8) (z : Syn) : Prop := ∀ o, ∃ y : Syn, lexL o l = (y.toks, 0, 0) ∧ y.bare = z
def Fc (l : List UInt8) (z : Syn) : Prop := ∀ o x, ∃ y : Syn, lexL o (l ++ x) = preT y.toks (lexL (o + l.length) x) ∧ y.bare = z
theorem preT_empty (ts : List Tk) : preT ts ([], 0, 0) = (ts, 0, 0) := by rw [pre_lex, List.append_nil]
theorem fm_of {l : List UInt8} {z : Syn} (h : Fc l z) : Fm l z := fun o => by
  obtain ⟨y, h1, h2⟩ := h o []
  rw [List.append_nil, lexL_nil, preT_empty] at h1
  exact ⟨y, h1, h2⟩
theorem fm_tail {l : List UInt8} {z : Syn} (h : Fm l z) (x : List UInt8) (hx : TailOk x) (o : Nat) : ∃ y : Syn, lexL o (l ++ x) = preT y.toks (lexL (o + l.length) x) ∧ y.bare = z := by
  obtain ⟨y, h1, h2⟩ := h o
  exact ⟨y, by rw [lex_app x hx o l (by rw [h1]), h1], h2⟩
theorem fm_parse {l : List UInt8} {z : Syn} (h : Fm l z) (hw : z.wf 1) (hl : l.length ≤ 512) : parseL l = parseS (some z) := by
  obtain ⟨y, h1, h2⟩ := h 0
  subst h2
  have e : lexT l = (y.toks, 0, 0) := by unfold lexT; rw [if_neg (by omega), h1]
  unfold parseL
  rw [e, if_pos rfl, bare_parse, rd_back ((bare_wf _ _).1 hw)]
  rfl
theorem lex_one (o n : Nat) (c : UInt8) (l : List UInt8) (t : Tk) (hc : c ≠ 32) (h : tok1 (c :: l) = (t, n + 1, 0)) : lexL o (c :: l) = preT [t.put o] (lexL (o + (n + 1)) (l.drop n)) := by
  rw [lexL_ok o c l hc (by rw [h]), h]; rfl
def oT : Tk := ⟨6, emp, 0, 0, zeroF, 0⟩
def cT : Tk := ⟨7, emp, 0, 0, zeroF, 0⟩
def commaT : Tk := ⟨8, emp, 0, 0, zeroF, 0⟩
def opT (l : List UInt8) : Tk := ⟨5, ⟨l.toArray⟩, 0, 0, zeroF, 0⟩
def fT : Tk := ⟨4, ⟨#[70]⟩, 0, 0, zeroF, 0⟩
def oneT : Tk := ⟨0, emp, 10000, 0, zeroF, 0⟩
theorem tok_open (l : List UInt8) : tok1 (40 :: l) = (oT, 1, 0) := by
  unfold tok1
  rw [show (40 :: l).headD 0 = 40 from rfl, if_neg (by decide), if_neg (by decide), if_neg (by decide), if_neg (by decide), if_neg (by decide), if_pos rfl]; rfl
theorem tok_close (l : List UInt8) : tok1 (41 :: l) = (cT, 1, 0) := by
  unfold tok1
  rw [show (41 :: l).headD 0 = 41 from rfl, if_neg (by decide), if_neg (by decide), if_neg (by decide), if_neg (by decide), if_neg (by decide), if_neg (by decide), if_pos rfl]; rfl
theorem tok_comma (l : List UInt8) : tok1 (44 :: l) = (commaT, 1, 0) := by
  unfold tok1
  rw [show (44 :: l).headD 0 = 44 from rfl, if_neg (by decide), if_neg (by decide), if_neg (by decide), if_neg (by decide), if_neg (by decide), if_neg (by decide), if_neg (by decide), if_pos rfl]; rfl
theorem tok_op (c : UInt8) (l : List UInt8) (h1 : isDg c = false) (h2 : headC c = false) (h3 : opC c = true) : tok1 (c :: l) = opTok (c :: l) := by
  unfold tok1
  rw [show (c :: l).headD 0 = c from rfl, if_neg (by rw [h1]; decide), if_neg (by rw [h2]; decide), if_pos h3]
theorem tok_plus (l : List UInt8) : tok1 (43 :: l) = (opT [43], 1, 0) := by
  rw [tok_op 43 l rfl rfl rfl]
  have e : opN (43 :: l) = 1 := by
    unfold opN
    cases l with
    | nil => rfl
    | cons d l => rw [if_neg]; simp [twoB]
  unfold opTok
  rw [e]; rfl
theorem tok_minus (l : List UInt8) : tok1 (45 :: l) = (opT [45], 1, 0) := by
  rw [tok_op 45 l rfl rfl rfl]
  have e : opN (45 :: l) = 1 := by
    unfold opN
    cases l with
    | nil => rfl
    | cons d l => rw [if_neg]; simp [twoB]
  unfold opTok
  rw [e]; rfl
theorem tok_f (l : List UInt8) : tok1 (102 :: 40 :: l) = (fT, 1, 0) := by
  unfold tok1
  rw [show (102 :: 40 :: l).headD 0 = 102 from rfl, if_neg (by decide), if_pos (by decide)]
  unfold nameTok
  have e : runR (102 :: 40 :: l) = [102] := by
    unfold runR
    rw [List.takeWhile_cons, if_pos (by decide), List.takeWhile_cons, if_neg (by decide)]
  have e2 : callB (102 :: 40 :: l) = true := by
    unfold callB
    rw [List.dropWhile_cons, if_pos (by decide), List.dropWhile_cons, if_neg (by decide)]
    unfold unbl
    rw [List.dropWhile_cons, if_neg (by decide)]; rfl
  have e3 : (nameG [102] && true) = true := by kernel_rfl
  rw [e, e2, if_pos e3]
  first | done | rfl
theorem fm_one : Fm [49] (.atom oneT) := fun o => by
  refine ⟨.atom (oneT.put o), ?_, rfl⟩
  have e : tok1 [49] = (oneT, 1, 0) := by kernel_rfl
  rw [lex_one o 0 49 [] oneT (by decide) e]
  show preT [oneT.put o] (lexL (o + 1) []) = _
  rw [lexL_nil, preT_empty]; rfl
theorem drop0 (l : List UInt8) : l.drop 0 = l := rfl
theorem fc_par {l : List UInt8} {z : Syn} (h : Fm l z) : Fc (40 :: (l ++ [41])) (.par oT z cT) := fun o x => by
  obtain ⟨y, h1, h2⟩ := fm_tail h (41 :: x) (Or.inr ⟨41, x, rfl, Or.inr (Or.inl rfl)⟩) (o + 1)
  refine ⟨.par (oT.put o) y (cT.put ((o + 1 + l.length : Nat) : Int)), ?_, by rw [← h2]; rfl⟩
  rw [show 40 :: (l ++ [41]) ++ x = 40 :: (l ++ 41 :: x) by simp, lex_one o 0 40 _ oT (by decide) (tok_open _), drop0, h1, lex_one (o + 1 + l.length) 0 41 x cT (by decide) (tok_close _), drop0, preT_pre, preT_pre]
  rw [show o + 1 + l.length + (0 + 1) = o + (40 :: (l ++ [41])).length by simp; omega]
  simp [Syn.toks]
theorem fm_minus {l : List UInt8} {z : Syn} (h : Fm l z) : Fm (45 :: l) (.sign (opT [45]) z) := fun o => by
  obtain ⟨y, h1, h2⟩ := h (o + 1)
  refine ⟨.sign ((opT [45]).put o) y, ?_, by rw [← h2]; rfl⟩
  rw [lex_one o 0 45 _ _ (by decide) (tok_minus _), drop0, h1, pre_lex]; rfl
theorem fm_call {l : List UInt8} {z : Syn} (h : Fm l z) : Fm (102 :: 40 :: (l ++ [41])) (.call fT oT z cT) := fun o => by
  obtain ⟨y, h1, h2⟩ := fm_tail h [41] (Or.inr ⟨41, [], rfl, Or.inr (Or.inl rfl)⟩) (o + 2)
  refine ⟨.call (fT.put o) (oT.put ((o + 1 : Nat) : Int)) y (cT.put ((o + 2 + l.length : Nat) : Int)), ?_, by rw [← h2]; rfl⟩
  rw [lex_one o 0 102 _ fT (by decide) (tok_f _), drop0, lex_one (o + (0 + 1)) 0 40 _ oT (by decide) (tok_open _), drop0, show o + (0 + 1) + (0 + 1) = o + 2 by omega, h1, lex_one (o + 2 + l.length) 0 41 [] cT (by decide) (tok_close _), drop0, lexL_nil, preT_empty, preT_pre, preT_pre, pre_lex]
  simp [Syn.toks]
theorem fm_first {l : List UInt8} {z : Syn} (h : Fm l z) : Fm l (.first z) := fun o => by
  obtain ⟨y, h1, h2⟩ := h o
  exact ⟨.first y, h1, by rw [← h2]; rfl⟩
theorem fm_nil : Fm [] .nil := fun o => ⟨.nil, lexL_nil o, rfl⟩
theorem fm_snoc {l m : List UInt8} {z v : Syn} (h : Fm l z) (h' : Fm m v) : Fm (l ++ 44 :: m) (.snoc z commaT v) := fun o => by
  obtain ⟨y, h1, h2⟩ := fm_tail h (44 :: m) (Or.inr ⟨44, m, rfl, Or.inl rfl⟩) o
  obtain ⟨u, h3, h4⟩ := h' (o + l.length + 1)
  refine ⟨.snoc y (commaT.put ((o + l.length : Nat) : Int)) u, ?_, by rw [← h2, ← h4]; rfl⟩
  rw [h1, lex_one (o + l.length) 0 44 _ commaT (by decide) (tok_comma _), drop0, show o + l.length + (0 + 1) = o + l.length + 1 by omega, h3, pre_lex, pre_lex]
  simp [Syn.toks]
theorem fm_sum {l m : List UInt8} {z v : Syn} (h : Fm l z) (h' : Fm m v) : Fm (l ++ 43 :: m) (.bin z (opT [43]) v) := fun o => by
  obtain ⟨y, h1, h2⟩ := fm_tail h (43 :: m) (Or.inr ⟨43, m, rfl, Or.inr (Or.inr rfl)⟩) o
  obtain ⟨u, h3, h4⟩ := h' (o + l.length + 1)
  refine ⟨.bin y ((opT [43]).put ((o + l.length : Nat) : Int)) u, ?_, by rw [← h2, ← h4]; rfl⟩
  rw [h1, lex_one (o + l.length) 0 43 _ _ (by decide) (tok_plus _), drop0, show o + l.length + (0 + 1) = o + l.length + 1 by omega, h3, pre_lex, pre_lex]
  simp [Syn.toks]
end Go.Proofs.YtloamahbghjjgaaGreatDoor

namespace Go.Proofs.YtloamahbghjjgaaGreatDoor

theorem line_plus : lineT (opT [43]) = 3 := by kernel_rfl
theorem sign_minus : signB (opT [45]) = true ∧ minusB (opT [45]) = true := ⟨by kernel_rfl, by kernel_rfl⟩
theorem one_wf (k : Nat) (hk : k ≤ 8) : (Syn.atom oneT).wf k := ⟨hk, Or.inl rfl⟩
def dpL : Nat → List UInt8
  | 0 => [49]
  | k + 1 => 40 :: (dpL k ++ [41])
def dsL : Nat → List UInt8
  | 0 => [49]
  | k + 1 => 45 :: dsL k
def dcL : Nat → List UInt8
  | 0 => [49]
  | k + 1 => 102 :: 40 :: (dcL k ++ [41])
def daL : Nat → List UInt8
  | 0 => []
  | k + 1 => (if 0 < k then daL k ++ [44] else daL k) ++ [49]
def dmL : Nat → List UInt8
  | 0 => [49]
  | k + 1 => dmL k ++ [43, 49]
def dpY : Nat → Syn
  | 0 => .atom oneT
  | k + 1 => .par oT (dpY k) cT
def dsY : Nat → Syn
  | 0 => .atom oneT
  | k + 1 => .sign (opT [45]) (dsY k)
def dcY : Nat → Syn
  | 0 => .atom oneT
  | k + 1 => .call fT oT (.first (dcY k)) cT
def daY : Nat → Syn
  | 0 => .nil
  | 1 => .first (.atom oneT)
  | k + 2 => .snoc (daY (k + 1)) commaT (.atom oneT)
def dmY : Nat → Syn
  | 0 => .atom oneT
  | k + 1 => .bin (dmY k) (opT [43]) (.atom oneT)
theorem par_told : ∀ k : Nat, Fm (dpL k) (dpY k) ∧ (dpY k).wf 8 ∧ (dpY k).nest = k ∧ (dpY k).most = 0 ∧ (dpY k).size = 1 ∧ (dpL k).length = 2 * k + 1
  | 0 => ⟨fm_one, one_wf 8 (by omega), rfl, rfl, rfl, rfl⟩
  | k + 1 => by
    obtain ⟨h1, h2, h3, h4, h5, h6⟩ := par_told k
    refine ⟨fm_of (fc_par h1), ⟨by omega, rfl, rfl, wf_down h2 (by omega) (by omega)⟩, ?_, h4, h5, ?_⟩
    · show (dpY k).nest + 1 = k + 1
      rw [h3]
    · show (40 :: (dpL k ++ [41])).length = _
      rw [List.length_cons, List.length_append, h6]; simp; omega
theorem sign_told : ∀ k : Nat, Fm (dsL k) (dsY k) ∧ (dsY k).wf 6 ∧ (dsY k).nest = k ∧ (dsY k).most = 0 ∧ (dsY k).size = k + 1 ∧ (dsL k).length = k + 1
  | 0 => ⟨fm_one, one_wf 6 (by omega), rfl, rfl, rfl, rfl⟩
  | k + 1 => by
    obtain ⟨h1, h2, h3, h4, h5, h6⟩ := sign_told k
    refine ⟨fm_minus h1, ⟨by omega, sign_minus.1, h2⟩, ?_, h4, ?_, ?_⟩
    · show (dsY k).nest + 1 = k + 1
      rw [h3]
    · show (if minusB (opT [45]) = true then (dsY k).size + 1 else (dsY k).size) = _
      rw [if_pos sign_minus.2, h5]
    · show (45 :: dsL k).length = _
      rw [List.length_cons, h6]
theorem call_told : ∀ k : Nat, Fm (dcL k) (dcY k) ∧ (dcY k).wf 8 ∧ (dcY k).nest = k ∧ (dcY k).most ≤ 1 ∧ (dcY k).size = k + 1 ∧ (dcL k).length = 3 * k + 1
  | 0 => ⟨fm_one, one_wf 8 (by omega), rfl, by decide, rfl, rfl⟩
  | k + 1 => by
    obtain ⟨h1, h2, h3, h4, h5, h6⟩ := call_told k
    refine ⟨fm_call (fm_first h1), ⟨by omega, rfl, rfl, rfl, rfl, wf_down h2 (by omega) (by omega)⟩, ?_, ?_, ?_, ?_⟩
    · show (dcY k).nest + 1 = k + 1
      rw [h3]
    · show max (dcY k).most 1 ≤ 1
      omega
    · show (dcY k).size + 1 = _
      rw [h5]
    · show (102 :: 40 :: (dcL k ++ [41])).length = _
      rw [List.length_cons, List.length_cons, List.length_append, h6]; simp; omega
theorem args_told : ∀ k : Nat, Fm (daL k) (daY k) ∧ (daY k).wf 9 ∧ (daY k).nest ≤ 1 ∧ (daY k).most = 0 ∧ (daY k).size = k ∧ ((daY k).kidsL 0).length = k ∧ (daL k).length ≤ 2 * k ∧ (0 < k → daY k ≠ .nil)
  | 0 => ⟨fm_nil, rfl, by decide, rfl, rfl, rfl, by decide, fun h => absurd h (by omega)⟩
  | 1 => ⟨fm_first fm_one, ⟨rfl, one_wf 1 (by omega)⟩, by decide, rfl, rfl, rfl, by decide, fun _ h => by cases h⟩
  | k + 2 => by
    obtain ⟨h1, h2, h3, h4, h5, h6, h7, h8⟩ := args_told (k + 1)
    have e : daL (k + 2) = daL (k + 1) ++ 44 :: [49] := by
      rw [daL, if_pos (by omega)]; simp
    refine ⟨by rw [e]; exact fm_snoc h1 fm_one, ⟨rfl, h2, h8 (by omega), rfl, one_wf 1 (by omega)⟩, ?_, ?_, ?_, ?_, ?_, fun _ h => by cases h⟩
    · show max (daY (k + 1)).nest (0 + 1) ≤ 1
      omega
    · show max (daY (k + 1)).most 0 = 0
      omega
    · show (daY (k + 1)).size + 1 = _
      rw [h5]
    · show ((daY (k + 1)).kidsL 0 ++ [_]).length = _
      rw [List.length_append, h6]; rfl
    · rw [e, List.length_append]; simp; omega
theorem sum_told : ∀ k : Nat, Fm (dmL k) (dmY k) ∧ (dmY k).wf 3 ∧ (dmY k).nest = 0 ∧ (dmY k).most = 0 ∧ (dmY k).size = 2 * k + 1 ∧ (dmL k).length = 2 * k + 1
  | 0 => ⟨fm_one, one_wf 3 (by omega), rfl, rfl, rfl, rfl⟩
  | k + 1 => by
    obtain ⟨h1, h2, h3, h4, h5, h6⟩ := sum_told k
    refine ⟨fm_sum h1 fm_one, ⟨by rw [line_plus]; omega, by rw [line_plus]; omega, by rw [line_plus]; exact h2, by rw [line_plus]; exact one_wf 4 (by omega)⟩, ?_, ?_, ?_, ?_⟩
    · show max (dmY k).nest 0 = 0
      omega
    · show max (dmY k).most 0 = 0
      omega
    · show (dmY k).size + 1 + 1 = _
      omega
    · show (dmL k ++ [43, 49]).length = _
      rw [List.length_append, h6]; rfl
theorem parseS_2 (z : Syn) : (parseS (some z)).2 = if 32 < z.nest then 8 else if 32 < z.most then 7 else if 256 < z.size then 10 else 0 := by
  unfold parseS
  simp only []
  split
  · rfl
  · split
    · rfl
    · split <;> rfl
theorem deep_par (k : Nat) (hk : k ≤ 100) : (parseL (dpL k)).2 = if 32 < k then 8 else 0 := by
  obtain ⟨h1, h2, h3, h4, h5, h6⟩ := par_told k
  rw [fm_parse h1 (wf_down h2 (by omega) (by omega)) (by omega), parseS_2, h3, h4, h5]
  split <;> rfl
theorem deep_sign (k : Nat) (hk : k ≤ 100) : (parseL (dsL k)).2 = if 32 < k then 8 else 0 := by
  obtain ⟨h1, h2, h3, h4, h5, h6⟩ := sign_told k
  rw [fm_parse h1 (wf_down h2 (by omega) (by omega)) (by omega), parseS_2, h3, h4, h5, if_neg (show ¬ 32 < 0 by omega), if_neg (show ¬ 256 < k + 1 by omega)]
theorem deep_call (k : Nat) (hk : k ≤ 100) : (parseL (dcL k)).2 = if 32 < k then 8 else 0 := by
  obtain ⟨h1, h2, h3, h4, h5, h6⟩ := call_told k
  rw [fm_parse h1 (wf_down h2 (by omega) (by omega)) (by omega), parseS_2, h3, h5, if_neg (show ¬ 32 < (dcY k).most by omega), if_neg (show ¬ 256 < k + 1 by omega)]
theorem deep_args (k : Nat) (hk : k ≤ 100) : (parseL (102 :: 40 :: (daL k ++ [41]))).2 = if 32 < k then 7 else 0 := by
  obtain ⟨h1, h2, h3, h4, h5, h6, h7, h8⟩ := args_told k
  have hw : (Syn.call fT oT (daY k) cT).wf 1 := ⟨by omega, rfl, rfl, rfl, h2⟩
  have e1 : (Syn.call fT oT (daY k) cT).nest = (daY k).nest := rfl
  have e2 : (Syn.call fT oT (daY k) cT).most = k := by
    show max (daY k).most ((daY k).kidsL 0).length = k
    rw [h4, h6]; omega
  have e3 : (Syn.call fT oT (daY k) cT).size = k + 1 := by
    show (daY k).size + 1 = k + 1
    rw [h5]
  rw [fm_parse (fm_call h1) hw (by simp; omega), parseS_2, e1, e2, e3, if_neg (show ¬ 32 < (daY k).nest by omega), if_neg (show ¬ 256 < k + 1 by omega)]
theorem full_sum (k : Nat) (hk : k ≤ 200) : (parseL (dmL k)).2 = if 256 < 2 * k + 1 then 10 else 0 := by
  obtain ⟨h1, h2, h3, h4, h5, h6⟩ := sum_told k
  rw [fm_parse h1 (wf_down h2 (by omega) (by omega)) (by omega), parseS_2, h3, h4, h5, if_neg (show ¬ 32 < 0 by omega), if_neg (show ¬ 32 < 0 by omega)]
end Go.Proofs.YtloamahbghjjgaaGreatDoor

namespace Go.Proofs.YtloamahbghjjgaaGreatDoor
open Go.RowKit

set_option maxRecDepth 100000 in
set_option maxHeartbeats 2000000 in
theorem shift_up (s : ByteArray) (w : World) (hs : s.size ≤ 1000000) :
    Calls Tryz.prog 185 #[.string s, .int .u8 97, .int .u8 122, .int .i64 (-32)] w fun e w' => e = .returned (.string (mapB upC s)) ∧ Below w.heap.size w w' := by
  have hc := run_bytes_of_string (P := Tryz.prog) w 9 166 5 s Tryz.underlying9 Tryz.underlying166 Tryz.underlying5
  obtain ⟨c, hcc⟩ : ∃ c, grownCap w s.size 0 5 = c := ⟨_, rfl⟩
  rw [hcc] at hc
  clear hcc
  have HT := hide (turn_start upC s w c)
  have HB : Hid (Below w.heap.size w (w.drew.alloc (.cells (bytesRow s c) 5 ((bytesRow s c).size, (bytesRow s c).size + 1)))) := hide ((Below.refl _ _).drew.alloc (Nat.le_refl _) _)
  obtain ⟨w0, hw0⟩ : ∃ w0, w.drew.alloc (.cells (bytesRow s c) 5 ((bytesRow s c).size, (bytesRow s c).size + 1)) = w0 := ⟨_, rfl⟩
  rw [hw0] at hc HT HB
  clear hw0
  obtain ⟨n, hn⟩ : ∃ n, s.size = n := ⟨_, rfl⟩
  rw [hn] at hc hs
  have HN := hide hn
  go_enter Tryz.func185, Tryz.ntmps185
  go_wp2
  clear hc
  go_loopw [16] (fun t wr => ∃ i : Nat, t = .int .i64 (i : Int) ∧ i ≤ n ∧ Hid (TurnAt upC s wr w.heap.size i) ∧ Hid (Below w.heap.size w wr)) (fun t _ => n - (intOf t).toNat)
  case atStart => exact ⟨0, rfl, by omega, HT, HB⟩
  case round =>
    clear HT HB
    obtain ⟨i, rfl, hi, HT, HB⟩ := hrel
    by_cases hin : i < n
    · obtain ⟨c0, f0⟩ := (unhide HT).2 i (by omega)
      rw [if_neg (by omega)] at c0
      obtain ⟨x, hx⟩ : ∃ x, byteAt s i = x := ⟨_, rfl⟩
      have hx8 : x.toNat < 256 := x.toNat_lt
      rw [hx] at c0
      have HX := hide hx
      obtain ⟨k, hk⟩ : ∃ k : Nat, x.toNat = k := ⟨_, rfl⟩
      rw [hk] at c0 hx8
      have HK := hide hk
      clear hx hk
      by_cases h1 : 97 ≤ k
      · by_cases h2 : k ≤ 122
        · have TS : Hid (TurnAt upC s (wr.setCell ⟨w.heap.size, i, none⟩ (.int .u8 ((k : Int) + -32))) w.heap.size (i + 1)) := hide (by
            have h := turn_set (unhide HT) (by have := unhide HN; omega)
            rw [unhide HX] at h
            have e : ((upC x).toNat : Int) = (k : Int) + -32 := by
              unfold upC
              rw [unhide HK, if_pos ⟨h1, h2⟩, UInt8.toNat_ofNat']
              omega
            rw [e] at h
            exact h)
          have HB2 := hide ((unhide HB).setCell (p := ⟨w.heap.size, i, none⟩) (Nat.le_refl _) (.int .u8 ((k : Int) + -32)))
          go_wp2
          go_roundw
          case rel => exact ⟨i + 1, by go_num, by omega, TS, HB2⟩
          case measure => simp [intOf]; omega
        · have TS := hide (turn_same (unhide HT) (by rw [unhide HX]; unfold upC; rw [unhide HK, if_neg (by omega)]))
          have d2 : decide ((k : Int) ≤ 122) = false := decide_eq_false (by omega)
          go_wp2
          go_roundw
          case rel => exact ⟨i + 1, by go_num, by omega, TS, HB⟩
          case measure => simp [intOf]; omega
      · have TS := hide (turn_same (unhide HT) (by rw [unhide HX]; unfold upC; rw [unhide HK, if_neg (by omega)]))
        have d1 : decide (97 ≤ (k : Int)) = false := decide_eq_false (by omega)
        go_wp2
        go_roundw
        case rel => exact ⟨i + 1, by go_num, by omega, TS, HB⟩
        case measure => simp [intOf]; omega
    · have hb := turn_end (unhide HT) (by have := unhide HN; omega) c
      rw [unhide HN] at hb
      go_wp2
      go_ret
      exact ⟨rfl, unhide HB⟩

set_option maxHeartbeats 1000000 in
theorem upper_val (s : ByteArray) (w : World) (hs : s.size ≤ 1000000) :
    Calls Tryz.prog 146 #[.string s] w fun e w' => e = .returned (.string (mapB upC s)) ∧ Below w.heap.size w w' := by
  have HS := hide (fun w => shift_up s w hs)
  clear hs
  go_enter Tryz.func146, Tryz.ntmps146
  go_wp2_with fail
  refine (unhide HS _).mono ?_
  rintro e w1 ⟨rfl, b1⟩
  go_wp2
  go_ret
  exact ⟨rfl, b1⟩
end Go.Proofs.YtloamahbghjjgaaGreatDoor

namespace Go.Proofs.YtloamahbghjjgaaGreatDoor
open Go.RowKit

def CellsAt (w : World) (B : Nat) (t : TypeId) (cs : Array Value) : Prop := w.heap[B]? = some (.cells cs t (0, 0))
theorem cells_c {w : World} {B : Nat} {t : TypeId} {cs : Array Value} (h : CellsAt w B t cs) (i : Nat) (v : Value) (hv : cs[i]? = some v) : w.cell? ⟨B, i, none⟩ = some v := by
  unfold CellsAt at h
  obtain ⟨hlt, hv'⟩ := Array.getElem?_eq_some_iff.1 hv
  simp [World.cell?, h, hlt, hv']
theorem cells_f {w : World} {B : Nat} {t : TypeId} {cs : Array Value} (h : CellsAt w B t cs) (i : Nat) : w.frozen? ⟨B, i, none⟩ = false := by
  unfold CellsAt at h
  simp [World.frozen?, h]
theorem cells_lt {w : World} {B : Nat} {t : TypeId} {cs : Array Value} (h : CellsAt w B t cs) : B < w.heap.size := by
  rcases Nat.lt_or_ge B w.heap.size with h1 | h1
  · exact h1
  · unfold CellsAt at h; rw [Array.getElem?_eq_none h1] at h; cases h
theorem cells_below {w w' : World} {B N : Nat} {t : TypeId} {cs : Array Value} (h : CellsAt w B t cs) (hb : Below N w w') (hB : B < N) : CellsAt w' B t cs := by
  unfold CellsAt at h ⊢
  rw [hb.block B hB]; exact h
theorem cells_nx {w w' : World} {B : Nat} {t : TypeId} {cs : Array Value} (h : CellsAt w B t cs) (hb : Below w.heap.size w w') : CellsAt w' B t cs := cells_below h hb (cells_lt h)
theorem cells_new (w : World) (t : TypeId) (cs : Array Value) : CellsAt (w.alloc (.cells cs t)) w.heap.size t cs := heap_alloc_new _ _
theorem cells_drew {w : World} {B : Nat} {t : TypeId} {cs : Array Value} (h : CellsAt w B t cs) : CellsAt w.drew B t cs := h
theorem cells_al {w : World} {B : Nat} {t : TypeId} {cs : Array Value} (h : CellsAt w B t cs) (o : Obj) : CellsAt (w.alloc o) B t cs := cells_nx h (below_al w o)
theorem cells_set {w : World} {B : Nat} {t : TypeId} {cs : Array Value} (h : CellsAt w B t cs) (i : Nat) (v : Value) : CellsAt (w.setCell ⟨B, i, none⟩ v) B t (cs.setIfInBounds i v) := by
  unfold CellsAt at h ⊢
  exact heap_setCell_same w B i cs t v h
theorem cells_set_far {w : World} {B C : Nat} {t : TypeId} {cs : Array Value} (h : CellsAt w B t cs) (hC : B ≠ C) (i : Nat) (v : Value) : CellsAt (w.setCell ⟨C, i, none⟩ v) B t cs := by
  unfold CellsAt at h ⊢
  rw [heap_setCell_other _ _ _ _ hC]; exact h
theorem cells4 {w : World} {B : Nat} {t : TypeId} {v0 v1 v2 v3 : Value} (h : CellsAt w B t #[v0, v1, v2, v3]) :
    w.cell? ⟨B, 0, none⟩ = some v0 ∧ w.cell? ⟨B, 1, none⟩ = some v1 ∧ w.cell? ⟨B, 2, none⟩ = some v2 ∧ w.cell? ⟨B, 3, none⟩ = some v3 := by
  unfold CellsAt at h
  simp [World.cell?, h]
theorem cells11 {w : World} {B : Nat} {t : TypeId} {v0 v1 v2 v3 v4 v5 v6 v7 v8 v9 v10 : Value} (h : CellsAt w B t #[v0, v1, v2, v3, v4, v5, v6, v7, v8, v9, v10]) :
    w.cell? ⟨B, 0, none⟩ = some v0 ∧ w.cell? ⟨B, 1, none⟩ = some v1 ∧ w.cell? ⟨B, 2, none⟩ = some v2 ∧ w.cell? ⟨B, 3, none⟩ = some v3 ∧ w.cell? ⟨B, 4, none⟩ = some v4 ∧ w.cell? ⟨B, 5, none⟩ = some v5 ∧ w.cell? ⟨B, 6, none⟩ = some v6 ∧ w.cell? ⟨B, 7, none⟩ = some v7 ∧ w.cell? ⟨B, 8, none⟩ = some v8 ∧ w.cell? ⟨B, 9, none⟩ = some v9 ∧ w.cell? ⟨B, 10, none⟩ = some v10 := by
  unfold CellsAt at h
  simp [World.cell?, h]
theorem below_set {w a : World} {N B i : Nat} (h : Below N w a) (hB : N ≤ B) (v : Value) : Below N w (a.setCell ⟨B, i, none⟩ v) := h.setCell (p := ⟨B, i, none⟩) hB v

set_option maxHeartbeats 1000000 in
theorem cellGood_val (c r : Int) (w : World) :
    Calls Tryz.prog 113 #[.agg #[.int .i64 c, .int .i64 r]] w fun e w' => e = .returned (.bool (cellG c r)) ∧ Below w.heap.size w w' := by
  by_cases h0 : 0 ≤ c
  · by_cases h1 : c < 64
    · by_cases h2 : 0 ≤ r
      · by_cases h3 : r < 1024
        · have E : cellG c r = true := (cellG_iff c r).2 ⟨h0, h1, h2, h3⟩
          rw [E]
          clear E
          go_enter Tryz.func113, Tryz.ntmps113
          go_wp2
          go_ret
          exact ⟨rfl, below_al _ _⟩
        · have g3 : 1024 ≤ r := by omega
          have d3 : decide (r < 1024) = false := decide_eq_false h3
          have E : cellG c r = false := by rw [← Bool.not_eq_true, cellG_iff]; omega
          rw [E]
          clear E h3
          go_enter Tryz.func113, Tryz.ntmps113
          go_wp2
          go_ret
          exact ⟨rfl, below_al _ _⟩
      · have g2 : r < 0 := by omega
        have d2 : decide (0 ≤ r) = false := decide_eq_false h2
        have E : cellG c r = false := by rw [← Bool.not_eq_true, cellG_iff]; omega
        rw [E]
        clear E h2
        go_enter Tryz.func113, Tryz.ntmps113
        go_wp2
        go_ret
        exact ⟨rfl, below_al _ _⟩
    · have g1 : 64 ≤ c := by omega
      have d1 : decide (c < 64) = false := decide_eq_false h1
      have E : cellG c r = false := by rw [← Bool.not_eq_true, cellG_iff]; omega
      rw [E]
      clear E h1
      go_enter Tryz.func113, Tryz.ntmps113
      go_wp2
      go_ret
      exact ⟨rfl, below_al _ _⟩
  · have g0 : c < 0 := by omega
    have d0 : decide (0 ≤ c) = false := decide_eq_false h0
    have E : cellG c r = false := by rw [← Bool.not_eq_true, cellG_iff]; omega
    rw [E]
    clear E h0
    go_enter Tryz.func113, Tryz.ntmps113
    go_wp2
    go_ret
    exact ⟨rfl, below_al _ _⟩
set_option maxHeartbeats 1000000 in
theorem letter_val (c : UInt8) (w : World) : Calls Tryz.prog 199 #[.int .u8 (c.toNat : Int)] w fun e w' => e = .returned (.bool (isLet c)) ∧ w' = w := by
  unfold isLet
  have hx : c.toNat < 256 := c.toNat_lt
  generalize c.toNat = x at hx ⊢
  by_cases h1 : 65 ≤ x
  · rw [decide_eq_true h1]
    have h1i : decide (65 ≤ (x : Int)) = true := decide_eq_true (by omega)
    by_cases h2 : x ≤ 90
    · rw [decide_eq_true h2]
      have h2i : decide ((x : Int) ≤ 90) = true := decide_eq_true (by omega)
      have hz : ∀ b : Bool, (true && true || b) = true := fun _ => rfl
      rw [hz]
      clear hz
      go_enter Tryz.func199, Tryz.ntmps199
      go_wp2
      go_ret
      exact ⟨rfl, rfl⟩
    · rw [decide_eq_false h2]
      have h2i : decide ((x : Int) ≤ 90) = false := decide_eq_false (by omega)
      have h2n : 90 < (x : Int) := by omega
      clear h2
      by_cases k1 : 97 ≤ x
      · rw [decide_eq_true k1]
        have k1i : decide (97 ≤ (x : Int)) = true := decide_eq_true (by omega)
        by_cases k2 : x ≤ 122
        · rw [decide_eq_true k2]
          have k2i : decide ((x : Int) ≤ 122) = true := decide_eq_true (by omega)
          go_enter Tryz.func199, Tryz.ntmps199
          go_wp2
          go_ret
          exact ⟨rfl, rfl⟩
        · rw [decide_eq_false k2]
          have k2i : decide ((x : Int) ≤ 122) = false := decide_eq_false (by omega)
          have k2n : 122 < (x : Int) := by omega
          clear k2
          go_enter Tryz.func199, Tryz.ntmps199
          go_wp2
          go_ret
          exact ⟨rfl, rfl⟩
      · rw [decide_eq_false k1]
        have k1i : decide (97 ≤ (x : Int)) = false := decide_eq_false (by omega)
        have k1n : (x : Int) < 97 := by omega
        clear k1
        go_enter Tryz.func199, Tryz.ntmps199
        go_wp2
        go_ret
        exact ⟨rfl, rfl⟩
  · rw [decide_eq_false h1]
    have h1i : decide (65 ≤ (x : Int)) = false := decide_eq_false (by omega)
    have h1n : (x : Int) < 65 := by omega
    clear h1
    by_cases k1 : 97 ≤ x
    · rw [decide_eq_true k1]
      have k1i : decide (97 ≤ (x : Int)) = true := decide_eq_true (by omega)
      by_cases k2 : x ≤ 122
      · rw [decide_eq_true k2]
        have k2i : decide ((x : Int) ≤ 122) = true := decide_eq_true (by omega)
        go_enter Tryz.func199, Tryz.ntmps199
        go_wp2
        go_ret
        exact ⟨rfl, rfl⟩
      · rw [decide_eq_false k2]
        have k2i : decide ((x : Int) ≤ 122) = false := decide_eq_false (by omega)
        have k2n : 122 < (x : Int) := by omega
        clear k2
        go_enter Tryz.func199, Tryz.ntmps199
        go_wp2
        go_ret
        exact ⟨rfl, rfl⟩
    · rw [decide_eq_false k1]
      have k1i : decide (97 ≤ (x : Int)) = false := decide_eq_false (by omega)
      have k1n : (x : Int) < 97 := by omega
      clear k1
      go_enter Tryz.func199, Tryz.ntmps199
      go_wp2
      go_ret
      exact ⟨rfl, rfl⟩
set_option maxHeartbeats 1000000 in
theorem digit_val (c : UInt8) (w : World) : Calls Tryz.prog 160 #[.int .u8 (c.toNat : Int)] w fun e w' => e = .returned (.bool (isDg c)) ∧ w' = w := by
  unfold isDg
  have hx : c.toNat < 256 := c.toNat_lt
  generalize c.toNat = x at hx ⊢
  by_cases h1 : 48 ≤ x
  · rw [decide_eq_true h1]
    have h1i : decide (48 ≤ (x : Int)) = true := decide_eq_true (by omega)
    by_cases h2 : x ≤ 57
    · rw [decide_eq_true h2]
      have h2i : decide ((x : Int) ≤ 57) = true := decide_eq_true (by omega)
      go_enter Tryz.func160, Tryz.ntmps160
      go_wp2
      go_ret
      exact ⟨rfl, rfl⟩
    · rw [decide_eq_false h2]
      have h2i : decide ((x : Int) ≤ 57) = false := decide_eq_false (by omega)
      clear h2
      go_enter Tryz.func160, Tryz.ntmps160
      go_wp2
      go_ret
      exact ⟨rfl, rfl⟩
  · rw [decide_eq_false h1]
    have h1i : decide (48 ≤ (x : Int)) = false := decide_eq_false (by omega)
    clear h1
    go_enter Tryz.func160, Tryz.ntmps160
    go_wp2
    go_ret
    exact ⟨rfl, rfl⟩
set_option maxHeartbeats 2000000 in
theorem inName_val (c : UInt8) (w : World) : Calls Tryz.prog 162 #[.int .u8 (c.toNat : Int)] w fun e w' => e = .returned (.bool (inNm c)) ∧ w' = w := by
  unfold inNm
  have HL := hide (fun w => letter_val c w)
  have HD := hide (fun w => digit_val c w)
  have e95 : (c == 95) = ((c.toNat : Int) == 95) := by
    rw [Bool.eq_iff_iff, beq_iff_eq, beq_iff_eq]
    constructor
    · intro h; subst h; rfl
    · intro h; apply UInt8.toNat_inj.1; show c.toNat = 95; omega
  rw [e95]
  clear e95
  generalize isLet c = p at HL ⊢
  generalize isDg c = q at HD ⊢
  have hx : c.toNat < 256 := c.toNat_lt
  generalize c.toNat = x at hx HL HD ⊢
  cases p
  · cases q
    · cases h9 : ((x : Int) == 95)
      · go_enter Tryz.func162, Tryz.ntmps162
        go_wp2_with fail
        refine (unhide HL _).mono ?_
        rintro e w1 ⟨rfl, rfl⟩
        go_wp2_with fail
        refine (unhide HD _).mono ?_
        rintro e w2 ⟨rfl, rfl⟩
        go_wp2
        go_ret
        exact ⟨rfl, rfl⟩
      · go_enter Tryz.func162, Tryz.ntmps162
        go_wp2_with fail
        refine (unhide HL _).mono ?_
        rintro e w1 ⟨rfl, rfl⟩
        go_wp2_with fail
        refine (unhide HD _).mono ?_
        rintro e w2 ⟨rfl, rfl⟩
        go_wp2
        go_ret
        exact ⟨rfl, rfl⟩
    · go_enter Tryz.func162, Tryz.ntmps162
      go_wp2_with fail
      refine (unhide HL _).mono ?_
      rintro e w1 ⟨rfl, rfl⟩
      go_wp2_with fail
      refine (unhide HD _).mono ?_
      rintro e w2 ⟨rfl, rfl⟩
      go_wp2
      go_ret
      exact ⟨rfl, rfl⟩
  · have hz : ∀ b d : Bool, (true || b || d) = true := fun _ _ => rfl
    rw [hz]
    clear hz
    go_enter Tryz.func162, Tryz.ntmps162
    go_wp2_with fail
    refine (unhide HL _).mono ?_
    rintro e w1 ⟨rfl, rfl⟩
    go_wp2
    go_ret
    exact ⟨rfl, rfl⟩
end Go.Proofs.YtloamahbghjjgaaGreatDoor

namespace Go.Proofs.YtloamahbghjjgaaGreatDoor
open Go.RowKit

theorem take_snoc4 (s : ByteArray) (k : Nat) (h : k < s.size) : s.data.toList.take (k + 1) = s.data.toList.take k ++ [s[k]] := by
  rw [List.take_succ_eq_append_getElem (by simpa using h)]; rfl
theorem tw_len (p : UInt8 → Bool) : ∀ (l : List UInt8) (k : Nat), k ≤ l.length → (l.take k).all p = true → (l.drop k).takeWhile p = [] → l.takeWhile p = l.take k ∧ l.dropWhile p = l.drop k
  | l, 0, _, _, h => by
    have e : l.drop 0 = l := rfl
    rw [e] at h
    refine ⟨h, ?_⟩
    have h2 := List.takeWhile_append_dropWhile (p := p) (l := l)
    rw [h, List.nil_append] at h2
    exact h2
  | [], k + 1, hk, _, _ => by simp at hk
  | c :: l, k + 1, hk, ha, hd => by
    rw [List.take_succ_cons, List.all_cons, Bool.and_eq_true] at ha
    obtain ⟨i1, i2⟩ := tw_len p l k (by simpa using hk) ha.2 hd
    refine ⟨?_, ?_⟩
    · rw [List.takeWhile_cons, if_pos ha.1, i1]; rfl
    · rw [List.dropWhile_cons, if_pos ha.1, i2]; rfl
theorem tw_here (p : UInt8 → Bool) (s : ByteArray) (k : Nat) (h : k < s.size) (hp : p s[k] = false) : (s.data.toList.drop k).takeWhile p = [] := by
  have hk : k < s.data.toList.length := h
  rw [List.drop_eq_getElem_cons hk, List.takeWhile_cons, if_neg]
  have : s.data.toList[k] = s[k] := rfl
  rw [this, hp]; simp
theorem ext_take (s : ByteArray) (k : Nat) : s.extract 0 k = ⟨(s.data.toList.take k).toArray⟩ := by
  rw [Lib.extract_eq]; simp
theorem ext_drop (s : ByteArray) (k : Nat) : s.extract k s.size = ⟨(s.data.toList.drop k).toArray⟩ := by
  rw [Lib.extract_eq]
  have ht : List.take (s.size - k) (List.drop k s.data.toList) = List.drop k s.data.toList := List.take_of_length_le (by rw [List.length_drop]; exact Nat.le_refl _)
  rw [ht]

set_option maxRecDepth 100000 in
set_option maxHeartbeats 2000000 in
theorem lead_letter (s : ByteArray) (w : World) (hs : s.size ≤ maxLen) :
    Calls Tryz.prog 161 #[.string s, .func (.func 199) #[] #[]] w fun e w' => e = .returned (.tuple #[.string ⟨(s.data.toList.takeWhile isLet).toArray⟩, .string ⟨(s.data.toList.dropWhile isLet).toArray⟩]) ∧ Below w.heap.size w w' := by
  unfold maxLen at hs
  have hsz : s.data.toList.length = s.size := rfl
  have HS := hide hsz
  clear hsz
  go_enter Tryz.func161, Tryz.ntmps161
  go_wp2
  go_loop [6] (fun i => ∃ k : Nat, k ≤ s.size ∧ i = .int .i64 k ∧ Hid ((s.data.toList.take k).all isLet = true)) (fun i => s.size - (intOf i).toNat)
  case atStart => exact ⟨0, Nat.zero_le _, rfl, hide rfl⟩
  case round =>
    obtain ⟨k, hk, rfl, HT⟩ := hrel
    by_cases hlt : k < s.size
    · have HC := hide (fun w => letter_val s[k] w)
      cases hg : isLet s[k]
      · have hw := tw_here isLet s k hlt hg
        have HE := hide (tw_len isLet s.data.toList k hk (unhide HT) hw)
        rw [hg] at HC
        clear hg hw
        have HX := hide (And.intro (ext_take s k) (ext_drop s k))
        have i1 : (0 : Int) ≤ (k : Int) := by omega
        have i2 : (k : Int) ≤ (s.size : Int) := by omega
        go_wp2_with fail
        refine (unhide HC _).mono ?_
        rintro e w1 ⟨rfl, rfl⟩
        go_wp2_with fail
        go_quiet (fail)
        go_wp2
        go_ret2
        exact ⟨by rw [(unhide HE).1, (unhide HE).2, ← (unhide HX).1, ← (unhide HX).2]; rfl, below_drewN (Below.refl _ _) _⟩
      · have hs' : Hid ((s.data.toList.take (k + 1)).all isLet = true) := hide (by rw [take_snoc4 s k hlt, List.all_append, unhide HT, List.all_cons, hg]; rfl)
        rw [hg] at HC
        clear hg
        go_wp2_with fail
        refine (unhide HC _).mono ?_
        rintro e w1 ⟨rfl, rfl⟩
        go_wp2
        go_round
        case rel => exact ⟨k + 1, by omega, by go_num, hs'⟩
        case measure => simp [intOf]; omega
    · have hk' : k = s.size := by omega
      have hw : (s.data.toList.drop k).takeWhile isLet = [] := by rw [List.drop_of_length_le (by rw [unhide HS]; omega)]; rfl
      have HE := hide (tw_len isLet s.data.toList k hk (unhide HT) hw)
      clear hw
      have HX := hide (And.intro (ext_take s k) (ext_drop s k))
      have i1 : (0 : Int) ≤ (k : Int) := by omega
      have i2 : (k : Int) ≤ (s.size : Int) := by omega
      have HK := hide hk'
      clear hk'
      go_wp2_with fail
      go_quiet (fail)
      go_wp2
      go_ret2
      exact ⟨by rw [(unhide HE).1, (unhide HE).2, ← (unhide HX).1, ← (unhide HX).2]; rfl, below_drewN (Below.refl _ _) _⟩
set_option maxRecDepth 100000 in
set_option maxHeartbeats 2000000 in
theorem lead_digit (s : ByteArray) (w : World) (hs : s.size ≤ maxLen) :
    Calls Tryz.prog 161 #[.string s, .func (.func 160) #[] #[]] w fun e w' => e = .returned (.tuple #[.string ⟨(s.data.toList.takeWhile isDg).toArray⟩, .string ⟨(s.data.toList.dropWhile isDg).toArray⟩]) ∧ Below w.heap.size w w' := by
  unfold maxLen at hs
  have hsz : s.data.toList.length = s.size := rfl
  have HS := hide hsz
  clear hsz
  go_enter Tryz.func161, Tryz.ntmps161
  go_wp2
  go_loop [6] (fun i => ∃ k : Nat, k ≤ s.size ∧ i = .int .i64 k ∧ Hid ((s.data.toList.take k).all isDg = true)) (fun i => s.size - (intOf i).toNat)
  case atStart => exact ⟨0, Nat.zero_le _, rfl, hide rfl⟩
  case round =>
    obtain ⟨k, hk, rfl, HT⟩ := hrel
    by_cases hlt : k < s.size
    · have HC := hide (fun w => digit_val s[k] w)
      cases hg : isDg s[k]
      · have hw := tw_here isDg s k hlt hg
        have HE := hide (tw_len isDg s.data.toList k hk (unhide HT) hw)
        rw [hg] at HC
        clear hg hw
        have HX := hide (And.intro (ext_take s k) (ext_drop s k))
        have i1 : (0 : Int) ≤ (k : Int) := by omega
        have i2 : (k : Int) ≤ (s.size : Int) := by omega
        go_wp2_with fail
        refine (unhide HC _).mono ?_
        rintro e w1 ⟨rfl, rfl⟩
        go_wp2_with fail
        go_quiet (fail)
        go_wp2
        go_ret2
        exact ⟨by rw [(unhide HE).1, (unhide HE).2, ← (unhide HX).1, ← (unhide HX).2]; rfl, below_drewN (Below.refl _ _) _⟩
      · have hs' : Hid ((s.data.toList.take (k + 1)).all isDg = true) := hide (by rw [take_snoc4 s k hlt, List.all_append, unhide HT, List.all_cons, hg]; rfl)
        rw [hg] at HC
        clear hg
        go_wp2_with fail
        refine (unhide HC _).mono ?_
        rintro e w1 ⟨rfl, rfl⟩
        go_wp2
        go_round
        case rel => exact ⟨k + 1, by omega, by go_num, hs'⟩
        case measure => simp [intOf]; omega
    · have hk' : k = s.size := by omega
      have hw : (s.data.toList.drop k).takeWhile isDg = [] := by rw [List.drop_of_length_le (by rw [unhide HS]; omega)]; rfl
      have HE := hide (tw_len isDg s.data.toList k hk (unhide HT) hw)
      clear hw
      have HX := hide (And.intro (ext_take s k) (ext_drop s k))
      have i1 : (0 : Int) ≤ (k : Int) := by omega
      have i2 : (k : Int) ≤ (s.size : Int) := by omega
      have HK := hide hk'
      clear hk'
      go_wp2_with fail
      go_quiet (fail)
      go_wp2
      go_ret2
      exact ⟨by rw [(unhide HE).1, (unhide HE).2, ← (unhide HX).1, ← (unhide HX).2]; rfl, below_drewN (Below.refl _ _) _⟩
set_option maxRecDepth 100000 in
set_option maxHeartbeats 2000000 in
theorem lead_name (s : ByteArray) (w : World) (hs : s.size ≤ maxLen) :
    Calls Tryz.prog 161 #[.string s, .func (.func 162) #[] #[]] w fun e w' => e = .returned (.tuple #[.string ⟨(s.data.toList.takeWhile inNm).toArray⟩, .string ⟨(s.data.toList.dropWhile inNm).toArray⟩]) ∧ Below w.heap.size w w' := by
  unfold maxLen at hs
  have hsz : s.data.toList.length = s.size := rfl
  have HS := hide hsz
  clear hsz
  go_enter Tryz.func161, Tryz.ntmps161
  go_wp2
  go_loop [6] (fun i => ∃ k : Nat, k ≤ s.size ∧ i = .int .i64 k ∧ Hid ((s.data.toList.take k).all inNm = true)) (fun i => s.size - (intOf i).toNat)
  case atStart => exact ⟨0, Nat.zero_le _, rfl, hide rfl⟩
  case round =>
    obtain ⟨k, hk, rfl, HT⟩ := hrel
    by_cases hlt : k < s.size
    · have HC := hide (fun w => inName_val s[k] w)
      cases hg : inNm s[k]
      · have hw := tw_here inNm s k hlt hg
        have HE := hide (tw_len inNm s.data.toList k hk (unhide HT) hw)
        rw [hg] at HC
        clear hg hw
        have HX := hide (And.intro (ext_take s k) (ext_drop s k))
        have i1 : (0 : Int) ≤ (k : Int) := by omega
        have i2 : (k : Int) ≤ (s.size : Int) := by omega
        go_wp2_with fail
        refine (unhide HC _).mono ?_
        rintro e w1 ⟨rfl, rfl⟩
        go_wp2_with fail
        go_quiet (fail)
        go_wp2
        go_ret2
        exact ⟨by rw [(unhide HE).1, (unhide HE).2, ← (unhide HX).1, ← (unhide HX).2]; rfl, below_drewN (Below.refl _ _) _⟩
      · have hs' : Hid ((s.data.toList.take (k + 1)).all inNm = true) := hide (by rw [take_snoc4 s k hlt, List.all_append, unhide HT, List.all_cons, hg]; rfl)
        rw [hg] at HC
        clear hg
        go_wp2_with fail
        refine (unhide HC _).mono ?_
        rintro e w1 ⟨rfl, rfl⟩
        go_wp2
        go_round
        case rel => exact ⟨k + 1, by omega, by go_num, hs'⟩
        case measure => simp [intOf]; omega
    · have hk' : k = s.size := by omega
      have hw : (s.data.toList.drop k).takeWhile inNm = [] := by rw [List.drop_of_length_le (by rw [unhide HS]; omega)]; rfl
      have HE := hide (tw_len inNm s.data.toList k hk (unhide HT) hw)
      clear hw
      have HX := hide (And.intro (ext_take s k) (ext_drop s k))
      have i1 : (0 : Int) ≤ (k : Int) := by omega
      have i2 : (k : Int) ≤ (s.size : Int) := by omega
      have HK := hide hk'
      clear hk'
      go_wp2_with fail
      go_quiet (fail)
      go_wp2
      go_ret2
      exact ⟨by rw [(unhide HE).1, (unhide HE).2, ← (unhide HX).1, ← (unhide HX).2]; rfl, below_drewN (Below.refl _ _) _⟩
end Go.Proofs.YtloamahbghjjgaaGreatDoor

namespace Go.Proofs.YtloamahbghjjgaaGreatDoor
open Go.RowKit

structure Env4 (w : World) : Prop where
  tab : Lib.TabIs Tryz.prog w "internal/strconv.uint64pow10" .u64 Lib.pow10Tab
  len : ∃ m : Int, w.cell? ⟨6, 0, none⟩ = some (.int .i64 m)
theorem Env4.below {w w' : World} (h : Env4 w) (hb : Below w.heap.size w w') : Env4 w' := by
  refine ⟨?_, ?_⟩
  · have h := h.tab
    unfold Lib.TabIs World.var? at *
    cases hg : Tryz.prog.globalNamed "internal/strconv.uint64pow10" with
    | none => simp [hg] at h
    | some g =>
      simp only [hg, Option.bind_some] at h ⊢
      have hlt : g < w.heap.size := by
        rcases Nat.lt_or_ge g w.heap.size with h' | h'
        · exact h'
        · rw [Array.getElem?_eq_none h'] at h; simp at h
      rw [hb.block g hlt]
      exact h
  · obtain ⟨m, hm⟩ := h.len
    refine ⟨m, ?_⟩
    have hlt : 6 < w.heap.size := by
      rcases Nat.lt_or_ge 6 w.heap.size with h' | h'
      · exact h'
      · simp [World.cell?, Array.getElem?_eq_none h'] at hm
    rw [hb.cell (p := ⟨6, 0, none⟩) hlt]
    exact hm
theorem app4 (x y : List UInt8) : (⟨x.toArray⟩ : ByteArray) ++ ⟨y.toArray⟩ = ⟨(x ++ y).toArray⟩ := by
  apply ByteArray.ext; simp
theorem app4_list (x y : ByteArray) : (x ++ y).data.toList = x.data.toList ++ y.data.toList := by simp
theorem itoa4 (n : Nat) (w : World) (hn : n < 10000) (he : Env4 w) :
    Calls Tryz.prog 116 #[.int .i64 (n : Int)] w fun e w' => e = .returned (.string ⟨(dgT n).toArray⟩) ∧ Below w.heap.size w w' :=
  (Tryz.strconv_Itoa (n : Int) (by omega) (by omega) w he.tab).mono (fun e w' ⟨h1, k, os, h2⟩ => ⟨by
    rw [h1]
    unfold Lib.itoa
    rw [if_neg (by omega), Int.toNat_natCast, dec_dg n hn], by rw [h2]; exact ⟨rfl, rfl, rfl, by show w.heap.size ≤ (w.heap ++ os).size; rw [Array.size_append]; omega, fun j hj => by show (w.heap ++ os)[j]? = w.heap[j]?; exact Array.getElem?_append_left hj⟩⟩)
theorem conv1 (w : World) (x : Int) (h0 : 0 ≤ x) (h9 : x < 256) :
    (convert 166 9 (.slice (some ⟨w.heap.size, 0, none⟩) 1 1)).run Tryz.prog (w.alloc (.cells #[.int .u8 x] 5)) = .ok (.string ⟨#[UInt8.ofNat x.toNat]⟩) (w.alloc (.cells #[.int .u8 x] 5)) := by
  have e : ((UInt8.ofNat x.toNat).toNat : Int) = x := by
    rw [UInt8.toNat_ofNat']
    omega
  exact run_convert_bytes_back (P := Tryz.prog) (w.alloc (.cells #[.int .u8 x] 5)) 166 9 5 ⟨w.heap.size, 0, none⟩ 1 [UInt8.ofNat x.toNat] Tryz.underlying166 Tryz.underlying5 Tryz.underlying9 (fun j hj => by
    have : j = 0 := by simp at hj; exact hj
    subst this
    show _ = some (Value.int .u8 ((UInt8.ofNat x.toNat).toNat : Int))
    rw [e]
    simp [Addr.add])
def colW (k : Nat) : List UInt8 := if k = 0 then [] else colT (k - 1)
theorem colW_step (m : Nat) (h : m < 64) : colW (m / 26) ++ [UInt8.ofNat (65 + m % 26)] = colW (m + 1) := by
  have e : colW (m + 1) = colT m := by unfold colW; rw [if_neg (by omega)]; rfl
  rw [e]
  unfold colT
  by_cases h1 : m < 26
  · rw [if_pos h1, show m / 26 = 0 by omega, show m % 26 = m by omega]; rfl
  · rw [if_neg h1]
    unfold colW
    rw [if_neg (by omega)]
    unfold colT
    rw [if_pos (by omega), show 65 + (m / 26 - 1) = 64 + m / 26 by omega]; rfl

set_option maxRecDepth 100000 in
set_option maxHeartbeats 2000000 in
theorem letters_val (n : Nat) (w : World) (hn : n < 64) :
    Calls Tryz.prog 115 #[.int .i64 (n : Int)] w fun e w' => e = .returned (.string ⟨(colT n).toArray⟩) ∧ Below w.heap.size w w' := by
  go_enter Tryz.func115, Tryz.ntmps115
  go_wp2
  go_loopw [3, 4] (fun s m wr => ∃ (k : Nat) (sb : ByteArray), m = .int .i64 (k : Int) ∧ s = .string sb ∧ sb.size + k ≤ 65 ∧ k ≤ 64 ∧ Hid (colW k ++ sb.data.toList = colT n) ∧ Hid (Below w.heap.size w wr)) (fun _ m _ => (intOf m).toNat)
  case atStart => exact ⟨n + 1, ⟨#[]⟩, by go_num, rfl, by show 0 + (n + 1) ≤ 65; omega, by omega, hide (by rw [show (⟨#[]⟩ : ByteArray).data.toList = [] from rfl, List.append_nil]; unfold colW; rw [if_neg (by omega)]; rfl), hide (Below.refl _ _)⟩
  case round =>
    obtain ⟨k, sb, rfl, rfl, hsz, hk, HC, HB⟩ := hrel
    by_cases h0 : k = 0
    · subst h0
      go_wp2
      go_ret
      exact ⟨by rw [← unhide HC]; rfl, unhide HB⟩
    · obtain ⟨m, rfl⟩ : ∃ m, k = m + 1 := ⟨k - 1, by omega⟩
      have e1 : ((m + 1 : Nat) : Int) - 1 = (m : Int) := by omega
      have e2 : 0 < ((m + 1 : Nat) : Int) := by omega
      have hm : m < 64 := by omega
      have hcv := conv1 wr (65 + ((m : Int) % 26)) (by omega) (by omega)
      obtain ⟨C, hC⟩ : ∃ C, UInt8.ofNat (65 + ((m : Int) % 26)).toNat = C := ⟨_, rfl⟩
      rw [hC] at hcv
      have HK : Hid (colW (m / 26) ++ [C] = colW (m + 1)) := hide (by rw [← colW_step m hm, ← hC, show (65 + ((m : Int) % 26)).toNat = 65 + m % 26 by omega])
      clear hC
      clear h0 hk
      generalize ((m + 1 : Nat) : Int) = z at e1 e2 ⊢
      go_wp2
      exact ⟨⟨m / 26, ⟨#[C]⟩ ++ sb, by go_num, rfl, by rw [ByteArray.size_append, show (⟨#[C]⟩ : ByteArray).size = 1 from rfl]; omega, by omega, hide (by
        rw [← unhide HC, ← unhide HK, app4_list, List.append_assoc]), hide ((unhide HB).alloc (unhide HB).size _)⟩, by simp [intOf]; omega⟩
theorem mark_val (b : Bool) (w : World) : Calls Tryz.prog 114 #[.bool b] w fun e w' => e = .returned (.string ⟨(dlr b).toArray⟩) ∧ Below w.heap.size w w' := by
  cases b
  · go_enter Tryz.func114, Tryz.ntmps114
    go_wp2
    go_ret
    exact ⟨rfl, Below.refl _ _⟩
  · go_enter Tryz.func114, Tryz.ntmps114
    go_wp2
    go_ret
    exact ⟨rfl, Below.refl _ _⟩
end Go.Proofs.YtloamahbghjjgaaGreatDoor
