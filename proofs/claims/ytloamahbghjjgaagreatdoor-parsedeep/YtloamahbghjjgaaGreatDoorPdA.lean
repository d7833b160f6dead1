/- Plain: texts that are formulas, and what is made of them. -/
import Derived.Test.YtloamahbghjjgaaGreatDoorPaG
import Derived.Test.YtloamahbghjjgaaGreatDoorLxZ
namespace Go.Proofs.YtloamahbghjjgaaGreatDoor

def Syn.mp (f : Tk → Tk) : Syn → Syn
  | .atom t => .atom (f t)
  | .par o s c => .par (f o) (s.mp f) (f c)
  | .call t o l c => .call (f t) (f o) (l.mp f) (f c)
  | .sign t s => .sign (f t) (s.mp f)
  | .pct s t => .pct (s.mp f) (f t)
  | .bin a t b => .bin (a.mp f) (f t) (b.mp f)
  | .nil => .nil
  | .first s => .first (s.mp f)
  | .snoc l c s => .snoc (l.mp f) (f c) (s.mp f)
theorem mp_toks (f : Tk → Tk) : ∀ s : Syn, (s.mp f).toks = s.toks.map f
  | .atom t => rfl
  | .par o s c => by simp [Syn.mp, Syn.toks, mp_toks f s]
  | .call t o l c => by simp [Syn.mp, Syn.toks, mp_toks f l]
  | .sign t s => by simp [Syn.mp, Syn.toks, mp_toks f s]
  | .pct s t => by simp [Syn.mp, Syn.toks, mp_toks f s]
  | .bin a t b => by simp [Syn.mp, Syn.toks, mp_toks f a, mp_toks f b]
  | .nil => rfl
  | .first s => by simp [Syn.mp, Syn.toks, mp_toks f s]
  | .snoc l c s => by simp [Syn.mp, Syn.toks, mp_toks f l, mp_toks f s]
theorem mp_mp (f g : Tk → Tk) : ∀ s : Syn, (s.mp f).mp g = s.mp (fun t => g (f t))
  | .atom t => rfl
  | .par o s c => by simp [Syn.mp, mp_mp f g s]
  | .call t o l c => by simp [Syn.mp, mp_mp f g l]
  | .sign t s => by simp [Syn.mp, mp_mp f g s]
  | .pct s t => by simp [Syn.mp, mp_mp f g s]
  | .bin a t b => by simp [Syn.mp, mp_mp f g a, mp_mp f g b]
  | .nil => rfl
  | .first s => by simp [Syn.mp, mp_mp f g s]
  | .snoc l c s => by simp [Syn.mp, mp_mp f g l, mp_mp f g s]
/-- Without the places. -/
def pl0 (t : Tk) : Tk := t.put 0
abbrev Syn.bare (s : Syn) : Syn := s.mp pl0
theorem bare_nil : ∀ {s : Syn}, s.bare = .nil ↔ s = .nil
  | .atom _ => by simp [Syn.bare, Syn.mp]
  | .par _ _ _ => by simp [Syn.bare, Syn.mp]
  | .call _ _ _ _ => by simp [Syn.bare, Syn.mp]
  | .sign _ _ => by simp [Syn.bare, Syn.mp]
  | .pct _ _ => by simp [Syn.bare, Syn.mp]
  | .bin _ _ _ => by simp [Syn.bare, Syn.mp]
  | .nil => by simp [Syn.bare, Syn.mp]
  | .first _ => by simp [Syn.bare, Syn.mp]
  | .snoc _ _ _ => by simp [Syn.bare, Syn.mp]
theorem bare_wf : ∀ (s : Syn) (k : Nat), s.bare.wf k ↔ s.wf k
  | .atom t, k => Iff.rfl
  | .par o s c, k => by
    have := bare_wf s 1
    show (k ≤ 8 ∧ o.kind = 6 ∧ c.kind = 7 ∧ s.bare.wf 1) ↔ (k ≤ 8 ∧ o.kind = 6 ∧ c.kind = 7 ∧ s.wf 1)
    rw [this]
  | .call t o l c, k => by
    have := bare_wf l 9
    show (k ≤ 8 ∧ t.kind = 4 ∧ o.kind = 6 ∧ c.kind = 7 ∧ l.bare.wf 9) ↔ (k ≤ 8 ∧ t.kind = 4 ∧ o.kind = 6 ∧ c.kind = 7 ∧ l.wf 9)
    rw [this]
  | .sign t s, k => by
    have := bare_wf s 6
    show (k ≤ 6 ∧ signB t = true ∧ s.bare.wf 6) ↔ (k ≤ 6 ∧ signB t = true ∧ s.wf 6)
    rw [this]
  | .pct s t, k => by
    have := bare_wf s 7
    show (k ≤ 7 ∧ pctB t = true ∧ s.bare.wf 7) ↔ (k ≤ 7 ∧ pctB t = true ∧ s.wf 7)
    rw [this]
  | .bin a t b, k => by
    have h1 := bare_wf a (lineT t)
    have h2 := bare_wf b (lineT t + 1)
    show (k ≤ lineT t ∧ 1 ≤ lineT t ∧ a.bare.wf (lineT t) ∧ b.bare.wf (lineT t + 1)) ↔ (k ≤ lineT t ∧ 1 ≤ lineT t ∧ a.wf (lineT t) ∧ b.wf (lineT t + 1))
    rw [h1, h2]
  | .nil, k => Iff.rfl
  | .first s, k => by
    have := bare_wf s 1
    show (k = 9 ∧ s.bare.wf 1) ↔ (k = 9 ∧ s.wf 1)
    rw [this]
  | .snoc l c s, k => by
    have h1 := bare_wf l 9
    have h2 := bare_wf s 1
    show (k = 9 ∧ l.bare.wf 9 ∧ l.bare ≠ .nil ∧ c.kind = 8 ∧ s.bare.wf 1) ↔ (k = 9 ∧ l.wf 9 ∧ l ≠ .nil ∧ c.kind = 8 ∧ s.wf 1)
    rw [h1, h2, Ne, bare_nil]
theorem bare_size : ∀ s : Syn, s.bare.size = s.size
  | .atom _ => rfl
  | .par _ s _ => bare_size s
  | .call _ _ l _ => by have := bare_size l; show l.bare.size + 1 = l.size + 1; rw [this]
  | .sign t s => by have := bare_size s; show (if minusB t = true then s.bare.size + 1 else s.bare.size) = if minusB t = true then s.size + 1 else s.size; rw [this]
  | .pct s _ => by have := bare_size s; show s.bare.size + 1 = s.size + 1; rw [this]
  | .bin a _ b => by have h1 := bare_size a; have h2 := bare_size b; show a.bare.size + b.bare.size + 1 = a.size + b.size + 1; rw [h1, h2]
  | .nil => rfl
  | .first s => bare_size s
  | .snoc l _ s => by have h1 := bare_size l; have h2 := bare_size s; show l.bare.size + s.bare.size = l.size + s.size; rw [h1, h2]
theorem bare_kids : ∀ (s : Syn) (b : Nat), s.bare.kidsL b = s.kidsL b
  | .nil, _ => rfl
  | .first s, b => by have := bare_size s; show [b + s.bare.size - 1] = [b + s.size - 1]; rw [this]
  | .snoc l c s, b => by
    have h1 := bare_kids l b
    have h2 := bare_size l
    have h3 := bare_size s
    show l.bare.kidsL b ++ [b + l.bare.size + s.bare.size - 1] = l.kidsL b ++ [b + l.size + s.size - 1]
    rw [h1, h2, h3]
  | .atom _, _ => rfl
  | .par _ _ _, _ => rfl
  | .call _ _ _ _, _ => rfl
  | .sign _ _, _ => rfl
  | .pct _ _, _ => rfl
  | .bin _ _ _, _ => rfl
theorem bare_nest : ∀ s : Syn, s.bare.nest = s.nest
  | .atom _ => rfl
  | .par _ s _ => by have := bare_nest s; show s.bare.nest + 1 = s.nest + 1; rw [this]
  | .call _ _ l _ => bare_nest l
  | .sign _ s => by have := bare_nest s; show s.bare.nest + 1 = s.nest + 1; rw [this]
  | .pct s _ => bare_nest s
  | .bin a _ b => by have h1 := bare_nest a; have h2 := bare_nest b; show max a.bare.nest b.bare.nest = max a.nest b.nest; rw [h1, h2]
  | .nil => rfl
  | .first s => by have := bare_nest s; show s.bare.nest + 1 = s.nest + 1; rw [this]
  | .snoc l _ s => by have h1 := bare_nest l; have h2 := bare_nest s; show max l.bare.nest (s.bare.nest + 1) = max l.nest (s.nest + 1); rw [h1, h2]
theorem bare_most : ∀ s : Syn, s.bare.most = s.most
  | .atom _ => rfl
  | .par _ s _ => bare_most s
  | .call _ _ l _ => by have h1 := bare_most l; have h2 := bare_kids l 0; show max l.bare.most (l.bare.kidsL 0).length = max l.most (l.kidsL 0).length; rw [h1, h2]
  | .sign _ s => bare_most s
  | .pct s _ => bare_most s
  | .bin a _ b => by have h1 := bare_most a; have h2 := bare_most b; show max a.bare.most b.bare.most = max a.most b.most; rw [h1, h2]
  | .nil => rfl
  | .first s => bare_most s
  | .snoc l _ s => by have h1 := bare_most l; have h2 := bare_most s; show max l.bare.most s.bare.most = max l.most s.most; rw [h1, h2]
theorem bare_emit : ∀ (s : Syn) (b : Nat), s.bare.emit b = s.emit b
  | .atom _, _ => rfl
  | .par _ s _, b => bare_emit s b
  | .call t _ l _, b => by have h1 := bare_emit l b; have h2 := bare_kids l b; show l.bare.emit b ++ [callN t (l.bare.kidsL b)] = l.emit b ++ [callN t (l.kidsL b)]; rw [h1, h2]
  | .sign t s, b => by
    have h1 := bare_emit s b; have h2 := bare_size s
    show (if minusB t = true then s.bare.emit b ++ [negN (b + s.bare.size - 1)] else s.bare.emit b) = if minusB t = true then s.emit b ++ [negN (b + s.size - 1)] else s.emit b
    rw [h1, h2]
  | .pct s _, b => by have h1 := bare_emit s b; have h2 := bare_size s; show s.bare.emit b ++ [pctN (b + s.bare.size - 1)] = s.emit b ++ [pctN (b + s.size - 1)]; rw [h1, h2]
  | .bin x t y, b => by
    have h1 := bare_emit x b; have h2 := bare_size x; have h3 := bare_size y
    have h4 := bare_emit y (b + x.size)
    show x.bare.emit b ++ (y.bare.emit (b + x.bare.size) ++ [binN t (b + x.bare.size - 1) (b + x.bare.size + y.bare.size - 1)]) = x.emit b ++ (y.emit (b + x.size) ++ [binN t (b + x.size - 1) (b + x.size + y.size - 1)])
    rw [h1, h2, h3, h4]
  | .nil, _ => rfl
  | .first s, b => bare_emit s b
  | .snoc l _ s, b => by
    have h1 := bare_emit l b; have h2 := bare_size l; have h3 := bare_emit s (b + l.size)
    show l.bare.emit b ++ s.bare.emit (b + l.bare.size) = l.emit b ++ s.emit (b + l.size)
    rw [h1, h2, h3]
theorem bare_parse (s : Syn) : parseS (some s.bare) = parseS (some s) := by
  unfold parseS
  simp only [bare_nest, bare_most, bare_size, bare_emit]
/-- The text has these tokens, wherever it stands. -/
def Fm (l : List UInt8) (z : Syn) : Prop := ∀ o, ∃ y : Syn, lexL o l = (y.toks, 0, 0) ∧ y.bare = z
/-- So it has whatever stands behind it. -/
def Fc (l : List UInt8) (z : Syn) : Prop := ∀ o x, ∃ y : Syn, lexL o (l ++ x) = preT y.toks (lexL (o + l.length) x) ∧ y.bare = z
theorem preT_empty (ts : List Tk) : preT ts ([], 0, 0) = (ts, 0, 0) := by rw [pre_lex, List.append_nil]
theorem fm_of {l : List UInt8} {z : Syn} (h : Fc l z) : Fm l z := fun o => by
  obtain ⟨y, h1, h2⟩ := h o []
  rw [List.append_nil, lexL_nil, preT_empty] at h1
  exact ⟨y, h1, h2⟩
theorem fm_tail {l : List UInt8} {z : Syn} (h : Fm l z) (x : List UInt8) (hx : TailOk x) (o : Nat) : ∃ y : Syn, lexL o (l ++ x) = preT y.toks (lexL (o + l.length) x) ∧ y.bare = z := by
  obtain ⟨y, h1, h2⟩ := h o
  exact ⟨y, by rw [lex_app x hx o l (by rw [h1]), h1], h2⟩
theorem fm_parse {l : List UInt8} {z : Syn} (h : Fm l z) (hw : z.wf 1) (hl : l.length ≤ 512) : parseL l = parseS (some z) := by
  obtain ⟨y, h1, h2⟩ := h 0
  subst h2
  have e : lexT l = (y.toks, 0, 0) := by unfold lexT; rw [if_neg (by omega), h1]
  unfold parseL
  rw [e, if_pos rfl, bare_parse, rd_back ((bare_wf _ _).1 hw)]
  rfl
theorem shift_bare (k : Nat) (s : Syn) : (s.mp (shiftT k)).bare = s.bare := by
  unfold Syn.bare
  rw [mp_mp]; rfl
theorem fm_get {l : List UInt8} {nds : List Nd} (h : parseL l = (nds, 0)) : ∃ z : Syn, Fm l z ∧ z.wf 1 ∧ z.nest ≤ 32 ∧ z.most ≤ 32 ∧ z.size ≤ 256 ∧ nds = z.emit 0 ∧ l.length ≤ 512 := by
  unfold parseL at h
  by_cases h0 : (lexT l).2.2 = 0
  · rw [if_pos h0] at h
    cases hr : wholeO (rd (.chain 1) (lexT l).1) with
    | none => rw [hr] at h; cases h
    | some y =>
      rw [hr] at h
      have hw : y.wf 1 ∧ y.toks = (lexT l).1 := by
        unfold wholeO at hr
        split at hr
        · next s e =>
          cases hr
          refine ⟨rd_wf e (by unfold Md.ok; omega), ?_⟩
          have := rd_toks e
          rw [List.append_nil] at this
          exact this.symm
        · cases hr
      have hl : l.length ≤ 512 := by
        by_cases hl : 512 < l.length
        · unfold lexT at h0; rw [if_pos hl] at h0; cases h0
        · omega
      have hX : lexT l = lexL 0 l := by unfold lexT; rw [if_neg (by omega)]
      have hz := lexL_zero 0 l (by rw [← hX]; exact h0)
      have hq : lexL 0 l = (y.toks, 0, 0) := by
        rw [hw.2, hX]
        rw [hX] at h0
        generalize lexL 0 l = q at h0 hz
        obtain ⟨a, b, c⟩ := q
        simp only [] at h0 hz
        subst h0; subst hz; rfl
      have hn : y.nest ≤ 32 := by
        by_cases hc : 32 < y.nest
        · unfold parseS at h; simp only [] at h; rw [if_pos hc] at h; cases h
        · omega
      have hm : y.most ≤ 32 := by
        by_cases hc : 32 < y.most
        · unfold parseS at h; simp only [] at h; rw [if_neg (by omega), if_pos hc] at h; cases h
        · omega
      have hs : y.size ≤ 256 := by
        by_cases hc : 256 < y.size
        · unfold parseS at h; simp only [] at h; rw [if_neg (by omega), if_neg (by omega), if_pos hc] at h; cases h
        · omega
      refine ⟨y.bare, fun o => ⟨y.mp (shiftT o), ?_, shift_bare o y⟩, (bare_wf _ _).2 hw.1, by rw [bare_nest]; exact hn, by rw [bare_most]; exact hm, by rw [bare_size]; exact hs, ?_, hl⟩
      · have := lex_shift o 0 l
        rw [Nat.zero_add] at this
        rw [this, hq, mp_toks]
        unfold shiftX; rfl
      · unfold parseS at h
        simp only [] at h
        rw [if_neg (by omega), if_neg (by omega), if_neg (by omega)] at h
        cases h
        rw [bare_emit]
  · rw [if_neg h0] at h
    exact absurd (congrArg Prod.snd h) h0
/-- One piece ahead. -/
theorem lex_one (o n : Nat) (c : UInt8) (l : List UInt8) (t : Tk) (hc : c ≠ 32) (h : tok1 (c :: l) = (t, n + 1, 0)) : lexL o (c :: l) = preT [t.put o] (lexL (o + (n + 1)) (l.drop n)) := by
  rw [lexL_ok o c l hc (by rw [h]), h]; rfl
def oT : Tk := ⟨6, emp, 0, 0, zeroF, 0⟩
def cT : Tk := ⟨7, emp, 0, 0, zeroF, 0⟩
def commaT : Tk := ⟨8, emp, 0, 0, zeroF, 0⟩
def opT (l : List UInt8) : Tk := ⟨5, ⟨l.toArray⟩, 0, 0, zeroF, 0⟩
def fT : Tk := ⟨4, ⟨#[70]⟩, 0, 0, zeroF, 0⟩
def oneT : Tk := ⟨0, emp, 10000, 0, zeroF, 0⟩
theorem tok_open (l : List UInt8) : tok1 (40 :: l) = (oT, 1, 0) := by
  unfold tok1
  rw [show (40 :: l).headD 0 = 40 from rfl, if_neg (by decide), if_neg (by decide), if_neg (by decide), if_neg (by decide), if_neg (by decide), if_pos rfl]; rfl
theorem tok_close (l : List UInt8) : tok1 (41 :: l) = (cT, 1, 0) := by
  unfold tok1
  rw [show (41 :: l).headD 0 = 41 from rfl, if_neg (by decide), if_neg (by decide), if_neg (by decide), if_neg (by decide), if_neg (by decide), if_neg (by decide), if_pos rfl]; rfl
theorem tok_comma (l : List UInt8) : tok1 (44 :: l) = (commaT, 1, 0) := by
  unfold tok1
  rw [show (44 :: l).headD 0 = 44 from rfl, if_neg (by decide), if_neg (by decide), if_neg (by decide), if_neg (by decide), if_neg (by decide), if_neg (by decide), if_neg (by decide), if_pos rfl]; rfl
theorem tok_op (c : UInt8) (l : List UInt8) (h1 : isDg c = false) (h2 : headC c = false) (h3 : opC c = true) : tok1 (c :: l) = opTok (c :: l) := by
  unfold tok1
  rw [show (c :: l).headD 0 = c from rfl, if_neg (by rw [h1]; decide), if_neg (by rw [h2]; decide), if_pos h3]
theorem tok_plus (l : List UInt8) : tok1 (43 :: l) = (opT [43], 1, 0) := by
  rw [tok_op 43 l rfl rfl rfl]
  have e : opN (43 :: l) = 1 := by
    unfold opN
    cases l with
    | nil => rfl
    | cons d l => rw [if_neg]; simp [twoB]
  unfold opTok
  rw [e]; rfl
theorem tok_minus (l : List UInt8) : tok1 (45 :: l) = (opT [45], 1, 0) := by
  rw [tok_op 45 l rfl rfl rfl]
  have e : opN (45 :: l) = 1 := by
    unfold opN
    cases l with
    | nil => rfl
    | cons d l => rw [if_neg]; simp [twoB]
  unfold opTok
  rw [e]; rfl
theorem tok_f (l : List UInt8) : tok1 (102 :: 40 :: l) = (fT, 1, 0) := by
  unfold tok1
  rw [show (102 :: 40 :: l).headD 0 = 102 from rfl, if_neg (by decide), if_pos (by decide)]
  unfold nameTok
  have e : runR (102 :: 40 :: l) = [102] := by
    unfold runR
    rw [List.takeWhile_cons, if_pos (by decide), List.takeWhile_cons, if_neg (by decide)]
  have e2 : callB (102 :: 40 :: l) = true := by
    unfold callB
    rw [List.dropWhile_cons, if_pos (by decide), List.dropWhile_cons, if_neg (by decide)]
    unfold unbl
    rw [List.dropWhile_cons, if_neg (by decide)]; rfl
  have e3 : (nameG [102] && true) = true := by kernel_rfl
  rw [e, e2, if_pos e3]
  first | done | rfl
theorem fm_one : Fm [49] (.atom oneT) := fun o => by
  refine ⟨.atom (oneT.put o), ?_, rfl⟩
  have e : tok1 [49] = (oneT, 1, 0) := by kernel_rfl
  rw [lex_one o 0 49 [] oneT (by decide) e]
  show preT [oneT.put o] (lexL (o + 1) []) = _
  rw [lexL_nil, preT_empty]; rfl
theorem drop0 (l : List UInt8) : l.drop 0 = l := rfl
theorem fc_par {l : List UInt8} {z : Syn} (h : Fm l z) : Fc (40 :: (l ++ [41])) (.par oT z cT) := fun o x => by
  obtain ⟨y, h1, h2⟩ := fm_tail h (41 :: x) (Or.inr ⟨41, x, rfl, Or.inr (Or.inl rfl)⟩) (o + 1)
  refine ⟨.par (oT.put o) y (cT.put ((o + 1 + l.length : Nat) : Int)), ?_, by rw [← h2]; rfl⟩
  rw [show 40 :: (l ++ [41]) ++ x = 40 :: (l ++ 41 :: x) by simp, lex_one o 0 40 _ oT (by decide) (tok_open _), drop0, h1, lex_one (o + 1 + l.length) 0 41 x cT (by decide) (tok_close _), drop0, preT_pre, preT_pre]
  rw [show o + 1 + l.length + (0 + 1) = o + (40 :: (l ++ [41])).length by simp; omega]
  simp [Syn.toks]
theorem fm_plus {l : List UInt8} {z : Syn} (h : Fm l z) : Fm (43 :: l) (.sign (opT [43]) z) := fun o => by
  obtain ⟨y, h1, h2⟩ := h (o + 1)
  refine ⟨.sign ((opT [43]).put o) y, ?_, by rw [← h2]; rfl⟩
  rw [lex_one o 0 43 _ _ (by decide) (tok_plus _), drop0, h1, pre_lex]; rfl
theorem fm_minus {l : List UInt8} {z : Syn} (h : Fm l z) : Fm (45 :: l) (.sign (opT [45]) z) := fun o => by
  obtain ⟨y, h1, h2⟩ := h (o + 1)
  refine ⟨.sign ((opT [45]).put o) y, ?_, by rw [← h2]; rfl⟩
  rw [lex_one o 0 45 _ _ (by decide) (tok_minus _), drop0, h1, pre_lex]; rfl
theorem fm_call {l : List UInt8} {z : Syn} (h : Fm l z) : Fm (102 :: 40 :: (l ++ [41])) (.call fT oT z cT) := fun o => by
  obtain ⟨y, h1, h2⟩ := fm_tail h [41] (Or.inr ⟨41, [], rfl, Or.inr (Or.inl rfl)⟩) (o + 2)
  refine ⟨.call (fT.put o) (oT.put ((o + 1 : Nat) : Int)) y (cT.put ((o + 2 + l.length : Nat) : Int)), ?_, by rw [← h2]; rfl⟩
  rw [lex_one o 0 102 _ fT (by decide) (tok_f _), drop0, lex_one (o + (0 + 1)) 0 40 _ oT (by decide) (tok_open _), drop0, show o + (0 + 1) + (0 + 1) = o + 2 by omega, h1, lex_one (o + 2 + l.length) 0 41 [] cT (by decide) (tok_close _), drop0, lexL_nil, preT_empty, preT_pre, preT_pre, pre_lex]
  simp [Syn.toks]
theorem fm_first {l : List UInt8} {z : Syn} (h : Fm l z) : Fm l (.first z) := fun o => by
  obtain ⟨y, h1, h2⟩ := h o
  exact ⟨.first y, h1, by rw [← h2]; rfl⟩
theorem fm_nil : Fm [] .nil := fun o => ⟨.nil, lexL_nil o, rfl⟩
theorem fm_snoc {l m : List UInt8} {z v : Syn} (h : Fm l z) (h' : Fm m v) : Fm (l ++ 44 :: m) (.snoc z commaT v) := fun o => by
  obtain ⟨y, h1, h2⟩ := fm_tail h (44 :: m) (Or.inr ⟨44, m, rfl, Or.inl rfl⟩) o
  obtain ⟨u, h3, h4⟩ := h' (o + l.length + 1)
  refine ⟨.snoc y (commaT.put ((o + l.length : Nat) : Int)) u, ?_, by rw [← h2, ← h4]; rfl⟩
  rw [h1, lex_one (o + l.length) 0 44 _ commaT (by decide) (tok_comma _), drop0, show o + l.length + (0 + 1) = o + l.length + 1 by omega, h3, pre_lex, pre_lex]
  simp [Syn.toks]
theorem fm_sum {l m : List UInt8} {z v : Syn} (h : Fm l z) (h' : Fm m v) : Fm (l ++ 43 :: m) (.bin z (opT [43]) v) := fun o => by
  obtain ⟨y, h1, h2⟩ := fm_tail h (43 :: m) (Or.inr ⟨43, m, rfl, Or.inr (Or.inr rfl)⟩) o
  obtain ⟨u, h3, h4⟩ := h' (o + l.length + 1)
  refine ⟨.bin y ((opT [43]).put ((o + l.length : Nat) : Int)) u, ?_, by rw [← h2, ← h4]; rfl⟩
  rw [h1, lex_one (o + l.length) 0 43 _ _ (by decide) (tok_plus _), drop0, show o + l.length + (0 + 1) = o + l.length + 1 by omega, h3, pre_lex, pre_lex]
  simp [Syn.toks]
/-- The operators between two. -/
def opsL : List (List UInt8) := [[61], [60, 62], [60], [60, 61], [62], [62, 61], [38], [43], [45], [42], [47], [94]]
theorem ops_line : ∀ op ∈ opsL, 1 ≤ lineT (opT op) ∧ lineT (opT op) ≤ 5 := by decide +kernel
theorem tok_ops (op : List UInt8) (h : op ∈ opsL) (x : List UInt8) : ∃ c l n, op = c :: l ∧ c ≠ 32 ∧ tok1 (op ++ 40 :: x) = (opT op, n + 1, 0) ∧ l.length = n := by
  unfold opsL at h
  simp only [List.mem_cons, List.not_mem_nil, or_false] at h
  rcases h with h | h | h | h | h | h | h | h | h | h | h | h <;> subst h
  all_goals refine ⟨_, _, _, rfl, by decide, ?_, rfl⟩
  all_goals
    rw [List.cons_append, tok_op _ _ rfl rfl rfl]
    rfl
theorem fc_bin {l m op : List UInt8} {z v : Syn} (h : Fc l z) (h' : Fm (40 :: m) v) (ho : op ∈ opsL) : Fm (l ++ (op ++ 40 :: m)) (.bin z (opT op) v) := fun o => by
  obtain ⟨c, r, n, rfl, hc, ht, hn⟩ := tok_ops op ho m
  obtain ⟨y, h1, h2⟩ := h o (c :: r ++ 40 :: m)
  obtain ⟨u, h3, h4⟩ := h' (o + l.length + (n + 1))
  refine ⟨.bin y ((opT (c :: r)).put ((o + l.length : Nat) : Int)) u, ?_, by rw [← h2, ← h4]; rfl⟩
  have ht : tok1 (c :: (r ++ 40 :: m)) = (opT (c :: r), n + 1, 0) := ht
  rw [h1, show c :: r ++ 40 :: m = c :: (r ++ 40 :: m) from rfl, lex_one (o + l.length) n c _ _ hc ht, List.drop_append_of_le_length (by omega), show r.drop n = [] from List.drop_eq_nil_of_le (by omega), List.nil_append, h3, pre_lex, pre_lex]
  simp [Syn.toks]
end Go.Proofs.YtloamahbghjjgaaGreatDoor
