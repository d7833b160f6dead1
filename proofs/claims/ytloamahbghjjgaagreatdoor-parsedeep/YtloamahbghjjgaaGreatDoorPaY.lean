/- Plain: a formula that is split where it binds least; what such a look finds. -/
import Derived.Test.YtloamahbghjjgaaGreatDoorPaZ
namespace Go.Proofs.YtloamahbghjjgaaGreatDoor

def endK (t : Tk) : Bool := (t.kind == 0 || t.kind == 1 || t.kind == 2 || t.kind == 3 || t.kind == 4 || t.kind == 7) || pctB t
/-- How deep one stands behind a token. -/
def upN (n : Int) (t : Tk) : Int := if t.kind = 6 then n + 1 else if t.kind = 7 then n - 1 else n
/-- How far one has looked for an operator: the depth; may an operand end here; the place; the last operator of the least line, and that line. -/
structure Sc where
  n : Int
  e : Bool
  i : Nat
  at_ : Int
  line : Nat
def Sc.hit (c : Sc) (t : Tk) : Prop := upN c.n t = 0 ∧ c.e = true ∧ 0 < lineT t ∧ lineT t ≤ c.line
instance (c : Sc) (t : Tk) : Decidable (c.hit t) := by unfold Sc.hit; exact inferInstance
def scStep (c : Sc) (t : Tk) : Sc := ⟨upN c.n t, endK t, c.i + 1, if c.hit t then (c.i : Int) else c.at_, if c.hit t then lineT t else c.line⟩
def sc0 : Sc := ⟨0, false, 0, -1, 9⟩
def splitP (l : List Tk) : Int := (l.foldl scStep sc0).at_
/-- Where the parenthesis closes. -/
def closeF : Int → Nat → List Tk → Int
  | _, _, [] => -1
  | n, i, t :: l => if t.kind = 7 ∧ upN n t = 0 then (i : Int) else closeF (upN n t) (i + 1) l
def addA (a : Syn) (c : Tk) (s : Syn) : Syn := match a with | .nil => .first s | _ => .snoc a c s
/-- The arguments: how deep; those so far; the last comma; the tokens since. -/
def argF (R : List Tk → Option Syn) : Int → Syn → Tk → List Tk → List Tk → Option Syn
  | _, a, c, cur, [] => (R cur).map (addA a c)
  | n, a, c, cur, t :: l => if upN n t = 0 ∧ t.kind = 8 then
      match R cur with
      | none => none
      | some s => argF R 0 (addA a c s) t [] l
    else argF R (upN n t) a c (cur ++ [t]) l
def callF (R : List Tk → Option Syn) (z : Tk) (l : List Tk) : Option Syn := match l with | [] => some .nil | _ => argF R 0 .nil z [] l
def lastT (l : List Tk) (z : Tk) : Tk := l.getLast?.getD z
/-- The formula of tokens: split where it binds least. -/
def readB (R : List Tk → Option Syn) (t : Tk) (l : List Tk) : Option Syn :=
    if 0 < splitP (t :: l) then
      match (t :: l).drop (splitP (t :: l)).toNat with
      | [] => none
      | o :: r =>
        match R ((t :: l).take (splitP (t :: l)).toNat), R r with
        | some a, some b => some (.bin a o b)
        | _, _ => none
    else if signB t = true then (R l).map (.sign t)
    else if pctB (lastT (t :: l) t) = true then (R (t :: l).dropLast).map (fun s => .pct s (lastT (t :: l) t))
    else
      match l with
      | [] => if atomB t = true ∨ t.kind = 4 then some (.atom t) else none
      | o :: m =>
        if t.kind = 6 then
          if closeF 0 0 (t :: o :: m) = m.length + 1 then (R (o :: m).dropLast).map (fun s => .par t s (lastT (t :: o :: m) t)) else none
        else if t.kind = 4 ∧ o.kind = 6 then
          if closeF 0 0 (o :: m) = m.length then (callF R t m.dropLast).map (fun s => .call t o s (lastT (t :: o :: m) t)) else none
        else none
def readF : Nat → List Tk → Option Syn
  | 0, _ => none
  | _ + 1, [] => none
  | f + 1, t :: l => readB (readF f) t l
theorem readF_nil (f : Nat) : readF f [] = none := by cases f <;> rfl
theorem readF_cons (f : Nat) (t : Tk) (l : List Tk) : readF (f + 1) (t :: l) = readB (readF f) t l := rfl
theorem upN_op {n : Int} {t : Tk} (h : t.kind = 5) : upN n t = n := by unfold upN; rw [if_neg (by omega), if_neg (by omega)]
theorem sc_quiet {c : Sc} {t : Tk} (h : upN c.n t ≠ 0 ∨ c.e = false ∨ lineT t = 0 ∨ c.line < lineT t) : scStep c t = ⟨upN c.n t, endK t, c.i + 1, c.at_, c.line⟩ := by
  have hh : ¬ c.hit t := by
    rintro ⟨h1, h2, h3, h4⟩
    rcases h with h | h | h | h
    · exact h h1
    · rw [h] at h2; cases h2
    · omega
    · omega
  unfold scStep
  rw [if_neg hh, if_neg hh]
theorem sc_hit {c : Sc} {t : Tk} (h0 : c.n = 0) (h1 : c.e = true) (h2 : 1 ≤ lineT t) (h3 : lineT t ≤ c.line) : scStep c t = ⟨0, false, c.i + 1, c.i, lineT t⟩ := by
  have hk := line_kind h2
  have hu : upN c.n t = 0 := by rw [upN_op hk.1]; exact h0
  have hh : c.hit t := ⟨hu, h1, h2, h3⟩
  have he : endK t = false := by unfold endK; rw [hk.2, hk.1]; decide
  unfold scStep
  rw [if_pos hh, if_pos hh, hu, he]
theorem atom_up {t : Tk} (h : atomB t = true ∨ t.kind = 4) (n : Int) : upN n t = n ∧ endK t = true ∧ t.kind ≠ 5 ∧ t.kind ≠ 6 ∧ t.kind ≠ 7 ∧ t.kind ≠ 8 := by
  have hk : t.kind = 0 ∨ t.kind = 1 ∨ t.kind = 2 ∨ t.kind = 3 ∨ t.kind = 4 := by
    rcases h with h | h
    · have := atom_kind h; omega
    · omega
  refine ⟨?_, ?_, by omega, by omega, by omega, by omega⟩
  · unfold upN; rw [if_neg (by omega), if_neg (by omega)]
  · unfold endK
    rcases hk with h | h | h | h | h <;> rw [h] <;> simp
theorem open_up {t : Tk} (h : t.kind = 6) (n : Int) : upN n t = n + 1 := by unfold upN; rw [if_pos h]
theorem close_up {t : Tk} (h : t.kind = 7) (n : Int) : upN n t = n - 1 ∧ endK t = true := by
  refine ⟨by unfold upN; rw [if_neg (by omega), if_pos h], by unfold endK; rw [h]; simp⟩
theorem comma_up {t : Tk} (h : t.kind = 8) (n : Int) : upN n t = n := by unfold upN; rw [if_neg (by omega), if_neg (by omega)]
/-- Within parentheses nothing is found. -/
theorem scan_in : ∀ (s : Syn) (k : Nat), s.wf k → ∀ c : Sc, 0 < c.n → ∃ e, s.toks.foldl scStep c = ⟨c.n, e, c.i + s.toks.length, c.at_, c.line⟩ ∧ (k ≤ 8 → e = true) := by
  intro s
  induction s with
  | atom t =>
    intro k h c hc
    obtain ⟨u1, u2, _⟩ := atom_up h.2 c.n
    refine ⟨true, ?_, fun _ => rfl⟩
    show scStep c t = _
    rw [sc_quiet (Or.inl (by omega)), u1, u2]; rfl
  | par o s d ih =>
    intro k h c hc
    obtain ⟨_, ho, hd, hs⟩ := h
    obtain ⟨e, he, _⟩ := ih 1 hs ⟨c.n + 1, endK o, c.i + 1, c.at_, c.line⟩ (by simp only []; omega)
    refine ⟨true, ?_, fun _ => rfl⟩
    have hd2 := close_up hd (c.n + 1)
    simp only [Syn.toks, List.foldl_cons, List.foldl_append, List.foldl_nil, List.length_cons, List.length_append, List.length_nil]
    rw [sc_quiet (c := c) (Or.inl (by rw [open_up ho]; omega)), open_up ho, he, sc_quiet (Or.inl (by simp only []; rw [hd2.1]; omega))]
    simp only []
    rw [hd2.1, hd2.2]
    congr 1 <;> omega
  | call t o l d ih =>
    intro k h c hc
    obtain ⟨_, ht, ho, hd, hs⟩ := h
    obtain ⟨u1, u2, _⟩ := atom_up (Or.inr ht) c.n
    obtain ⟨e, he, _⟩ := ih 9 hs ⟨c.n + 1, endK o, c.i + 1 + 1, c.at_, c.line⟩ (by simp only []; omega)
    refine ⟨true, ?_, fun _ => rfl⟩
    have hd2 := close_up hd (c.n + 1)
    simp only [Syn.toks, List.foldl_cons, List.foldl_append, List.foldl_nil, List.length_cons, List.length_append, List.length_nil]
    rw [sc_quiet (c := c) (Or.inl (by omega)), u1, u2, sc_quiet (t := o) (Or.inl (by rw [open_up ho]; show c.n + 1 ≠ 0; omega)), open_up ho]
    rw [he, sc_quiet (Or.inl (by simp only []; rw [hd2.1]; omega))]
    simp only []
    rw [hd2.1, hd2.2]
    congr 1 <;> omega
  | sign t s ih =>
    intro k h c hc
    obtain ⟨hk, ht, hs⟩ := h
    have h5 := (sign_kind ht).1
    obtain ⟨e, he, he2⟩ := ih 6 hs ⟨c.n, endK t, c.i + 1, c.at_, c.line⟩ hc
    refine ⟨true, ?_, fun _ => rfl⟩
    rw [he2 (by omega)] at he
    simp only [Syn.toks, List.foldl_cons, List.length_cons]
    rw [sc_quiet (c := c) (Or.inl (by rw [upN_op h5]; omega)), upN_op h5, he]
    congr 1; simp only []; omega
  | pct s t ih =>
    intro k h c hc
    obtain ⟨hk, ht, hs⟩ := h
    have h5 := (pct_line ht).2.2
    obtain ⟨e, he, _⟩ := ih 7 hs c hc
    refine ⟨true, ?_, fun _ => rfl⟩
    simp only [Syn.toks, List.foldl_append, List.foldl_cons, List.foldl_nil, List.length_append, List.length_cons, List.length_nil]
    have hp : endK t = true := by unfold endK; rw [ht]; simp
    rw [he, sc_quiet (Or.inl (by simp only []; rw [upN_op h5]; omega))]
    simp only []
    rw [upN_op h5, hp]; rfl
  | bin a t b iha ihb =>
    intro k h c hc
    obtain ⟨hk, ht, wa, wb⟩ := h
    have h5 := (line_kind ht).1
    obtain ⟨e, he, _⟩ := iha _ wa c hc
    obtain ⟨e', he', he2⟩ := ihb _ wb ⟨c.n, endK t, c.i + a.toks.length + 1, c.at_, c.line⟩ hc
    refine ⟨true, ?_, fun _ => rfl⟩
    rw [he2 (by have := line_le t; omega)] at he'
    simp only [Syn.toks, List.foldl_append, List.foldl_cons, List.length_append, List.length_cons]
    rw [he, sc_quiet (Or.inl (by simp only []; rw [upN_op h5]; omega))]
    simp only []
    rw [upN_op h5, he']
    congr 1; simp only []; omega
  | nil =>
    intro k h c hc
    have : k = 9 := h
    exact ⟨c.e, rfl, fun h => by omega⟩
  | first s ih =>
    intro k h c hc
    obtain ⟨e, he, he2⟩ := ih 1 h.2 c hc
    exact ⟨e, he, fun _ => he2 (by omega)⟩
  | snoc l d s ihl ihs =>
    intro k h c hc
    obtain ⟨_, wl, _, wd, ws⟩ := h
    obtain ⟨e, he, _⟩ := ihl 9 wl c hc
    obtain ⟨e', he', he2⟩ := ihs 1 ws ⟨c.n, endK d, c.i + l.toks.length + 1, c.at_, c.line⟩ hc
    refine ⟨true, ?_, fun _ => rfl⟩
    rw [he2 (by omega)] at he'
    simp only [Syn.toks, List.foldl_append, List.foldl_cons, List.length_append, List.length_cons]
    rw [he, sc_quiet (Or.inl (by simp only []; rw [comma_up wd]; omega))]
    simp only []
    rw [comma_up wd, he']
    congr 1; simp only []; omega
/-- What is found in a formula: the place of its top operator, and that one's line. -/
def topS (s : Syn) (i : Nat) (x : Int × Nat) : Int × Nat :=
  match s with
  | .bin a t _ => if lineT t ≤ x.2 then (((i + a.toks.length : Nat) : Int), lineT t) else x
  | _ => x
theorem topS_low {s : Syn} {k i : Nat} {x : Int × Nat} (h : s.wf k) (hx : x.2 < k) : topS s i x = x := by
  cases s with
  | bin a t b => have := h.1; simp only [topS]; rw [if_neg (by omega)]
  | _ => rfl
theorem topS_line {s : Syn} {k i : Nat} {x : Int × Nat} (h : s.wf k) (hx : k ≤ x.2) : k ≤ (topS s i x).2 := by
  cases s with
  | bin a t b =>
    have := h.1; simp only [topS]
    by_cases hl : lineT t ≤ x.2
    · rw [if_pos hl]; exact this
    · rw [if_neg hl]; exact hx
  | _ => exact hx
theorem scan_top : ∀ (s : Syn) (k : Nat), s.wf k → k ≤ 8 → ∀ c : Sc, c.n = 0 → c.e = false →
    s.toks.foldl scStep c = ⟨0, true, c.i + s.toks.length, (topS s c.i (c.at_, c.line)).1, (topS s c.i (c.at_, c.line)).2⟩ := by
  intro s
  induction s with
  | atom t =>
    intro k h _ c hc hce
    obtain ⟨u1, u2, _⟩ := atom_up h.2 c.n
    show scStep c t = _
    rw [sc_quiet (Or.inr (Or.inl hce)), u1, u2, hc]; rfl
  | par o s d ih =>
    intro k h _ c hc hce
    obtain ⟨_, ho, hd, hs⟩ := h
    obtain ⟨e, he, _⟩ := scan_in s 1 hs ⟨c.n + 1, endK o, c.i + 1, c.at_, c.line⟩ (by simp only []; omega)
    have hd2 := close_up hd (c.n + 1)
    simp only [Syn.toks, List.foldl_cons, List.foldl_append, List.foldl_nil, List.length_cons, List.length_append, List.length_nil, topS]
    rw [sc_quiet (c := c) (Or.inr (Or.inl hce)), open_up ho, he, sc_quiet (Or.inr (Or.inr (Or.inl (not_op (by omega)).1)))]
    simp only []
    rw [hd2.1, hd2.2]
    congr 1 <;> omega
  | call t o l d ih =>
    intro k h _ c hc hce
    obtain ⟨_, ht, ho, hd, hs⟩ := h
    obtain ⟨u1, u2, _⟩ := atom_up (Or.inr ht) c.n
    obtain ⟨e, he, _⟩ := scan_in l 9 hs ⟨c.n + 1, endK o, c.i + 1 + 1, c.at_, c.line⟩ (by simp only []; omega)
    have hd2 := close_up hd (c.n + 1)
    simp only [Syn.toks, List.foldl_cons, List.foldl_append, List.foldl_nil, List.length_cons, List.length_append, List.length_nil, topS]
    rw [sc_quiet (c := c) (Or.inr (Or.inl hce)), u1, u2, sc_quiet (t := o) (Or.inr (Or.inr (Or.inl (not_op (by omega)).1))), open_up ho]
    rw [he, sc_quiet (Or.inr (Or.inr (Or.inl (not_op (by omega)).1)))]
    simp only []
    rw [hd2.1, hd2.2]
    congr 1 <;> omega
  | sign t s ih =>
    intro k h _ c hc hce
    obtain ⟨hk, ht, hs⟩ := h
    have h5 := sign_kind ht
    have hE : endK t = false := by unfold endK; rw [h5.2, h5.1]; decide
    have he := ih 6 hs (by omega) ⟨c.n, endK t, c.i + 1, c.at_, c.line⟩ hc hE
    have hT : topS s (c.i + 1) (c.at_, c.line) = (c.at_, c.line) := by
      cases s with
      | bin a u b => have := hs.1; have := line_le u; omega
      | _ => rfl
    simp only [Syn.toks, List.foldl_cons, List.length_cons, topS]
    rw [sc_quiet (c := c) (Or.inr (Or.inl hce)), upN_op h5.1, he]
    simp only []
    rw [hT]
    congr 1; omega
  | pct s t ih =>
    intro k h _ c hc hce
    obtain ⟨hk, ht, hs⟩ := h
    have h5 := pct_line ht
    have he := ih 7 hs (by omega) c hc hce
    have hT : topS s c.i (c.at_, c.line) = (c.at_, c.line) := by
      cases s with
      | bin a u b => have := hs.1; have := line_le u; omega
      | _ => rfl
    have hp : endK t = true := by unfold endK; rw [ht]; simp
    simp only [Syn.toks, List.foldl_append, List.foldl_cons, List.foldl_nil, List.length_append, List.length_cons, List.length_nil, topS]
    rw [he, hT, sc_quiet (Or.inr (Or.inr (Or.inl h5.1)))]
    simp only []
    rw [upN_op h5.2.2, hp]; rfl
  | bin a t b iha ihb =>
    intro k h _ c hc hce
    obtain ⟨hk, ht, wa, wb⟩ := h
    have h5 := line_kind ht
    have h6 := line_le t
    have hE : endK t = false := by unfold endK; rw [h5.2, h5.1]; decide
    have he := iha _ wa (by omega) c hc hce
    simp only [Syn.toks, List.foldl_append, List.foldl_cons, List.length_append, List.length_cons]
    rw [he]
    by_cases hl : lineT t ≤ c.line
    · have h1 := topS_line (i := c.i) (x := (c.at_, c.line)) wa hl
      rw [sc_hit rfl rfl ht h1]
      rw [ihb _ wb (by omega) _ rfl rfl]
      simp only []
      rw [topS_low wb (by simp only []; omega)]
      simp only [topS]
      rw [if_pos hl]
      congr 1; omega
    · rw [topS_low wa (by simp only []; omega)]
      rw [sc_quiet (Or.inr (Or.inr (Or.inr (by simp only []; omega))))]
      simp only []
      rw [upN_op h5.1, hE, ihb _ wb (by omega) _ rfl rfl]
      simp only []
      rw [topS_low wb (by simp only []; omega)]
      simp only [topS]
      rw [if_neg hl]
      congr 1; omega
  | nil => intro k h hk; have : k = 9 := h; omega
  | first s ih => intro k h hk; have := h.1; omega
  | snoc l d s ihl ihs => intro k h hk; have := h.1; omega
theorem split_wf {s : Syn} (h : s.wf 1) : splitP s.toks = (topS s 0 (-1, 9)).1 := by
  unfold splitP
  rw [scan_top s 1 h (by omega) sc0 rfl rfl]; rfl
end Go.Proofs.YtloamahbghjjgaaGreatDoor

namespace Go.Proofs.YtloamahbghjjgaaGreatDoor

theorem last_cons (t u : Tk) (l : List Tk) (z : Tk) : lastT (t :: u :: l) z = lastT (u :: l) z := by
  unfold lastT; rw [List.getLast?_cons_cons]
theorem last_one (t z : Tk) : lastT [t] z = t := rfl
theorem last_snoc (l : List Tk) (t z : Tk) : lastT (l ++ [t]) z = t := by unfold lastT; simp
theorem last_split : ∀ (l : List Tk) (z : Tk), l ≠ [] → l.dropLast ++ [lastT l z] = l
  | [], _, h => absurd rfl h
  | [t], _, _ => rfl
  | t :: u :: l, z, _ => by
    rw [last_cons, List.dropLast_cons_cons, List.cons_append, last_split (u :: l) z (by simp)]
theorem close_in : ∀ (s : Syn) (k : Nat), s.wf k → ∀ (n : Int) (i : Nat) (r : List Tk), 0 < n → closeF n i (s.toks ++ r) = closeF n (i + s.toks.length) r := by
  intro s
  induction s with
  | atom t =>
    intro k h n i r hn
    obtain ⟨u1, _, _, _, u5, _⟩ := atom_up h.2 n
    show closeF n i (t :: r) = _
    rw [closeF, if_neg (fun h => u5 h.1), u1]; rfl
  | par o s d ih =>
    intro k h n i r hn
    obtain ⟨_, ho, hd, hs⟩ := h
    show closeF n i (o :: ((s.toks ++ [d]) ++ r)) = _
    rw [closeF, if_neg (fun h => by have := h.1; omega), open_up ho, List.append_assoc, ih 1 hs _ _ _ (by omega), List.singleton_append, closeF, (close_up hd _).1, if_neg (fun h => by have := h.2; omega)]
    simp only [Syn.toks, List.length_cons, List.length_append, List.length_nil]
    congr 1 <;> omega
  | call t o l d ih =>
    intro k h n i r hn
    obtain ⟨_, ht, ho, hd, hs⟩ := h
    obtain ⟨u1, _, _, _, u5, _⟩ := atom_up (Or.inr ht) n
    show closeF n i (t :: o :: ((l.toks ++ [d]) ++ r)) = _
    rw [closeF, if_neg (fun h => u5 h.1), u1, closeF, if_neg (fun h => by have := h.1; omega), open_up ho, List.append_assoc, ih 9 hs _ _ _ (by omega), List.singleton_append, closeF, (close_up hd _).1, if_neg (fun h => by have := h.2; omega)]
    simp only [Syn.toks, List.length_cons, List.length_append, List.length_nil]
    congr 1 <;> omega
  | sign t s ih =>
    intro k h n i r hn
    obtain ⟨_, ht, hs⟩ := h
    have h5 := (sign_kind ht).1
    show closeF n i (t :: (s.toks ++ r)) = _
    rw [closeF, if_neg (fun h => by have := h.1; omega), upN_op h5, ih 6 hs _ _ _ hn]
    simp only [Syn.toks, List.length_cons]
    congr 1; omega
  | pct s t ih =>
    intro k h n i r hn
    obtain ⟨_, ht, hs⟩ := h
    have h5 := (pct_line ht).2.2
    show closeF n i ((s.toks ++ [t]) ++ r) = _
    rw [List.append_assoc, ih 7 hs _ _ _ hn, List.singleton_append, closeF, if_neg (fun h => by have := h.1; omega), upN_op h5]
    simp only [Syn.toks, List.length_append, List.length_cons, List.length_nil]
    congr 1
  | bin a t b iha ihb =>
    intro k h n i r hn
    obtain ⟨_, ht, wa, wb⟩ := h
    have h5 := (line_kind ht).1
    show closeF n i ((a.toks ++ t :: b.toks) ++ r) = _
    rw [List.append_assoc, iha _ wa _ _ _ hn, List.cons_append, closeF, if_neg (fun h => by have := h.1; omega), upN_op h5, ihb _ wb _ _ _ hn]
    simp only [Syn.toks, List.length_append, List.length_cons]
    congr 1; omega
  | nil => intro k h n i r hn; rfl
  | first s ih => intro k h n i r hn; exact ih 1 h.2 n i r hn
  | snoc l d s ihl ihs =>
    intro k h n i r hn
    obtain ⟨_, wl, _, wd, ws⟩ := h
    show closeF n i ((l.toks ++ d :: s.toks) ++ r) = _
    rw [List.append_assoc, ihl 9 wl _ _ _ hn, List.cons_append, closeF, if_neg (fun h => by have := h.1; omega), comma_up wd, ihs 1 ws _ _ _ hn]
    simp only [Syn.toks, List.length_append, List.length_cons]
    congr 1; omega
/-- The parenthesis closes at the end. -/
theorem close_all {o c : Tk} {s : Syn} {k : Nat} (ho : o.kind = 6) (hc : c.kind = 7) (hs : s.wf k) : closeF 0 0 (o :: (s.toks ++ [c])) = s.toks.length + 1 := by
  rw [closeF, if_neg (fun h => by have := h.1; omega), open_up ho, close_in s k hs _ _ _ (by omega), closeF, (close_up hc _).1, if_pos ⟨hc, by omega⟩]
  omega
theorem close_last : ∀ (l : List Tk) (n : Int) (i : Nat) (z : Tk), l ≠ [] → closeF n i l = (i : Int) + l.length - 1 → (lastT l z).kind = 7
  | [], _, _, _, h, _ => absurd rfl h
  | [t], n, i, z, _, h => by
    rw [closeF] at h
    by_cases hc : t.kind = 7 ∧ upN n t = 0
    · exact hc.1
    · rw [if_neg hc] at h
      simp only [closeF, List.length_cons, List.length_nil] at h
      omega
  | t :: u :: l, n, i, z, _, h => by
    rw [last_cons]
    rw [closeF] at h
    by_cases hc : t.kind = 7 ∧ upN n t = 0
    · rw [if_pos hc] at h
      simp only [List.length_cons] at h
      omega
    · rw [if_neg hc] at h
      refine close_last (u :: l) (upN n t) (i + 1) z (by simp) ?_
      rw [h]; simp only [List.length_cons]; omega
/-- Commas stand between arguments alone. -/
theorem arg_in (R : List Tk → Option Syn) (a : Syn) (z : Tk) : ∀ (s : Syn) (k : Nat), s.wf k → ∀ (n : Int) (cur r : List Tk), 0 ≤ n → (k = 9 → 0 < n) → argF R n a z cur (s.toks ++ r) = argF R n a z (cur ++ s.toks) r := by
  intro s
  induction s with
  | atom t =>
    intro k h n cur r hn _
    obtain ⟨u1, _, _, _, _, u5⟩ := atom_up h.2 n
    show argF R n a z cur (t :: r) = _
    rw [argF, if_neg (fun h => u5 h.2), u1]; rfl
  | par o s d ih =>
    intro k h n cur r hn _
    obtain ⟨_, ho, hd, hs⟩ := h
    show argF R n a z cur (o :: ((s.toks ++ [d]) ++ r)) = _
    rw [argF, if_neg (fun h => by have := h.2; omega), open_up ho, List.append_assoc, ih 1 hs _ _ _ (by omega) (fun _ => by omega), List.singleton_append, argF, (close_up hd _).1, if_neg (fun h => by have := h.2; omega),
      show n + 1 - 1 = n by omega]
    simp [Syn.toks]
  | call t o l d ih =>
    intro k h n cur r hn _
    obtain ⟨_, ht, ho, hd, hs⟩ := h
    obtain ⟨u1, _, _, _, _, u5⟩ := atom_up (Or.inr ht) n
    show argF R n a z cur (t :: o :: ((l.toks ++ [d]) ++ r)) = _
    rw [argF, if_neg (fun h => u5 h.2), u1, argF, if_neg (fun h => by have := h.2; omega), open_up ho, List.append_assoc l.toks, ih 9 hs _ _ _ (by omega) (fun _ => by omega), List.singleton_append, argF, (close_up hd _).1, if_neg (fun h => by have := h.2; omega),
      show n + 1 - 1 = n by omega]
    simp [Syn.toks]
  | sign t s ih =>
    intro k h n cur r hn hk
    obtain ⟨hk6, ht, hs⟩ := h
    have h5 := (sign_kind ht).1
    show argF R n a z cur (t :: (s.toks ++ r)) = _
    rw [argF, if_neg (fun h => by have := h.2; omega), upN_op h5, ih 6 hs _ _ _ hn (fun h => by omega)]
    simp [Syn.toks]
  | pct s t ih =>
    intro k h n cur r hn hk
    obtain ⟨_, ht, hs⟩ := h
    have h5 := (pct_line ht).2.2
    show argF R n a z cur ((s.toks ++ [t]) ++ r) = _
    rw [List.append_assoc, ih 7 hs _ _ _ hn (fun h => by omega), List.singleton_append, argF, if_neg (fun h => by have := h.2; omega), upN_op h5]
    simp [Syn.toks]
  | bin p t q iha ihb =>
    intro k h n cur r hn hk
    obtain ⟨_, ht, wa, wb⟩ := h
    have h5 := (line_kind ht).1
    have h6 := line_le t
    show argF R n a z cur ((p.toks ++ t :: q.toks) ++ r) = _
    rw [List.append_assoc, iha _ wa _ _ _ hn (fun h => by omega), List.cons_append, argF, if_neg (fun h => by have := h.2; omega), upN_op h5, ihb _ wb _ _ _ hn (fun h => by omega)]
    simp [Syn.toks]
  | nil => intro k h n cur r hn _; simp [Syn.toks]
  | first s ih => intro k h n cur r hn _; exact ih 1 h.2 n cur r hn (fun h => by omega)
  | snoc l d s ihl ihs =>
    intro k h n cur r hn hk
    obtain ⟨h9, wl, _, wd, ws⟩ := h
    have hn0 := hk h9
    show argF R n a z cur ((l.toks ++ d :: s.toks) ++ r) = _
    rw [List.append_assoc, ihl 9 wl _ _ _ hn (fun _ => hn0), List.cons_append, argF, if_neg (fun h => by have := h.1; rw [comma_up wd] at this; omega), comma_up wd, ihs 1 ws _ _ _ hn (fun h => by omega)]
    simp [Syn.toks]
theorem addA_nil (c : Tk) (s : Syn) : addA .nil c s = .first s := rfl
theorem addA_snoc {a : Syn} (h : a ≠ .nil) (c : Tk) (s : Syn) : addA a c s = .snoc a c s := by
  cases a <;> first | rfl | exact absurd rfl h
/-- Arguments are read back: those ahead of a comma, and all. -/
theorem args_back (R : List Tk → Option Syn) (z : Tk) : ∀ l : Syn, l.wf 9 → l ≠ .nil → (∀ s : Syn, s.wf 1 → s.toks.length ≤ l.toks.length → R s.toks = some s) →
    (∀ (c : Tk) (r : List Tk), c.kind = 8 → argF R 0 .nil z [] (l.toks ++ c :: r) = argF R 0 l c [] r) ∧ argF R 0 .nil z [] l.toks = some l := by
  intro l
  induction l with
  | first s _ =>
    intro h _ hR
    have e := hR s h.2 (Nat.le_refl _)
    have hw := arg_in R .nil z s 1 h.2 0 []
    refine ⟨fun c r hc => ?_, ?_⟩
    · show argF R 0 .nil z [] (s.toks ++ c :: r) = _
      rw [hw _ (by omega) (fun h => by omega), List.nil_append, argF, if_pos ⟨by rw [comma_up hc], hc⟩, e]; rfl
    · show argF R 0 .nil z [] s.toks = _
      have := hw [] (by omega) (fun h => by omega)
      rw [List.append_nil, List.nil_append] at this
      rw [this, argF, e]; rfl
  | snoc l d s ihl _ =>
    intro h _ hR
    obtain ⟨_, wl, wn, wd, ws⟩ := h
    have hlen : (Syn.snoc l d s).toks.length = l.toks.length + (s.toks.length + 1) := by simp [Syn.toks]
    rw [hlen] at hR
    have e := hR s ws (by omega)
    obtain ⟨h1, _⟩ := ihl wl wn (fun s hs hl => hR s hs (by omega))
    have hw := arg_in R l d s 1 ws 0 []
    refine ⟨fun c r hc => ?_, ?_⟩
    · show argF R 0 .nil z [] ((l.toks ++ d :: s.toks) ++ c :: r) = _
      rw [List.append_assoc, List.cons_append, h1 d _ wd, hw _ (by omega) (fun h => by omega), List.nil_append, argF, if_pos ⟨by rw [comma_up hc], hc⟩, e]
      simp only []
      rw [addA_snoc wn]
    · show argF R 0 .nil z [] (l.toks ++ d :: s.toks) = _
      rw [h1 d _ wd]
      have := hw [] (by omega) (fun h => by omega)
      rw [List.append_nil, List.nil_append] at this
      rw [this, argF, e]
      simp only [Option.map_some]
      rw [addA_snoc wn]
  | nil => intro _ h; exact absurd rfl h
  | atom t => intro h; have := h.1; omega
  | par o s c _ => intro h; have := h.1; omega
  | call t o l c _ => intro h; have := h.1; omega
  | sign t s _ => intro h; have := h.1; omega
  | pct s t _ => intro h; have := h.1; omega
  | bin a t b _ _ => intro h; have := h.1; have := line_le t; omega
theorem no_split {s : Syn} (h : s.wf 1) (hb : ∀ a t b, s ≠ .bin a t b) : ¬ 0 < splitP s.toks := by
  rw [split_wf h]
  cases s with
  | bin a t b => exact absurd rfl (hb a t b)
  | _ => simp [topS]
/-- What is well formed is read by splitting, too. -/
theorem read_back : ∀ (f : Nat) (s : Syn), s.wf 1 → s.toks.length ≤ f → readF f s.toks = some s := by
  intro f
  induction f with
  | zero =>
    intro s h hl
    have := wf_ne h (by omega)
    exact absurd (List.eq_nil_of_length_eq_zero (by omega)) this
  | succ f ih =>
    intro s h hl
    cases s with
    | atom t =>
      have hn := no_split h (fun _ _ _ => by simp)
      obtain ⟨_, _, u3, _⟩ := atom_up h.2 0
      have hk := not_op u3
      simp only [Syn.toks] at hn ⊢
      rw [readF_cons]; unfold readB; rw [if_neg hn, if_neg (by rw [hk.2.1]; simp), last_one, if_neg (by rw [hk.2.2.1]; simp), if_pos h.2]
    | par o s c =>
      have hn := no_split h (fun _ _ _ => by simp)
      obtain ⟨_, ho, hc, hs⟩ := h
      have hne := wf_ne hs (by omega)
      have ko := not_op (t := o) (by omega)
      have kc := not_op (t := c) (by omega)
      have hcl := close_all ho hc hs
      simp only [Syn.toks] at hn hl ⊢
      have hla : lastT (o :: (s.toks ++ [c])) o = c := by rw [← List.cons_append]; exact last_snoc _ _ _
      rw [readF_cons]; unfold readB; rw [if_neg hn, if_neg (by rw [ko.2.1]; simp), hla, if_neg (by rw [kc.2.2.1]; simp)]
      cases ht : s.toks ++ [c] with
      | nil => simp at ht
      | cons u m =>
        rw [ht] at hcl hla
        simp only []
        have hm : m.length = s.toks.length := by have := congrArg List.length ht; simpa using this.symm
        rw [if_pos ho, if_pos (by rw [hcl, hm]), hla, ← ht, List.dropLast_concat, ih s hs (by simp only [List.length_cons, List.length_append, List.length_nil] at hl; omega)]
        rfl
    | call t o l c =>
      have hn := no_split h (fun _ _ _ => by simp)
      obtain ⟨_, ht, ho, hc, hs⟩ := h
      have kt := not_op (t := t) (by omega)
      have kc := not_op (t := c) (by omega)
      have hcl := close_all ho hc hs
      simp only [Syn.toks, List.length_cons, List.length_append, List.length_nil] at hn hl ⊢
      have hla : lastT (t :: o :: (l.toks ++ [c])) t = c := by rw [← List.cons_append, ← List.cons_append]; exact last_snoc _ _ _
      rw [readF_cons]; unfold readB; rw [if_neg hn, if_neg (by rw [kt.2.1]; simp), hla, if_neg (by rw [kc.2.2.1]; simp)]
      simp only []
      rw [if_neg (by omega), if_pos ⟨ht, ho⟩, if_pos (by rw [hcl]; simp), hla, List.dropLast_concat]
      have e : callF (readF f) t l.toks = some l := by
        by_cases hl0 : l = .nil
        · subst hl0; rfl
        · have hb := (args_back (readF f) t l hs hl0 (fun s hs hle => ih s hs (by omega))).2
          cases hq : l.toks with
          | nil => rw [hq] at hb; simp only [argF, readF_nil] at hb; cases hb
          | cons u m => rw [hq] at hb; exact hb
      rw [e]; rfl
    | sign t s =>
      have hn := no_split h (fun _ _ _ => by simp)
      obtain ⟨_, ht, hs⟩ := h
      simp only [Syn.toks, List.length_cons] at hn hl ⊢
      rw [readF_cons]; unfold readB; rw [if_neg hn, if_pos ht, ih s (wf_down hs (by omega) (by omega)) (by omega)]; rfl
    | pct s t =>
      have hn := no_split h (fun _ _ _ => by simp)
      obtain ⟨_, ht, hs⟩ := h
      obtain ⟨u, m, e1, e2⟩ := head_no_sign (s := .pct s t) ⟨Nat.le_refl 7, ht, hs⟩
      have hla : lastT (u :: m) u = t := by rw [← e1]; exact last_snoc _ _ _
      have hdr : (u :: m).dropLast = s.toks := by rw [← e1]; exact List.dropLast_concat
      have hl' : s.toks.length ≤ f := by simp only [Syn.toks, List.length_append, List.length_cons, List.length_nil] at hl; omega
      rw [e1] at hn ⊢
      rw [readF_cons]; unfold readB; rw [if_neg hn, if_neg (by rw [e2]; simp), hla, if_pos ht, hdr, ih s (wf_down hs (by omega) (by omega)) hl']; rfl
    | bin a t b =>
      have hsp := split_wf h
      obtain ⟨_, ht, wa, wb⟩ := h
      have h6 := line_le t
      have hpos : 0 < a.toks.length := List.length_pos_iff.mpr (wf_ne wa (by omega))
      simp only [topS] at hsp
      rw [if_pos (by omega)] at hsp
      simp only [Nat.zero_add] at hsp
      have hl' : a.toks.length + (b.toks.length + 1) ≤ f + 1 := by simpa [Syn.toks] using hl
      have e0 : (Syn.bin a t b).toks = a.toks ++ t :: b.toks := rfl
      cases hq : (Syn.bin a t b).toks with
      | nil => rw [hq] at e0; simp at e0
      | cons u m =>
        rw [hq] at hsp
        rw [readF_cons]; unfold readB; rw [if_pos (by rw [hsp]; omega), hsp, Int.toNat_natCast, ← hq, e0, List.drop_left, List.take_left]
        simp only []
        rw [ih a (wf_down wa ht (by omega)) (by omega), ih b (wf_down wb (by omega) (by omega)) (by omega)]
    | nil => have : 1 = 9 := h; omega
    | first s => have := h.1; omega
    | snoc l c s => have := h.1; omega
end Go.Proofs.YtloamahbghjjgaaGreatDoor

namespace Go.Proofs.YtloamahbghjjgaaGreatDoor

/-- What stands ahead of the next argument. -/
def preA (a : Syn) (c : Tk) : List Tk := match a with | .nil => [] | _ => a.toks ++ [c]
def okA (a : Syn) (c : Tk) : Prop := a = .nil ∨ (a.wf 9 ∧ a ≠ .nil ∧ c.kind = 8)
theorem addA_ok {a : Syn} {c : Tk} {s : Syn} (h : okA a c) (hs : s.wf 1) : (addA a c s).wf 9 ∧ addA a c s ≠ .nil ∧ (addA a c s).toks = preA a c ++ s.toks := by
  rcases h with rfl | ⟨h1, h2, h3⟩
  · exact ⟨⟨rfl, hs⟩, by simp [addA], rfl⟩
  · rw [addA_snoc h2]
    refine ⟨⟨rfl, h1, h2, h3, hs⟩, by simp, ?_⟩
    cases a <;> first | exact absurd rfl h2 | simp [preA, Syn.toks]
theorem args_sound (R : List Tk → Option Syn) (hR : ∀ l s, R l = some s → s.wf 1 ∧ s.toks = l) : ∀ (l : List Tk) (n : Int) (a : Syn) (c : Tk) (cur : List Tk) (x : Syn), argF R n a c cur l = some x → okA a c →
    x.wf 9 ∧ x ≠ .nil ∧ x.toks = preA a c ++ (cur ++ l) := by
  intro l
  induction l with
  | nil =>
    intro n a c cur x h ha
    rw [argF] at h
    cases hc : R cur with
    | none => rw [hc] at h; simp at h
    | some s =>
      rw [hc] at h
      simp only [Option.map_some, Option.some.injEq] at h
      subst h
      obtain ⟨hs, ht⟩ := hR _ _ hc
      obtain ⟨h1, h2, h3⟩ := addA_ok ha hs
      exact ⟨h1, h2, by rw [h3, ht]; simp⟩
  | cons t l ih =>
    intro n a c cur x h ha
    rw [argF] at h
    by_cases hk : upN n t = 0 ∧ t.kind = 8
    · rw [if_pos hk] at h
      cases hc : R cur with
      | none => rw [hc] at h; simp at h
      | some s =>
        rw [hc] at h
        obtain ⟨hs, ht⟩ := hR _ _ hc
        obtain ⟨h1, h2, h3⟩ := addA_ok ha hs
        obtain ⟨g1, g2, g3⟩ := ih _ _ _ _ _ h (Or.inr ⟨h1, h2, hk.2⟩)
        refine ⟨g1, g2, ?_⟩
        have e : preA (addA a c s) t = (addA a c s).toks ++ [t] := by
          generalize hq : addA a c s = q at h2
          cases q <;> first | rfl | exact absurd rfl h2
        rw [g3, e, h3, ht]; simp
    · rw [if_neg hk] at h
      obtain ⟨g1, g2, g3⟩ := ih _ _ _ _ _ h ha
      exact ⟨g1, g2, by rw [g3]; simp⟩
theorem wf_up {s : Syn} {k : Nat} (h : s.wf 1) (hk : k ≤ 6) (hb : ∀ a t b, s = .bin a t b → k ≤ lineT t) : s.wf k := by
  cases s with
  | atom t => exact ⟨by omega, h.2⟩
  | par o s c => exact ⟨by omega, h.2⟩
  | call t o l c => exact ⟨by omega, h.2⟩
  | sign t s => exact ⟨hk, h.2⟩
  | pct s t => exact ⟨by omega, h.2⟩
  | bin a t b => exact ⟨hb a t b rfl, h.2⟩
  | nil => have : 1 = 9 := h; omega
  | first s => have := h.1; omega
  | snoc l c s => have := h.1; omega
/-- What is read by splitting is well formed, and stands there. -/
theorem read_sound : ∀ (f : Nat) (l : List Tk) (s : Syn), readF f l = some s → s.wf 1 ∧ s.toks = l := by
  intro f
  induction f with
  | zero => intro l s h; cases l <;> simp [readF] at h
  | succ f ih =>
    intro l s h
    cases l with
    | nil => rw [readF_nil] at h; cases h
    | cons t l =>
      rw [readF_cons] at h
      unfold readB at h
      by_cases hsp : 0 < splitP (t :: l)
      · rw [if_pos hsp] at h
        generalize hat : (splitP (t :: l)).toNat = p at h
        have hp : splitP (t :: l) = (p : Int) := by omega
        have e0 := List.take_append_drop p (t :: l)
        cases hd : (t :: l).drop p with
        | nil => rw [hd] at h; simp at h
        | cons o r =>
          rw [hd] at h
          simp only [] at h
          cases ha : readF f ((t :: l).take p) with
          | none => rw [ha] at h; simp at h
          | some a =>
            cases hb : readF f r with
            | none => rw [ha, hb] at h; simp at h
            | some b =>
              rw [ha, hb] at h
              simp only [Option.some.injEq] at h
              subst h
              obtain ⟨wa, ta⟩ := ih _ _ ha
              obtain ⟨wb, tb⟩ := ih _ _ hb
              have el : t :: l = a.toks ++ o :: b.toks := by rw [ta, tb, ← hd, e0]
              have hplen : a.toks.length = p := by
                have h1 : (t :: l).length = (a.toks ++ o :: b.toks).length := congrArg List.length el
                have h2 : ((t :: l).drop p).length = (t :: l).length - p := List.length_drop
                rw [hd, ← tb] at h2
                simp only [List.length_append, List.length_cons] at h1 h2
                omega
              have e1 := scan_top a 1 wa (by omega) sc0 rfl rfl
              have hsp2 : ((t :: l).foldl scStep sc0).at_ = (p : Int) := hp
              rw [el, List.foldl_append, e1, List.foldl_cons] at hsp2
              obtain ⟨at1, ln1, ht1⟩ : ∃ x y, topS a sc0.i (sc0.at_, sc0.line) = (x, y) := ⟨_, _, rfl⟩
              have hat1 : at1 < (p : Int) := by
                cases a with
                | bin u v q =>
                  simp only [topS] at ht1
                  split at ht1
                  · cases ht1
                    simp only [Syn.toks, List.length_append, List.length_cons] at hplen
                    simp only [sc0]; omega
                  · cases ht1; simp only [sc0]; omega
                | _ => simp only [topS, sc0] at ht1; cases ht1; omega
              rw [ht1] at hsp2
              have hbtop : ∀ (c : Sc), c.n = 0 → c.e = false → (b.toks.foldl scStep c).at_ = (p : Int) → c.at_ ≠ (p : Int) → c.i = p + 1 → False := by
                intro c h1 h2 h3 h4 h5
                rw [scan_top b 1 wb (by omega) c h1 h2] at h3
                cases b with
                | bin u v q =>
                  simp only [topS] at h3
                  split at h3
                  · simp only [] at h3; omega
                  · exact h4 h3
                | _ => exact h4 h3
              by_cases hl0 : 1 ≤ lineT o
              · have ko := line_kind hl0
                have hE : endK o = false := by unfold endK; rw [ko.2, ko.1]; decide
                by_cases hll : lineT o ≤ ln1
                · rw [sc_hit (c := ⟨0, true, sc0.i + a.toks.length, at1, ln1⟩) rfl rfl hl0 hll] at hsp2
                  have hi : sc0.i + a.toks.length = p := by simp only [sc0]; omega
                  refine ⟨⟨hl0, hl0, ?_, ?_⟩, ?_⟩
                  · refine wf_up wa (by have := line_le o; omega) ?_
                    intro u v q hq
                    subst hq
                    simp only [topS] at ht1
                    have hv : lineT v ≤ sc0.line := by have := line_le v; simp only [sc0]; omega
                    rw [if_pos hv] at ht1
                    cases ht1; exact hll
                  · refine wf_up wb (by have := line_le o; omega) ?_
                    intro u v q hq
                    subst hq
                    rw [scan_top _ 1 wb (by omega) _ rfl rfl] at hsp2
                    simp only [topS] at hsp2
                    by_cases hv : lineT v ≤ lineT o
                    · rw [if_pos hv] at hsp2
                      simp only [] at hsp2
                      omega
                    · omega
                  · rw [Syn.toks, ← el]
                · exfalso
                  rw [sc_quiet (c := ⟨0, true, sc0.i + a.toks.length, at1, ln1⟩) (Or.inr (Or.inr (Or.inr (by simp only []; omega)))), upN_op ko.1, hE] at hsp2
                  exact hbtop _ rfl rfl hsp2 (by simp only []; omega) (by simp only [sc0]; omega)
              · exfalso
                rw [sc_quiet (c := ⟨0, true, sc0.i + a.toks.length, at1, ln1⟩) (Or.inr (Or.inr (Or.inl (by omega))))] at hsp2
                -- the place that is found is an operator's
                have hfind : ∀ (l : List Tk) (c : Sc), (l.foldl scStep c).at_ = (p : Int) → c.at_ ≠ (p : Int) → c.i = p + 1 → False := by
                  intro l
                  induction l with
                  | nil => intro c h1 h2 _; exact h2 h1
                  | cons u l ih2 =>
                    intro c h1 h2 h3
                    rw [List.foldl_cons] at h1
                    have h4 : ∀ (l : List Tk) (c : Sc), (l.foldl scStep c).at_ = c.at_ ∨ (c.i : Int) ≤ (l.foldl scStep c).at_ := by
                      intro l
                      induction l with
                      | nil => intro c; exact Or.inl rfl
                      | cons v l ih3 =>
                        intro c
                        rw [List.foldl_cons]
                        rcases ih3 (scStep c v) with h | h
                        · rw [h]
                          unfold scStep
                          simp only []
                          split
                          · exact Or.inr (Int.le_refl _)
                          · exact Or.inl rfl
                        · refine Or.inr ?_
                          simp only [scStep] at h ⊢
                          omega
                    have h5 := h4 (u :: l) c
                    rw [List.foldl_cons, h1] at h5
                    rcases h5 with h | h
                    · exact h2 h.symm
                    · omega
                exact hfind _ _ hsp2 (by simp only []; omega) (by simp only [sc0]; omega)
      · rw [if_neg hsp] at h
        by_cases hsg : signB t = true
        · rw [if_pos hsg] at h
          cases ha : readF f l with
          | none => rw [ha] at h; simp at h
          | some a =>
            rw [ha] at h
            simp only [Option.map_some, Option.some.injEq] at h
            subst h
            obtain ⟨wa, ta⟩ := ih _ _ ha
            refine ⟨⟨by omega, hsg, wf_up wa (Nat.le_refl 6) ?_⟩, by rw [Syn.toks, ta]⟩
            intro u v q hq
            exfalso
            subst hq
            have k5 := sign_kind hsg
            have hE : endK t = false := by unfold endK; rw [k5.2, k5.1]; decide
            apply hsp
            unfold splitP
            rw [← ta, List.foldl_cons, sc_quiet (c := sc0) (Or.inr (Or.inl rfl)), upN_op k5.1, hE, scan_top _ 1 wa (by omega) _ rfl rfl]
            simp only [topS]
            rw [if_pos (by have := line_le v; simp only [sc0]; omega)]
            simp only []
            omega
        · rw [if_neg hsg] at h
          by_cases hpc : pctB (lastT (t :: l) t) = true
          · rw [if_pos hpc] at h
            cases ha : readF f (t :: l).dropLast with
            | none => rw [ha] at h; simp at h
            | some a =>
              rw [ha] at h
              simp only [Option.map_some, Option.some.injEq] at h
              subst h
              obtain ⟨wa, ta⟩ := ih _ _ ha
              have el := last_split (t :: l) t (by simp)
              rw [← ta] at el
              have hw6 : a.wf 6 := by
                refine wf_up wa (Nat.le_refl 6) ?_
                intro u v q hq
                exfalso
                subst hq
                apply hsp
                unfold splitP
                rw [← el, List.foldl_append, scan_top _ 1 wa (by omega) sc0 rfl rfl, List.foldl_cons, List.foldl_nil, sc_quiet (Or.inr (Or.inr (Or.inl (pct_line hpc).1)))]
                simp only [topS]
                have hu : 0 < u.toks.length := by
                  obtain ⟨_, w2, w3, _⟩ := wa
                  exact List.length_pos_iff.mpr (wf_ne w3 (by have := line_le v; omega))
                rw [if_pos (by have := line_le v; simp only [sc0]; omega)]
                simp only []
                omega
              have hw7 : a.wf 7 := by
                cases a with
                | atom t => exact ⟨by omega, hw6.2⟩
                | par o s c => exact ⟨by omega, hw6.2⟩
                | call t o l c => exact ⟨by omega, hw6.2⟩
                | sign u s =>
                  exfalso
                  rw [Syn.toks, List.cons_append, List.cons.injEq] at el
                  rw [← el.1] at hsg
                  exact hsg hw6.2.1
                | pct s t => exact ⟨by omega, hw6.2⟩
                | bin a t b => have := hw6.1; have := line_le t; omega
                | nil => have : 6 = 9 := hw6; omega
                | first s => have := hw6.1; omega
                | snoc l c s => have := hw6.1; omega
              exact ⟨⟨by omega, hpc, hw7⟩, el⟩
          · rw [if_neg hpc] at h
            cases l with
            | nil =>
              simp only [] at h
              by_cases hat : atomB t = true ∨ t.kind = 4
              · rw [if_pos hat] at h
                cases h
                exact ⟨⟨by omega, hat⟩, rfl⟩
              · rw [if_neg hat] at h; cases h
            | cons o m =>
              simp only [] at h
              by_cases ho : t.kind = 6
              · rw [if_pos ho] at h
                by_cases hc : closeF 0 0 (t :: o :: m) = m.length + 1
                · rw [if_pos hc] at h
                  have hlast := close_last (t :: o :: m) 0 0 t (by simp) (by rw [hc]; simp only [List.length_cons]; omega)
                  cases ha : readF f (o :: m).dropLast with
                  | none => rw [ha] at h; simp at h
                  | some a =>
                    rw [ha] at h
                    simp only [Option.map_some, Option.some.injEq] at h
                    subst h
                    obtain ⟨wa, ta⟩ := ih _ _ ha
                    refine ⟨⟨by omega, ho, hlast, wa⟩, ?_⟩
                    rw [Syn.toks, ta, last_cons, last_split (o :: m) t (by simp)]
                · rw [if_neg hc] at h; cases h
              · rw [if_neg ho] at h
                by_cases hw : t.kind = 4 ∧ o.kind = 6
                · rw [if_pos hw] at h
                  by_cases hc : closeF 0 0 (o :: m) = m.length
                  · rw [if_pos hc] at h
                    have hlast := close_last (o :: m) 0 0 t (by simp) (by rw [hc]; simp only [List.length_cons]; omega)
                    have hm : m ≠ [] := by
                      intro e; subst e
                      simp only [lastT, List.getLast?_singleton, Option.getD_some] at hlast
                      omega
                    cases ha : callF (readF f) t m.dropLast with
                    | none => rw [ha] at h; simp at h
                    | some a =>
                      rw [ha] at h
                      simp only [Option.map_some, Option.some.injEq] at h
                      subst h
                      have hA : a.wf 9 ∧ a.toks = m.dropLast := by
                        cases hq : m.dropLast with
                        | nil => rw [hq] at ha; cases ha; exact ⟨rfl, rfl⟩
                        | cons u v =>
                          rw [hq] at ha
                          obtain ⟨g1, _, g3⟩ := args_sound (readF f) ih _ _ _ _ _ _ ha (Or.inl rfl)
                          exact ⟨g1, by rw [g3]; rfl⟩
                      have hl2 : lastT (t :: o :: m) t = lastT m t := by
                        rw [last_cons]
                        cases m with
                        | nil => exact absurd rfl hm
                        | cons u v => rw [last_cons]
                      rw [← last_cons t o m t] at hlast
                      refine ⟨⟨by omega, hw.1, hw.2, hlast, hA.1⟩, ?_⟩
                      rw [Syn.toks, hA.2, hl2, last_split m t hm]
                  · rw [if_neg hc] at h; cases h
                · rw [if_neg hw] at h; cases h
/-- Both ways of reading are one. -/
theorem read_rd {f : Nat} {l : List Tk} (hl : l.length ≤ f) : readF f l = (match rd (.chain 1) l with | some (s, []) => some s | _ => none) := by
  cases hr : readF f l with
  | some s =>
    obtain ⟨h1, h2⟩ := read_sound f l s hr
    rw [← h2, rd_back h1]
  | none =>
    cases hd : rd (.chain 1) l with
    | none => rfl
    | some p =>
      obtain ⟨s, r⟩ := p
      cases r with
      | cons c r => rfl
      | nil =>
        have h1 := rd_toks hd
        have h2 := rd_wf hd (Nat.le_refl 1)
        simp only [Md.left, List.nil_append, List.append_nil, Md.lev] at h1 h2
        rw [h1, read_back f s h2 (by rw [← h1]; exact hl)] at hr
        cases hr
end Go.Proofs.YtloamahbghjjgaaGreatDoor
