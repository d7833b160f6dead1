/- Plain: what is read of tokens: a formula as it is written, and how it is read from its beginning on. -/
import Derived.BigQuiet
import Derived.Deep.CutBlock
import Derived.Deep.CutRange
import Derived.Deep.DeepFit
import Derived.Deep.QuietTactic
import Derived.Laws.Bits64b
import Derived.Laws.IdiomStrings
import Derived.Laws.Rows
import Derived.Lib.Atoi
import Derived.Lib.BitFns
import Derived.Lib.CutLaws
import Derived.Lib.IndexMore
import Derived.Lib.ItoaMem
import Derived.Lib.ItoaNum
import Derived.Lib.Join
import Derived.Lib.Replace
import Derived.Lib.Walk
import Derived.Shelf.Bits.Mul64
import Derived.Shelf.LaysM
import Derived.Shelf.Small.Bits
import Derived.Shelf.Small.Strs
import Derived.Shelf.Small.Utf8
import Derived.Shelf.Small.Wraps
import Derived.Shelf.Strconv.Atoi
import Derived.Shelf.Strconv.Itoa0
import Derived.Shelf.Strconv.Itoa1
import Derived.Shelf.Strconv.Itoa2
import Derived.Shelf.Strconv.Itoa3
import Derived.Shelf.Strings.AsciiSet
import Derived.Shelf.Strings.Builder1
import Derived.Shelf.Strings.Builder2
import Derived.Shelf.Strings.Count
import Derived.Shelf.Strings.Cut
import Derived.Shelf.Strings.OnBuilder
import Derived.Shelf.Strings.Prefix
import Derived.Shelf.Strings.Replace
import Derived.Shelf.Strings.Runes
import Derived.Shelf.Strings.Search1
import Derived.Shelf.Strings.Search2
import Derived.Shelf.Strings.Search3
import Derived.Shelf.Strings.Shaped
import Derived.Shelf.Strings.Split
import Derived.Shelf.Strings.SplitShaped
import Derived.Shelf.Strings.Trim
import Derived.Shelf.Unicode.DecodeSlow
import Derived.Test.YtloamahbghjjgaaGreatDoorProg
import Derived.Test.YtloamahbghjjgaaGreatDoorRows
import Derived.WalkKit
import Derived.WalkLawsBesides
import Derived.WalkSmall
import Derived.WalkSpells
import Derived.Test.YtloamahbghjjgaaGreatDoorZgAA
import Derived.Test.YtloamahbghjjgaaGreatDoorZgAB
import Derived.Test.YtloamahbghjjgaaGreatDoorZgAC
namespace Go.Proofs.YtloamahbghjjgaaGreatDoor

def bindL (s : List UInt8) : Nat :=
  if s = [61] ∨ s = [60, 62] ∨ s = [60] ∨ s = [60, 61] ∨ s = [62] ∨ s = [62, 61] then 1
  else if s = [38] then 2
  else if s = [43] ∨ s = [45] then 3
  else if s = [42] ∨ s = [47] then 4
  else if s = [94] then 5
  else 0
def opL5 (t : Tk) : List UInt8 := if t.kind = 5 then t.text.data.toList else []
def lineT (t : Tk) : Nat := bindL (opL5 t)
def signB (t : Tk) : Bool := opL5 t == [43] || opL5 t == [45]
def minusB (t : Tk) : Bool := opL5 t == [45]
def pctB (t : Tk) : Bool := opL5 t == [37]
def atomB (t : Tk) : Bool := t.kind == 0 || t.kind == 1 || t.kind == 2 || t.kind == 3
structure Syn where
  c : Sum Tk (Sum (Tk × Syn × Tk) (Sum (Tk × Tk × Syn × Tk) (Sum (Tk × Syn) (Sum (Syn × Tk) (Sum (Syn × Tk × Syn) (Sum Unit (Sum Syn (Syn × Tk × Syn))))))))
abbrev Syn.atom (t : Tk) : Syn := ⟨.inl t⟩
abbrev Syn.par (o : Tk) (s : Syn) (c : Tk) : Syn := ⟨.inr (.inl (o, s, c))⟩
abbrev Syn.call (t o : Tk) (l : Syn) (c : Tk) : Syn := ⟨.inr (.inr (.inl (t, o, l, c)))⟩
abbrev Syn.sign (t : Tk) (s : Syn) : Syn := ⟨.inr (.inr (.inr (.inl (t, s))))⟩
abbrev Syn.pct (s : Syn) (t : Tk) : Syn := ⟨.inr (.inr (.inr (.inr (.inl (s, t)))))⟩
abbrev Syn.bin (a : Syn) (t : Tk) (b : Syn) : Syn := ⟨.inr (.inr (.inr (.inr (.inr (.inl (a, t, b))))))⟩
abbrev Syn.nil : Syn := ⟨.inr (.inr (.inr (.inr (.inr (.inr (.inl ()))))))⟩
abbrev Syn.first (s : Syn) : Syn := ⟨.inr (.inr (.inr (.inr (.inr (.inr (.inr (.inl s)))))))⟩
abbrev Syn.snoc (l : Syn) (c : Tk) (s : Syn) : Syn := ⟨.inr (.inr (.inr (.inr (.inr (.inr (.inr (.inr ((l, c, s)))))))))⟩
theorem Syn.cs {motive : Syn → Prop} (atom : ∀ t, motive (.atom t)) (par : ∀ o s c, motive (.par o s c)) (call : ∀ t o l c, motive (.call t o l c)) (sign : ∀ t s, motive (.sign t s)) (pct : ∀ s t, motive (.pct s t)) (bin : ∀ a t b, motive (.bin a t b)) (nil : motive .nil) (first : ∀ s, motive (.first s)) (snoc : ∀ l c s, motive (.snoc l c s)) : ∀ s, motive s
  | ⟨.inl t⟩ => atom t
  | ⟨.inr (.inl (o, s, c))⟩ => par o s c
  | ⟨.inr (.inr (.inl (t, o, l, c)))⟩ => call t o l c
  | ⟨.inr (.inr (.inr (.inl (t, s))))⟩ => sign t s
  | ⟨.inr (.inr (.inr (.inr (.inl (s, t)))))⟩ => pct s t
  | ⟨.inr (.inr (.inr (.inr (.inr (.inl (a, t, b))))))⟩ => bin a t b
  | ⟨.inr (.inr (.inr (.inr (.inr (.inr (.inl ()))))))⟩ => nil
  | ⟨.inr (.inr (.inr (.inr (.inr (.inr (.inr (.inl s)))))))⟩ => first s
  | ⟨.inr (.inr (.inr (.inr (.inr (.inr (.inr (.inr (l, c, s))))))))⟩ => snoc l c s
theorem Syn.ind {motive : Syn → Prop} (atom : ∀ t, motive (.atom t)) (par : ∀ o s c, motive s → motive (.par o s c)) (call : ∀ t o l c, motive l → motive (.call t o l c)) (sign : ∀ t s, motive s → motive (.sign t s)) (pct : ∀ s t, motive s → motive (.pct s t)) (bin : ∀ a t b, motive a → motive b → motive (.bin a t b)) (nil : motive .nil) (first : ∀ s, motive s → motive (.first s)) (snoc : ∀ l c s, motive l → motive s → motive (.snoc l c s)) : ∀ s, motive s
  | ⟨.inl t⟩ => atom t
  | ⟨.inr (.inl (o, s, c))⟩ => par o s c (ind atom par call sign pct bin nil first snoc s)
  | ⟨.inr (.inr (.inl (t, o, l, c)))⟩ => call t o l c (ind atom par call sign pct bin nil first snoc l)
  | ⟨.inr (.inr (.inr (.inl (t, s))))⟩ => sign t s (ind atom par call sign pct bin nil first snoc s)
  | ⟨.inr (.inr (.inr (.inr (.inl (s, t)))))⟩ => pct s t (ind atom par call sign pct bin nil first snoc s)
  | ⟨.inr (.inr (.inr (.inr (.inr (.inl (a, t, b))))))⟩ => bin a t b (ind atom par call sign pct bin nil first snoc a) (ind atom par call sign pct bin nil first snoc b)
  | ⟨.inr (.inr (.inr (.inr (.inr (.inr (.inl ()))))))⟩ => nil
  | ⟨.inr (.inr (.inr (.inr (.inr (.inr (.inr (.inl s)))))))⟩ => first s (ind atom par call sign pct bin nil first snoc s)
  | ⟨.inr (.inr (.inr (.inr (.inr (.inr (.inr (.inr (l, c, s))))))))⟩ => snoc l c s (ind atom par call sign pct bin nil first snoc l) (ind atom par call sign pct bin nil first snoc s)
def Syn.toks : Syn → List Tk
  | ⟨.inl t⟩ => [t]
  | ⟨.inr (.inl (o, s, c))⟩ => o :: (s.toks ++ [c])
  | ⟨.inr (.inr (.inl (t, o, l, c)))⟩ => t :: o :: (l.toks ++ [c])
  | ⟨.inr (.inr (.inr (.inl (t, s))))⟩ => t :: s.toks
  | ⟨.inr (.inr (.inr (.inr (.inl (s, t)))))⟩ => s.toks ++ [t]
  | ⟨.inr (.inr (.inr (.inr (.inr (.inl (a, t, b))))))⟩ => a.toks ++ t :: b.toks
  | ⟨.inr (.inr (.inr (.inr (.inr (.inr (.inl ()))))))⟩ => []
  | ⟨.inr (.inr (.inr (.inr (.inr (.inr (.inr (.inl s)))))))⟩ => s.toks
  | ⟨.inr (.inr (.inr (.inr (.inr (.inr (.inr (.inr ((l, c, s)))))))))⟩ => l.toks ++ c :: s.toks
def Syn.wf : Nat → Syn → Prop
  | k, ⟨.inl t⟩ => k ≤ 8 ∧ (atomB t = true ∨ t.kind = 4)
  | k, ⟨.inr (.inl (o, s, c))⟩ => k ≤ 8 ∧ o.kind = 6 ∧ c.kind = 7 ∧ s.wf 1
  | k, ⟨.inr (.inr (.inl (t, o, l, c)))⟩ => k ≤ 8 ∧ t.kind = 4 ∧ o.kind = 6 ∧ c.kind = 7 ∧ l.wf 9
  | k, ⟨.inr (.inr (.inr (.inl (t, s))))⟩ => k ≤ 6 ∧ signB t = true ∧ s.wf 6
  | k, ⟨.inr (.inr (.inr (.inr (.inl (s, t)))))⟩ => k ≤ 7 ∧ pctB t = true ∧ s.wf 7
  | k, ⟨.inr (.inr (.inr (.inr (.inr (.inl (a, t, b))))))⟩ => k ≤ lineT t ∧ 1 ≤ lineT t ∧ a.wf (lineT t) ∧ b.wf (lineT t + 1)
  | k, ⟨.inr (.inr (.inr (.inr (.inr (.inr (.inl ()))))))⟩ => k = 9
  | k, ⟨.inr (.inr (.inr (.inr (.inr (.inr (.inr (.inl s)))))))⟩ => k = 9 ∧ s.wf 1
  | k, ⟨.inr (.inr (.inr (.inr (.inr (.inr (.inr (.inr ((l, c, s)))))))))⟩ => k = 9 ∧ l.wf 9 ∧ l ≠ .nil ∧ c.kind = 8 ∧ s.wf 1
structure Md where
  c : Sum Nat (Sum (Nat × Syn) (Sum Unit (Sum Unit (Sum Syn (Sum Unit (Sum Unit Syn))))))
abbrev Md.chain (k : Nat) : Md := ⟨.inl k⟩
abbrev Md.tail (k : Nat) (a : Syn) : Md := ⟨.inr (.inl (k, a))⟩
abbrev Md.signed : Md := ⟨.inr (.inr (.inl ()))⟩
abbrev Md.pcted : Md := ⟨.inr (.inr (.inr (.inl ())))⟩
abbrev Md.pcts (a : Syn) : Md := ⟨.inr (.inr (.inr (.inr (.inl a))))⟩
abbrev Md.operand : Md := ⟨.inr (.inr (.inr (.inr (.inr (.inl ())))))⟩
abbrev Md.args : Md := ⟨.inr (.inr (.inr (.inr (.inr (.inr (.inl ()))))))⟩
abbrev Md.more (l : Syn) : Md := ⟨.inr (.inr (.inr (.inr (.inr (.inr (.inr l))))))⟩
theorem Md.cs {motive : Md → Prop} (chain : ∀ k, motive (.chain k)) (tail : ∀ k a, motive (.tail k a)) (signed : motive .signed) (pcted : motive .pcted) (pcts : ∀ a, motive (.pcts a)) (operand : motive .operand) (args : motive .args) (more : ∀ l, motive (.more l)) : ∀ m, motive m
  | ⟨.inl k⟩ => chain k
  | ⟨.inr (.inl (k, a))⟩ => tail k a
  | ⟨.inr (.inr (.inl ()))⟩ => signed
  | ⟨.inr (.inr (.inr (.inl ())))⟩ => pcted
  | ⟨.inr (.inr (.inr (.inr (.inl a))))⟩ => pcts a
  | ⟨.inr (.inr (.inr (.inr (.inr (.inl ())))))⟩ => operand
  | ⟨.inr (.inr (.inr (.inr (.inr (.inr (.inl ()))))))⟩ => args
  | ⟨.inr (.inr (.inr (.inr (.inr (.inr (.inr l))))))⟩ => more l
abbrev Rs := Option (Syn × List Tk)
def rdF : Nat → Md → List Tk → Rs
  | 0, _, _ => none
  | f + 1, ⟨.inl k⟩, l => if 5 < k then rdF f .signed l else
    match rdF f (.chain (k + 1)) l with
    | none => none
    | some p => rdF f (.tail k p.1) p.2
  | _ + 1, ⟨.inr (.inl (_, a))⟩, [] => some (a, [])
  | f + 1, ⟨.inr (.inl (k, a))⟩, t :: l => if lineT t = k then
      match rdF f (.chain (k + 1)) l with
      | none => none
      | some p => rdF f (.tail k (.bin a t p.1)) p.2
    else some (a, t :: l)
  | _ + 1, ⟨.inr (.inr (.inl ()))⟩, [] => none
  | f + 1, ⟨.inr (.inr (.inl ()))⟩, t :: l => if signB t = true then
      match rdF f .signed l with
      | none => none
      | some p => some (.sign t p.1, p.2)
    else rdF f .pcted (t :: l)
  | f + 1, ⟨.inr (.inr (.inr (.inl ())))⟩, l =>
    match rdF f .operand l with
    | none => none
    | some p => rdF f (.pcts p.1) p.2
  | _ + 1, ⟨.inr (.inr (.inr (.inr (.inl a))))⟩, [] => some (a, [])
  | f + 1, ⟨.inr (.inr (.inr (.inr (.inl a))))⟩, t :: l => if pctB t = true then rdF f (.pcts (.pct a t)) l else some (a, t :: l)
  | _ + 1, ⟨.inr (.inr (.inr (.inr (.inr (.inl ())))))⟩, [] => none
  | f + 1, ⟨.inr (.inr (.inr (.inr (.inr (.inl ())))))⟩, t :: l => if atomB t = true then some (.atom t, l)
    else if t.kind = 4 then
      match l with
      | [] => some (.atom t, [])
      | o :: m => if o.kind = 6 then
          match rdF f .args m with
          | none => none
          | some (_, []) => none
          | some (al, c :: r) => if c.kind = 7 then some (.call t o al c, r) else none
        else some (.atom t, o :: m)
    else if t.kind = 6 then
      match rdF f (.chain 1) l with
      | none => none
      | some (_, []) => none
      | some (s, c :: r) => if c.kind = 7 then some (.par t s c, r) else none
    else none
  | f + 1, ⟨.inr (.inr (.inr (.inr (.inr (.inr (.inl ()))))))⟩, [] =>
    match rdF f (.chain 1) [] with
    | none => none
    | some p => rdF f (.more (.first p.1)) p.2
  | f + 1, ⟨.inr (.inr (.inr (.inr (.inr (.inr (.inl ()))))))⟩, t :: l => if t.kind = 7 then some (.nil, t :: l) else
    match rdF f (.chain 1) (t :: l) with
    | none => none
    | some p => rdF f (.more (.first p.1)) p.2
  | _ + 1, ⟨.inr (.inr (.inr (.inr (.inr (.inr (.inr a))))))⟩, [] => some (a, [])
  | f + 1, ⟨.inr (.inr (.inr (.inr (.inr (.inr (.inr a))))))⟩, t :: l => if t.kind = 8 then
      match rdF f (.chain 1) l with
      | none => none
      | some p => rdF f (.more (.snoc a t p.1)) p.2
    else some (a, t :: l)
def Md.rank : Md → Nat
  | ⟨.inl k⟩ => 16 - min k 6
  | ⟨.inr (.inl (_, _))⟩ => 6
  | ⟨.inr (.inr (.inl ()))⟩ => 9
  | ⟨.inr (.inr (.inr (.inl ())))⟩ => 8
  | ⟨.inr (.inr (.inr (.inr (.inl _))))⟩ => 5
  | ⟨.inr (.inr (.inr (.inr (.inr (.inl ())))))⟩ => 7
  | ⟨.inr (.inr (.inr (.inr (.inr (.inr (.inl ()))))))⟩ => 17
  | ⟨.inr (.inr (.inr (.inr (.inr (.inr (.inr _))))))⟩ => 4
def Md.left : Md → List Tk
  | ⟨.inr (.inl (_, a))⟩ => a.toks
  | ⟨.inr (.inr (.inr (.inr (.inl a))))⟩ => a.toks
  | ⟨.inr (.inr (.inr (.inr (.inr (.inr (.inr a))))))⟩ => a.toks
  | _ => []
theorem rdF_toks : ∀ (f : Nat) (m : Md) (l : List Tk) (s : Syn) (r : List Tk), rdF f m l = some (s, r) → m.left ++ l = s.toks ++ r := by
  intro f
  induction f with
  | zero => intro m l s r h; simp [rdF] at h
  | succ f ih =>
    intro m l s r h
    cases m using Md.cs with
    | chain k =>
      simp only [rdF] at h
      by_cases hk : 5 < k
      · rw [if_pos hk] at h
        have := ih _ _ _ _ h
        exact this
      · rw [if_neg hk] at h
        cases hc : rdF f (.chain (k + 1)) l with
        | none => rw [hc] at h; simp at h
        | some p =>
          rw [hc] at h
          have h1 := ih _ _ _ _ hc
          have h2 := ih _ _ _ _ h
          simp only [Md.left, List.nil_append] at h1 h2 ⊢
          rw [h1, h2]
    | tail k a =>
      cases l with
      | nil => simp only [rdF] at h; cases h; rfl
      | cons t l =>
        simp only [rdF] at h
        by_cases hk : lineT t = k
        · rw [if_pos hk] at h
          cases hc : rdF f (.chain (k + 1)) l with
          | none => rw [hc] at h; simp at h
          | some p =>
            rw [hc] at h
            have h1 := ih _ _ _ _ hc
            have h2 := ih _ _ _ _ h
            simp only [Md.left, List.nil_append, Syn.toks] at h1 h2 ⊢
            rw [h1, ← h2]; simp
        · rw [if_neg hk] at h; cases h; rfl
    | signed =>
      cases l with
      | nil => simp [rdF] at h
      | cons t l =>
        simp only [rdF] at h
        by_cases hk : signB t = true
        · rw [if_pos hk] at h
          cases hc : rdF f .signed l with
          | none => rw [hc] at h; simp at h
          | some p =>
            rw [hc] at h
            have h1 := ih _ _ _ _ hc
            cases h
            simp only [Md.left, List.nil_append, Syn.toks] at h1 ⊢
            rw [h1]; simp
        · rw [if_neg hk] at h
          have := ih _ _ _ _ h
          exact this
    | pcted =>
      simp only [rdF] at h
      cases hc : rdF f .operand l with
      | none => rw [hc] at h; simp at h
      | some p =>
        rw [hc] at h
        have h1 := ih _ _ _ _ hc
        have h2 := ih _ _ _ _ h
        simp only [Md.left, List.nil_append] at h1 h2 ⊢
        rw [h1, h2]
    | pcts a =>
      cases l with
      | nil => simp only [rdF] at h; cases h; rfl
      | cons t l =>
        simp only [rdF] at h
        by_cases hk : pctB t = true
        · rw [if_pos hk] at h
          have h2 := ih _ _ _ _ h
          simp only [Md.left, Syn.toks] at h2 ⊢
          rw [← h2]; simp
        · rw [if_neg hk] at h; cases h; rfl
    | operand =>
      cases l with
      | nil => simp [rdF] at h
      | cons t l =>
        simp only [rdF] at h
        by_cases ha : atomB t = true
        · rw [if_pos ha] at h; cases h; rfl
        rw [if_neg ha] at h
        by_cases hw : t.kind = 4
        · rw [if_pos hw] at h
          cases l with
          | nil => cases h; rfl
          | cons o m =>
            simp only [] at h
            by_cases ho : o.kind = 6
            · rw [if_pos ho] at h
              cases hc : rdF f .args m with
              | none => rw [hc] at h; simp at h
              | some p =>
                obtain ⟨al, r'⟩ := p
                rw [hc] at h
                cases r' with
                | nil => simp at h
                | cons c r' =>
                  simp only [] at h
                  by_cases hk : c.kind = 7
                  · rw [if_pos hk] at h
                    have h1 := ih _ _ _ _ hc
                    cases h
                    simp only [Md.left, List.nil_append, Syn.toks] at h1 ⊢
                    rw [h1]; simp
                  · rw [if_neg hk] at h; simp at h
            · rw [if_neg ho] at h; cases h; rfl
        · rw [if_neg hw] at h
          by_cases ho : t.kind = 6
          · rw [if_pos ho] at h
            cases hc : rdF f (.chain 1) l with
            | none => rw [hc] at h; simp at h
            | some p =>
              obtain ⟨al, r'⟩ := p
              rw [hc] at h
              cases r' with
              | nil => simp at h
              | cons c r' =>
                simp only [] at h
                by_cases hk : c.kind = 7
                · rw [if_pos hk] at h
                  have h1 := ih _ _ _ _ hc
                  cases h
                  simp only [Md.left, List.nil_append, Syn.toks] at h1 ⊢
                  rw [h1]; simp
                · rw [if_neg hk] at h; simp at h
          · rw [if_neg ho] at h; simp at h
    | args =>
      cases l with
      | nil =>
        simp only [rdF] at h
        cases hc : rdF f (.chain 1) [] with
        | none => rw [hc] at h; simp at h
        | some p =>
          rw [hc] at h
          have h1 := ih _ _ _ _ hc
          have h2 := ih _ _ _ _ h
          simp only [Md.left, List.nil_append, Syn.toks] at h1 h2 ⊢
          rw [h1, h2]
      | cons t l =>
        simp only [rdF] at h
        by_cases hk : t.kind = 7
        · rw [if_pos hk] at h; cases h; rfl
        · rw [if_neg hk] at h
          cases hc : rdF f (.chain 1) (t :: l) with
          | none => rw [hc] at h; simp at h
          | some p =>
            rw [hc] at h
            have h1 := ih _ _ _ _ hc
            have h2 := ih _ _ _ _ h
            simp only [Md.left, List.nil_append, Syn.toks] at h1 h2 ⊢
            rw [h1, h2]
    | more a =>
      cases l with
      | nil => simp only [rdF] at h; cases h; rfl
      | cons t l =>
        simp only [rdF] at h
        by_cases hk : t.kind = 8
        · rw [if_pos hk] at h
          cases hc : rdF f (.chain 1) l with
          | none => rw [hc] at h; simp at h
          | some p =>
            rw [hc] at h
            have h1 := ih _ _ _ _ hc
            have h2 := ih _ _ _ _ h
            simp only [Md.left, List.nil_append, Syn.toks] at h1 h2 ⊢
            rw [h1, ← h2]; simp
        · rw [if_neg hk] at h; cases h; rfl
end Go.Proofs.YtloamahbghjjgaaGreatDoor

namespace Go.Proofs.YtloamahbghjjgaaGreatDoor

theorem wf_down {s : Syn} {k j : Nat} (h : s.wf k) (hj : j ≤ k) (hk : k ≤ 8) : s.wf j := by
  cases s using Syn.cs with
  | atom t => exact ⟨by omega, h.2⟩
  | par o s c => exact ⟨by omega, h.2⟩
  | call t o l c => exact ⟨by omega, h.2⟩
  | sign t s => exact ⟨by have := h.1; omega, h.2⟩
  | pct s t => exact ⟨by have := h.1; omega, h.2⟩
  | bin a t b => exact ⟨by have := h.1; omega, h.2⟩
  | nil => have : k = 9 := h; omega
  | first s => have := h.1; omega
  | snoc l c s => have := h.1; omega
theorem wf_ne : ∀ {s : Syn} {k : Nat}, s.wf k → k ≤ 8 → s.toks ≠ []
  | ⟨.inl t⟩, k, _, _ => by simp [Syn.toks]
  | ⟨.inr (.inl (o, s, c))⟩, k, _, _ => by simp [Syn.toks]
  | ⟨.inr (.inr (.inl (t, o, l, c)))⟩, k, _, _ => by simp [Syn.toks]
  | ⟨.inr (.inr (.inr (.inl (t, s))))⟩, k, _, _ => by simp [Syn.toks]
  | ⟨.inr (.inr (.inr (.inr (.inl (s, t)))))⟩, k, _, _ => by simp [Syn.toks]
  | ⟨.inr (.inr (.inr (.inr (.inr (.inl (a, t, b))))))⟩, k, _, _ => by simp [Syn.toks]
  | ⟨.inr (.inr (.inr (.inr (.inr (.inr (.inl ()))))))⟩, k, h, hk => by have : k = 9 := h; omega
  | ⟨.inr (.inr (.inr (.inr (.inr (.inr (.inr (.inl s)))))))⟩, k, h, hk => by have := h.1; omega
  | ⟨.inr (.inr (.inr (.inr (.inr (.inr (.inr (.inr ((l, c, s)))))))))⟩, k, h, hk => by have := h.1; omega
def Md.ok : Md → Prop
  | ⟨.inl k⟩ => 1 ≤ k
  | ⟨.inr (.inl (k, a))⟩ => 1 ≤ k ∧ k ≤ 5 ∧ a.wf k
  | ⟨.inr (.inr (.inr (.inr (.inl a))))⟩ => a.wf 7
  | ⟨.inr (.inr (.inr (.inr (.inr (.inr (.inr a))))))⟩ => a.wf 9 ∧ a ≠ .nil
  | _ => True
def Md.lev : Md → Nat
  | ⟨.inl k⟩ => min k 6
  | ⟨.inr (.inl (k, _))⟩ => k
  | ⟨.inr (.inr (.inl ()))⟩ => 6
  | ⟨.inr (.inr (.inr (.inl ())))⟩ => 7
  | ⟨.inr (.inr (.inr (.inr (.inl _))))⟩ => 7
  | ⟨.inr (.inr (.inr (.inr (.inr (.inl ())))))⟩ => 8
  | ⟨.inr (.inr (.inr (.inr (.inr (.inr (.inl ()))))))⟩ => 9
  | ⟨.inr (.inr (.inr (.inr (.inr (.inr (.inr _))))))⟩ => 9
theorem rdF_wf : ∀ (f : Nat) (m : Md) (l : List Tk) (s : Syn) (r : List Tk), rdF f m l = some (s, r) → m.ok → s.wf m.lev := by
  intro f
  induction f with
  | zero => intro m l s r h; simp [rdF] at h
  | succ f ih =>
    intro m l s r h hm
    cases m using Md.cs with
    | chain k =>
      simp only [rdF] at h
      have hm : 1 ≤ k := hm
      by_cases hk : 5 < k
      · rw [if_pos hk] at h
        have := ih _ _ _ _ h trivial
        simp only [Md.lev] at this ⊢
        rw [Nat.min_eq_right (by omega)]; exact this
      · rw [if_neg hk] at h
        cases hc : rdF f (.chain (k + 1)) l with
        | none => rw [hc] at h; simp at h
        | some p =>
          rw [hc] at h
          have h1 := ih _ _ _ _ hc (by simp [Md.ok])
          simp only [Md.lev] at h1 ⊢
          have h2 := ih _ _ _ _ h ⟨hm, by omega, wf_down h1 (by omega) (by omega)⟩
          simp only [Md.lev] at h2
          rw [Nat.min_eq_left (by omega)]; exact h2
    | tail k a =>
      obtain ⟨m1, m2, m3⟩ := hm
      cases l with
      | nil => simp only [rdF] at h; cases h; exact m3
      | cons t l =>
        simp only [rdF] at h
        by_cases hk : lineT t = k
        · rw [if_pos hk] at h
          cases hc : rdF f (.chain (k + 1)) l with
          | none => rw [hc] at h; simp at h
          | some p =>
            rw [hc] at h
            have h1 := ih _ _ _ _ hc (by simp [Md.ok])
            simp only [Md.lev] at h1
            rw [Nat.min_eq_left (by omega)] at h1
            subst hk
            have h9 := ih _ _ _ _ h
            exact h9 ⟨m1, m2, Nat.le_refl _, m1, m3, h1⟩
        · rw [if_neg hk] at h; cases h; exact m3
    | signed =>
      cases l with
      | nil => simp [rdF] at h
      | cons t l =>
        simp only [rdF] at h
        by_cases hk : signB t = true
        · rw [if_pos hk] at h
          cases hc : rdF f .signed l with
          | none => rw [hc] at h; simp at h
          | some p =>
            rw [hc] at h
            have h1 := ih _ _ _ _ hc trivial
            cases h
            exact ⟨Nat.le_refl _, hk, h1⟩
        · rw [if_neg hk] at h
          have := ih _ _ _ _ h trivial
          exact wf_down this (by simp [Md.lev]) (by simp [Md.lev])
    | pcted =>
      simp only [rdF] at h
      cases hc : rdF f .operand l with
      | none => rw [hc] at h; simp at h
      | some p =>
        rw [hc] at h
        have h1 := ih _ _ _ _ hc trivial
        have h9 := ih _ _ _ _ h
        exact h9 (wf_down h1 (by simp [Md.lev]) (by simp [Md.lev]))
    | pcts a =>
      cases l with
      | nil => simp only [rdF] at h; cases h; exact hm
      | cons t l =>
        simp only [rdF] at h
        by_cases hk : pctB t = true
        · rw [if_pos hk] at h
          have h9 := ih _ _ _ _ h
          exact h9 ⟨Nat.le_refl _, hk, hm⟩
        · rw [if_neg hk] at h; cases h; exact hm
    | operand =>
      cases l with
      | nil => simp [rdF] at h
      | cons t l =>
        simp only [rdF] at h
        by_cases ha : atomB t = true
        · rw [if_pos ha] at h; cases h; exact ⟨Nat.le_refl _, Or.inl ha⟩
        rw [if_neg ha] at h
        by_cases hw : t.kind = 4
        · rw [if_pos hw] at h
          cases l with
          | nil => cases h; exact ⟨Nat.le_refl _, Or.inr hw⟩
          | cons o m =>
            simp only [] at h
            by_cases ho : o.kind = 6
            · rw [if_pos ho] at h
              cases hc : rdF f .args m with
              | none => rw [hc] at h; simp at h
              | some p =>
                obtain ⟨al, r'⟩ := p
                rw [hc] at h
                cases r' with
                | nil => simp at h
                | cons c r' =>
                  simp only [] at h
                  by_cases hk : c.kind = 7
                  · rw [if_pos hk] at h
                    have h1 := ih _ _ _ _ hc trivial
                    cases h
                    exact ⟨Nat.le_refl _, hw, ho, hk, h1⟩
                  · rw [if_neg hk] at h; simp at h
            · rw [if_neg ho] at h; cases h; exact ⟨Nat.le_refl _, Or.inr hw⟩
        · rw [if_neg hw] at h
          by_cases ho : t.kind = 6
          · rw [if_pos ho] at h
            cases hc : rdF f (.chain 1) l with
            | none => rw [hc] at h; simp at h
            | some p =>
              obtain ⟨al, r'⟩ := p
              rw [hc] at h
              cases r' with
              | nil => simp at h
              | cons c r' =>
                simp only [] at h
                by_cases hk : c.kind = 7
                · rw [if_pos hk] at h
                  have h1 := ih _ _ _ _ hc (Nat.le_refl 1)
                  cases h
                  exact ⟨Nat.le_refl _, ho, hk, h1⟩
                · rw [if_neg hk] at h; simp at h
          · rw [if_neg ho] at h; simp at h
    | args =>
      cases l with
      | nil =>
        simp only [rdF] at h
        cases hc : rdF f (.chain 1) [] with
        | none => rw [hc] at h; simp at h
        | some p =>
          rw [hc] at h
          have h1 := ih _ _ _ _ hc (Nat.le_refl 1)
          have h9 := ih _ _ _ _ h
          exact h9 ⟨⟨rfl, h1⟩, by simp⟩
      | cons t l =>
        simp only [rdF] at h
        by_cases hk : t.kind = 7
        · rw [if_pos hk] at h; cases h; rfl
        · rw [if_neg hk] at h
          cases hc : rdF f (.chain 1) (t :: l) with
          | none => rw [hc] at h; simp at h
          | some p =>
            rw [hc] at h
            have h1 := ih _ _ _ _ hc (Nat.le_refl 1)
            have h9 := ih _ _ _ _ h
            exact h9 ⟨⟨rfl, h1⟩, by simp⟩
    | more a =>
      cases l with
      | nil => simp only [rdF] at h; cases h; exact hm.1
      | cons t l =>
        simp only [rdF] at h
        by_cases hk : t.kind = 8
        · rw [if_pos hk] at h
          cases hc : rdF f (.chain 1) l with
          | none => rw [hc] at h; simp at h
          | some p =>
            rw [hc] at h
            have h1 := ih _ _ _ _ hc (Nat.le_refl 1)
            have h9 := ih _ _ _ _ h
            exact h9 ⟨⟨rfl, hm.1, hm.2, hk, h1⟩, by simp⟩
        · rw [if_neg hk] at h; cases h; exact hm.1
theorem rdF_short {f k : Nat} {l : List Tk} {s : Syn} {r : List Tk} (h : rdF f (.chain (k + 1)) l = some (s, r)) : r.length < l.length := by
  have h1 := rdF_toks _ _ _ _ _ h
  have h2 := wf_ne (rdF_wf _ _ _ _ _ h (by simp [Md.ok])) (by simp only [Md.lev]; omega)
  simp only [Md.left, List.nil_append] at h1
  have h3 : 0 < s.toks.length := List.length_pos_iff.mpr h2
  rw [h1, List.length_append]; omega
theorem rdF_short8 {f : Nat} {l : List Tk} {s : Syn} {r : List Tk} (h : rdF f .operand l = some (s, r)) : r.length < l.length := by
  have h1 := rdF_toks _ _ _ _ _ h
  have h2 := wf_ne (rdF_wf _ _ _ _ _ h trivial) (by simp only [Md.lev]; omega)
  simp only [Md.left, List.nil_append] at h1
  have h3 : 0 < s.toks.length := List.length_pos_iff.mpr h2
  rw [h1, List.length_append]; omega
def bound (m : Md) (l : List Tk) : Nat := 20 * l.length + m.rank
theorem rdF_same : ∀ (f g : Nat) (m : Md) (l : List Tk), bound m l ≤ f → bound m l ≤ g → rdF f m l = rdF g m l := by
  intro f
  induction f with
  | zero =>
    intro g m l h _
    cases m using Md.cs <;> simp only [bound, Md.rank] at h <;> omega
  | succ f ih =>
    intro g m l hf hg
    cases g with
    | zero => cases m using Md.cs <;> simp only [bound, Md.rank] at hg <;> omega
    | succ g =>
      cases m using Md.cs with
      | chain k =>
        simp only [bound, Md.rank] at hf hg
        simp only [rdF]
        by_cases hk : 5 < k
        · rw [if_pos hk, if_pos hk]
          exact ih _ _ _ (by simp only [bound, Md.rank]; omega) (by simp only [bound, Md.rank]; omega)
        · rw [if_neg hk, if_neg hk, ih g _ _ (by simp only [bound, Md.rank]; omega) (by simp only [bound, Md.rank]; omega)]
          cases hc : rdF g (.chain (k + 1)) l with
          | none => rfl
          | some p =>
            have := rdF_short hc
            exact ih _ _ _ (by simp only [bound, Md.rank]; omega) (by simp only [bound, Md.rank]; omega)
      | tail k a =>
        cases l with
        | nil => rfl
        | cons t l =>
          simp only [bound, Md.rank, List.length_cons] at hf hg
          simp only [rdF]
          by_cases hk : lineT t = k
          · rw [if_pos hk, if_pos hk, ih g _ _ (by simp only [bound, Md.rank]; omega) (by simp only [bound, Md.rank]; omega)]
            cases hc : rdF g (.chain (k + 1)) l with
            | none => rfl
            | some p =>
              have := rdF_short hc
              exact ih _ _ _ (by simp only [bound, Md.rank]; omega) (by simp only [bound, Md.rank]; omega)
          · rw [if_neg hk, if_neg hk]
      | signed =>
        cases l with
        | nil => rfl
        | cons t l =>
          simp only [bound, Md.rank, List.length_cons] at hf hg
          simp only [rdF]
          by_cases hk : signB t = true
          · rw [if_pos hk, if_pos hk, ih g _ _ (by simp only [bound, Md.rank]; omega) (by simp only [bound, Md.rank]; omega)]
          · rw [if_neg hk, if_neg hk]
            exact ih _ _ _ (by simp only [bound, Md.rank, List.length_cons]; omega) (by simp only [bound, Md.rank, List.length_cons]; omega)
      | pcted =>
        simp only [bound, Md.rank] at hf hg
        simp only [rdF]
        rw [ih g _ _ (by simp only [bound, Md.rank]; omega) (by simp only [bound, Md.rank]; omega)]
        cases hc : rdF g .operand l with
        | none => rfl
        | some p =>
          have := rdF_short8 hc
          exact ih _ _ _ (by simp only [bound, Md.rank]; omega) (by simp only [bound, Md.rank]; omega)
      | pcts a =>
        cases l with
        | nil => rfl
        | cons t l =>
          simp only [bound, Md.rank, List.length_cons] at hf hg
          simp only [rdF]
          by_cases hk : pctB t = true
          · rw [if_pos hk, if_pos hk]
            exact ih _ _ _ (by simp only [bound, Md.rank]; omega) (by simp only [bound, Md.rank]; omega)
          · rw [if_neg hk, if_neg hk]
      | operand =>
        cases l with
        | nil => rfl
        | cons t l =>
          simp only [bound, Md.rank, List.length_cons] at hf hg
          simp only [rdF]
          cases l with
          | nil => simp only []; rw [ih g (.chain 1) _ (by simp only [bound, Md.rank, List.length_nil]; omega) (by simp only [bound, Md.rank, List.length_nil]; omega)]
          | cons o l =>
            simp only [List.length_cons] at hf hg
            simp only []
            rw [ih g .args _ (by simp only [bound, Md.rank]; omega) (by simp only [bound, Md.rank]; omega),
              ih g (.chain 1) _ (by simp only [bound, Md.rank, List.length_cons]; omega) (by simp only [bound, Md.rank, List.length_cons]; omega)]
      | args =>
        cases l with
        | nil =>
          simp only [bound, Md.rank, List.length_nil] at hf hg
          simp only [rdF]
          rw [ih g _ _ (by simp only [bound, Md.rank, List.length_nil]; omega) (by simp only [bound, Md.rank, List.length_nil]; omega)]
          cases hc : rdF g (.chain 1) [] with
          | none => rfl
          | some p =>
            have := rdF_short hc
            simp at this
        | cons t l =>
          simp only [bound, Md.rank, List.length_cons] at hf hg
          simp only [rdF]
          rw [ih g _ _ (by simp only [bound, Md.rank, List.length_cons]; omega) (by simp only [bound, Md.rank, List.length_cons]; omega)]
          cases hc : rdF g (.chain 1) (t :: l) with
          | none => rfl
          | some p =>
            have := rdF_short hc
            simp only [List.length_cons] at this
            simp only []
            rw [ih g _ _ (by simp only [bound, Md.rank]; omega) (by simp only [bound, Md.rank]; omega)]
      | more a =>
        cases l with
        | nil => rfl
        | cons t l =>
          simp only [bound, Md.rank, List.length_cons] at hf hg
          simp only [rdF]
          rw [ih g _ _ (by simp only [bound, Md.rank]; omega) (by simp only [bound, Md.rank]; omega)]
          cases hc : rdF g (.chain 1) l with
          | none => rfl
          | some p =>
            have := rdF_short hc
            simp only []
            rw [ih g _ _ (by simp only [bound, Md.rank]; omega) (by simp only [bound, Md.rank]; omega)]
def rd (m : Md) (l : List Tk) : Rs := rdF (bound m l) m l
theorem rd_of {f : Nat} {m : Md} {l : List Tk} (h : bound m l ≤ f) : rdF f m l = rd m l := rdF_same _ _ _ _ h (Nat.le_refl _)
theorem rd_toks {m : Md} {l : List Tk} {s : Syn} {r : List Tk} (h : rd m l = some (s, r)) : m.left ++ l = s.toks ++ r := rdF_toks _ _ _ _ _ h
theorem rd_wf {m : Md} {l : List Tk} {s : Syn} {r : List Tk} (h : rd m l = some (s, r)) (hm : m.ok) : s.wf m.lev := rdF_wf _ _ _ _ _ h hm
theorem rd_short {k : Nat} {l : List Tk} {s : Syn} {r : List Tk} (h : rd (.chain (k + 1)) l = some (s, r)) : r.length < l.length := rdF_short h
theorem rd_short8 {l : List Tk} {s : Syn} {r : List Tk} (h : rd .operand l = some (s, r)) : r.length < l.length := rdF_short8 h
theorem rd_up (m : Md) (l : List Tk) : ∃ F, 20 * l.length + 20 = F ∧ rd m l = rdF (F + 1) m l := ⟨_, rfl, (rd_of (by cases m using Md.cs <;> simp only [bound, Md.rank] <;> omega)).symm⟩
theorem rd_chain (k : Nat) (l : List Tk) : rd (.chain k) l = if 5 < k then rd .signed l else
    match rd (.chain (k + 1)) l with
    | none => none
    | some p => rd (.tail k p.1) p.2 := by
  obtain ⟨F, hF, e0⟩ := rd_up _ _
  rw [e0]; simp only [rdF]
  rw [rd_of (m := .signed) (by simp only [bound, Md.rank]; omega), rd_of (m := .chain (k + 1)) (by simp only [bound, Md.rank]; omega)]
  cases hc : rd (.chain (k + 1)) l with
  | none => rfl
  | some p =>
    have := rd_short hc
    simp only []
    rw [rd_of (by simp only [bound, Md.rank]; omega)]
theorem rd_tail (k : Nat) (a : Syn) (t : Tk) (l : List Tk) : rd (.tail k a) (t :: l) = if lineT t = k then
      match rd (.chain (k + 1)) l with
      | none => none
      | some p => rd (.tail k (.bin a t p.1)) p.2
    else some (a, t :: l) := by
  obtain ⟨F, hF, e0⟩ := rd_up _ _
  rw [e0]; simp only [rdF]
  simp only [List.length_cons] at hF
  rw [rd_of (m := .chain (k + 1)) (by simp only [bound, Md.rank]; omega)]
  cases hc : rd (.chain (k + 1)) l with
  | none => rfl
  | some p =>
    have := rd_short hc
    simp only []
    rw [rd_of (by simp only [bound, Md.rank]; omega)]
theorem rd_signed (t : Tk) (l : List Tk) : rd .signed (t :: l) = if signB t = true then
      match rd .signed l with
      | none => none
      | some p => some (.sign t p.1, p.2)
    else rd .pcted (t :: l) := by
  obtain ⟨F, hF, e0⟩ := rd_up _ _
  rw [e0]; simp only [rdF]
  simp only [List.length_cons] at hF
  rw [rd_of (m := .signed) (by simp only [bound, Md.rank]; omega), rd_of (m := .pcted) (by simp only [bound, Md.rank, List.length_cons]; omega)]
  try rfl
theorem rd_pcted (l : List Tk) : rd .pcted l =
    match rd .operand l with
    | none => none
    | some p => rd (.pcts p.1) p.2 := by
  obtain ⟨F, hF, e0⟩ := rd_up _ _
  rw [e0]; simp only [rdF]
  rw [rd_of (m := .operand) (by simp only [bound, Md.rank]; omega)]
  cases hc : rd .operand l with
  | none => rfl
  | some p =>
    have := rd_short8 hc
    simp only []
    rw [rd_of (by simp only [bound, Md.rank]; omega)]
theorem rd_pcts (a : Syn) (t : Tk) (l : List Tk) : rd (.pcts a) (t :: l) = if pctB t = true then rd (.pcts (.pct a t)) l else some (a, t :: l) := by
  obtain ⟨F, hF, e0⟩ := rd_up _ _
  rw [e0]; simp only [rdF]
  simp only [List.length_cons] at hF
  rw [rd_of (by simp only [bound, Md.rank]; omega)]
def closeS (p : Rs) (mk : Syn → Tk → Syn) : Rs :=
  match p with
  | some (s, c :: r) => if c.kind = 7 then some (mk s c, r) else none
  | _ => none
theorem rd_operand (t : Tk) (l : List Tk) : rd .operand (t :: l) = if atomB t = true then some (.atom t, l)
    else if t.kind = 4 then
      match l with
      | [] => some (.atom t, [])
      | o :: m => if o.kind = 6 then closeS (rd .args m) (.call t o) else some (.atom t, o :: m)
    else if t.kind = 6 then closeS (rd (.chain 1) l) (.par t)
    else none := by
  obtain ⟨F, hF, e0⟩ := rd_up _ _
  rw [e0]; simp only [rdF]
  simp only [List.length_cons] at hF
  rw [rd_of (m := .chain 1) (by simp only [bound, Md.rank]; omega)]
  by_cases h1 : atomB t = true
  · rw [if_pos h1, if_pos h1]
  rw [if_neg h1, if_neg h1]
  by_cases h2 : t.kind = 4
  · rw [if_pos h2, if_pos h2]
    cases l with
    | nil => rfl
    | cons o m =>
      simp only [List.length_cons] at hF
      simp only []
      rw [rd_of (m := .args) (by simp only [bound, Md.rank]; omega)]
      by_cases h3 : o.kind = 6
      · rw [if_pos h3, if_pos h3]
        cases rd .args m with
        | none => rfl
        | some p => obtain ⟨s, r⟩ := p; cases r <;> rfl
      · rw [if_neg h3, if_neg h3]
  rw [if_neg h2, if_neg h2]
  by_cases h4 : t.kind = 6
  · rw [if_pos h4, if_pos h4]
    cases rd (.chain 1) l with
    | none => rfl
    | some p => obtain ⟨s, r⟩ := p; cases r <;> rfl
  · rw [if_neg h4, if_neg h4]
theorem rd_args_nil : rd .args [] = none := by
  obtain ⟨F, hF, e0⟩ := rd_up .args []
  rw [e0]; simp only [rdF]
  simp only [List.length_nil] at hF
  rw [rd_of (m := .chain 1) (by simp only [bound, Md.rank, List.length_nil]; omega)]
  cases hc : rd (.chain 1) [] with
  | none => rfl
  | some p => have := rd_short hc; simp at this
theorem rd_args (t : Tk) (l : List Tk) : rd .args (t :: l) = if t.kind = 7 then some (.nil, t :: l) else
    match rd (.chain 1) (t :: l) with
    | none => none
    | some p => rd (.more (.first p.1)) p.2 := by
  obtain ⟨F, hF, e0⟩ := rd_up _ _
  rw [e0]; simp only [rdF]
  simp only [List.length_cons] at hF
  rw [rd_of (m := .chain 1) (by simp only [bound, Md.rank, List.length_cons]; omega)]
  cases hc : rd (.chain 1) (t :: l) with
  | none => rfl
  | some p =>
    have := rd_short hc
    simp only [List.length_cons] at this
    simp only []
    rw [rd_of (by simp only [bound, Md.rank]; omega)]
theorem rd_more (a : Syn) (t : Tk) (l : List Tk) : rd (.more a) (t :: l) = if t.kind = 8 then
      match rd (.chain 1) l with
      | none => none
      | some p => rd (.more (.snoc a t p.1)) p.2
    else some (a, t :: l) := by
  obtain ⟨F, hF, e0⟩ := rd_up _ _
  rw [e0]; simp only [rdF]
  simp only [List.length_cons] at hF
  rw [rd_of (m := .chain 1) (by simp only [bound, Md.rank]; omega)]
  cases hc : rd (.chain 1) l with
  | none => rfl
  | some p =>
    have := rd_short hc
    simp only []
    rw [rd_of (by simp only [bound, Md.rank]; omega)]
end Go.Proofs.YtloamahbghjjgaaGreatDoor

namespace Go.Proofs.YtloamahbghjjgaaGreatDoor

def noOpen (r : List Tk) : Prop := ∀ t m, r = t :: m → t.kind ≠ 6
def noPct (r : List Tk) : Prop := ∀ t m, r = t :: m → pctB t = false
def lineLe (k : Nat) (r : List Tk) : Prop := ∀ t m, r = t :: m → lineT t ≤ k
theorem op_kind {t : Tk} {l : List UInt8} (h : opL5 t = l) (hl : l ≠ []) : t.kind = 5 := by
  by_cases hk : t.kind = 5
  · exact hk
  · exfalso; unfold opL5 at h; rw [if_neg hk] at h; exact hl h.symm
theorem not_op {t : Tk} (h : t.kind ≠ 5) : lineT t = 0 ∧ signB t = false ∧ pctB t = false ∧ minusB t = false := by
  have e : opL5 t = [] := by unfold opL5; rw [if_neg h]
  unfold lineT signB pctB minusB
  rw [e]; decide
theorem pct_line {t : Tk} (h : pctB t = true) : lineT t = 0 ∧ signB t = false ∧ t.kind = 5 := by
  have e : opL5 t = [37] := by simpa [pctB] using h
  refine ⟨?_, ?_, op_kind e (by simp)⟩
  · unfold lineT; rw [e]; decide
  · unfold signB; rw [e]; decide
theorem sign_kind {t : Tk} (h : signB t = true) : t.kind = 5 ∧ pctB t = false := by
  unfold signB at h
  rw [Bool.or_eq_true] at h
  rcases h with h | h
  · have e : opL5 t = [43] := by simpa using h
    exact ⟨op_kind e (by simp), by unfold pctB; rw [e]; decide⟩
  · have e : opL5 t = [45] := by simpa using h
    exact ⟨op_kind e (by simp), by unfold pctB; rw [e]; decide⟩
theorem line_kind {t : Tk} (h : 1 ≤ lineT t) : t.kind = 5 ∧ pctB t = false := by
  refine ⟨?_, ?_⟩
  · by_cases hk : t.kind = 5
    · exact hk
    · rw [(not_op hk).1] at h; omega
  · cases hp : pctB t with
    | false => rfl
    | true => rw [(pct_line hp).1] at h; omega
theorem line_le (t : Tk) : lineT t ≤ 5 := by
  unfold lineT bindL
  repeat' split
  all_goals omega
theorem atom_kind {t : Tk} (h : atomB t = true) : t.kind = 0 ∨ t.kind = 1 ∨ t.kind = 2 ∨ t.kind = 3 := by
  simp only [atomB, Bool.or_eq_true, beq_iff_eq] at h
  rcases h with ((h | h) | h) | h <;> simp [h]
theorem tail_stop {k : Nat} {s : Syn} {r : List Tk} (h : ∀ t m, r = t :: m → lineT t ≠ k) : rd (.tail k s) r = some (s, r) := by
  cases r with
  | nil => rfl
  | cons t m => rw [rd_tail, if_neg (h t m rfl)]
theorem chain_down {l r : List Tk} {s : Syn} : ∀ (d k : Nat), k + d ≤ 5 → rd (.chain (k + d + 1)) l = some (s, r) → lineLe k r → rd (.chain k) l = rd (.tail k s) r
  | 0, k, hk, h, _ => by rw [rd_chain, if_neg (by omega)]; rw [Nat.add_zero] at h; rw [h]
  | d + 1, k, hk, h, hl => by
    have h1 := chain_down d (k + 1) (by omega) (by rw [show k + 1 + d + 1 = k + (d + 1) + 1 by omega]; exact h) (fun t m e => Nat.le_succ_of_le (hl t m e))
    rw [rd_chain, if_neg (by omega), h1, tail_stop (fun t m e => by have := hl t m e; omega)]
theorem chain_of_signed {l r : List Tk} {s : Syn} {k : Nat} (hk : k ≤ 5) (h : rd .signed l = some (s, r)) (hl : lineLe k r) : rd (.chain k) l = rd (.tail k s) r :=
  chain_down (5 - k) k (by omega) (by rw [rd_chain, if_pos (by omega)]; exact h) hl
theorem pcts_stop {s : Syn} {r : List Tk} (h : noPct r) : rd (.pcts s) r = some (s, r) := by
  cases r with
  | nil => rfl
  | cons t m => rw [rd_pcts, if_neg (by rw [h t m rfl]; simp)]
structure Back (s : Syn) : Prop where
  op : ∀ r, s.wf 8 → noOpen r → rd .operand (s.toks ++ r) = some (s, r)
  pc : ∀ r, s.wf 7 → noOpen r → rd .pcted (s.toks ++ r) = rd (.pcts s) r
  sg : ∀ r, s.wf 6 → noOpen r → noPct r → rd .signed (s.toks ++ r) = some (s, r)
  ch : ∀ k r, 1 ≤ k → k ≤ 5 → s.wf k → noOpen r → noPct r → lineLe k r → rd (.chain k) (s.toks ++ r) = rd (.tail k s) r
  ar : ∀ c r, s.wf 9 → s ≠ .nil → (c.kind = 7 ∨ c.kind = 8) → rd .args (s.toks ++ c :: r) = rd (.more s) (c :: r)
theorem Back.of_op {s : Syn} {t : Tk} {m : List Tk} (ht : s.toks = t :: m) (hs : signB t = false) (h9 : ¬ s.wf 9)
    (h : ∀ r, noOpen r → rd .operand (s.toks ++ r) = some (s, r)) : Back s := by
  have hp : ∀ r, noOpen r → rd .pcted (s.toks ++ r) = rd (.pcts s) r := fun r h1 => by rw [rd_pcted, h r h1]
  have hsg : ∀ r, noOpen r → noPct r → rd .signed (s.toks ++ r) = some (s, r) := fun r h1 h2 => by
    have e := hp r h1
    rw [pcts_stop h2, ht, List.cons_append] at e
    rw [ht, List.cons_append, rd_signed, if_neg (by rw [hs]; simp), e]
  exact ⟨fun r _ => h r, fun r _ => hp r, fun r _ => hsg r, fun k r _ h2 _ h4 h5 h6 => chain_of_signed h2 (hsg r h4 h5) h6, fun _ _ h _ => absurd h h9⟩
theorem noOpen_of {c : Tk} {r : List Tk} (h : c.kind ≠ 6) : noOpen (c :: r) := fun t m e => by cases e; exact h
theorem noPct_of {c : Tk} {r : List Tk} (h : pctB c = false) : noPct (c :: r) := fun t m e => by cases e; exact h
theorem lineLe_of {k : Nat} {c : Tk} {r : List Tk} (h : lineT c ≤ k) : lineLe k (c :: r) := fun t m e => by cases e; exact h
theorem Back.whole {s : Syn} (h : Back s) (hw : s.wf 1) (c : Tk) (r : List Tk) (hc : c.kind = 7 ∨ c.kind = 8) : rd (.chain 1) (s.toks ++ c :: r) = some (s, c :: r) := by
  obtain ⟨n1, n2, n3, _⟩ := not_op (t := c) (by omega)
  rw [h.ch 1 _ (Nat.le_refl _) (by omega) hw (noOpen_of (by omega)) (noPct_of n3) (lineLe_of (by omega)), tail_stop (fun t m e => by cases e; omega)]
theorem head_no7 {s : Syn} {k : Nat} (h : s.wf k) (hk : k ≤ 8) : ∃ t m, s.toks = t :: m ∧ t.kind ≠ 7 := by
  induction s using Syn.ind generalizing k with
  | atom t =>
    refine ⟨t, [], rfl, ?_⟩
    rcases h.2 with h | h
    · have := atom_kind h; omega
    · omega
  | par o s c _ => exact ⟨o, _, rfl, by have := h.2.1; omega⟩
  | call t o l c _ => exact ⟨t, _, rfl, by have := h.2.1; omega⟩
  | sign t s _ => exact ⟨t, _, rfl, by have := sign_kind h.2.1; omega⟩
  | pct s t ih =>
    obtain ⟨u, m, e, hu⟩ := ih h.2.2 (by omega)
    exact ⟨u, m ++ [t], by simp [Syn.toks, e], hu⟩
  | bin a t b iha _ =>
    obtain ⟨u, m, e, hu⟩ := iha h.2.2.1 (by have := line_le t; omega)
    exact ⟨u, m ++ t :: b.toks, by simp [Syn.toks, e], hu⟩
  | nil => have : k = 9 := h; omega
  | first s _ => have := h.1; omega
  | snoc l c s _ _ => have := h.1; omega
theorem head_no_sign {s : Syn} (h : s.wf 7) : ∃ t m, s.toks = t :: m ∧ signB t = false := by
  induction s using Syn.ind with
  | atom t =>
    refine ⟨t, [], rfl, ?_⟩
    refine (not_op ?_).2.1
    rcases h.2 with h | h
    · have := atom_kind h; omega
    · omega
  | par o s c _ => exact ⟨o, _, rfl, (not_op (by have := h.2.1; omega)).2.1⟩
  | call t o l c _ => exact ⟨t, _, rfl, (not_op (by have := h.2.1; omega)).2.1⟩
  | sign t s _ => have := h.1; omega
  | pct s t ih =>
    obtain ⟨u, m, e, hu⟩ := ih h.2.2
    exact ⟨u, m ++ [t], by simp [Syn.toks, e], hu⟩
  | bin a t b iha _ => have := h.1; have := line_le t; omega
  | nil => have : 7 = 9 := h; omega
  | first s _ => have := h.1; omega
  | snoc l c s _ _ => have := h.1; omega
theorem back : ∀ s : Syn, Back s := by
  intro s
  induction s using Syn.ind with
  | atom t =>
    by_cases hw : atomB t = true ∨ t.kind = 4
    · have hk : t.kind ≠ 5 := by
        rcases hw with h | h
        · have := atom_kind h; omega
        · omega
      refine Back.of_op (t := t) (m := []) rfl (not_op hk).2.1 (fun h => by have := h.1; omega) (fun r hr => ?_)
      show rd .operand (t :: r) = _
      rw [rd_operand]
      by_cases ha : atomB t = true
      · rw [if_pos ha]
      · rw [if_neg ha]
        rcases hw with h | h
        · exact absurd h ha
        · rw [if_pos h]
          cases r with
          | nil => rfl
          | cons o m => simp only []; rw [if_neg (hr o m rfl)]
    · exact ⟨fun r h => absurd h.2 hw, fun r h => absurd h.2 hw, fun r h => absurd h.2 hw, fun k r _ _ h => absurd h.2 hw, fun c r h => absurd h.2 hw⟩
  | par o s c ih =>
    by_cases hw : o.kind = 6 ∧ c.kind = 7 ∧ s.wf 1
    · obtain ⟨ho, hc, hs⟩ := hw
      have hk := not_op (t := o) (by omega)
      refine Back.of_op (t := o) rfl hk.2.1 (fun h => by have := h.1; omega) (fun r hr => ?_)
      show rd .operand (o :: ((s.toks ++ [c]) ++ r)) = _
      have ha : ¬ atomB o = true := fun h => by have := atom_kind h; omega
      rw [rd_operand, if_neg ha, if_neg (by omega), if_pos ho, List.append_assoc, List.singleton_append, ih.whole hs c r (Or.inl hc)]
      simp only [closeS]; rw [if_pos hc]
    · exact ⟨fun r h => absurd h.2 hw, fun r h => absurd h.2 hw, fun r h => absurd h.2 hw, fun k r _ _ h => absurd h.2 hw, fun c r h => absurd h.2 hw⟩
  | call t o l c ih =>
    by_cases hw : t.kind = 4 ∧ o.kind = 6 ∧ c.kind = 7 ∧ l.wf 9
    · obtain ⟨ht, ho, hc, hs⟩ := hw
      have hk := not_op (t := t) (by omega)
      refine Back.of_op (t := t) rfl hk.2.1 (fun h => by have := h.1; omega) (fun r hr => ?_)
      show rd .operand (t :: o :: ((l.toks ++ [c]) ++ r)) = _
      have ha : ¬ atomB t = true := fun h => by have := atom_kind h; omega
      rw [rd_operand, if_neg ha, if_pos ht]
      simp only []
      rw [if_pos ho, List.append_assoc, List.singleton_append]
      have e : rd .args (l.toks ++ c :: r) = some (l, c :: r) := by
        by_cases hl : l = .nil
        · subst hl
          show rd .args (c :: r) = _
          rw [rd_args, if_pos hc]
        · rw [ih.ar c r hs hl (Or.inl hc), rd_more, if_neg (by omega)]
      rw [e]
      simp only [closeS]; rw [if_pos hc]
    · exact ⟨fun r h => absurd h.2 hw, fun r h => absurd h.2 hw, fun r h => absurd h.2 hw, fun k r _ _ h => absurd h.2 hw, fun c r h => absurd h.2 hw⟩
  | sign t s ih =>
    have hsg : ∀ r, signB t = true ∧ s.wf 6 → noOpen r → noPct r → rd .signed ((Syn.sign t s).toks ++ r) = some (.sign t s, r) := fun r h h1 h2 => by
      show rd .signed (t :: (s.toks ++ r)) = _
      rw [rd_signed, if_pos h.1, ih.sg r h.2 h1 h2]
    refine ⟨fun r h => by have := h.1; omega, fun r h => by have := h.1; omega, fun r h => hsg r h.2, fun k r _ h2 h h4 h5 h6 => chain_of_signed h2 (hsg r h.2 h4 h5) h6, fun c r h => by have := h.1; omega⟩
  | pct s t ih =>
    have hp : ∀ r, pctB t = true ∧ s.wf 7 → noOpen r → rd .pcted ((Syn.pct s t).toks ++ r) = rd (.pcts (.pct s t)) r := fun r h h1 => by
      show rd .pcted ((s.toks ++ [t]) ++ r) = _
      rw [List.append_assoc, List.singleton_append, ih.pc (t :: r) h.2 (noOpen_of (by have := pct_line h.1; omega)), rd_pcts, if_pos h.1]
    have hsg : ∀ r, pctB t = true ∧ s.wf 7 → noOpen r → noPct r → rd .signed ((Syn.pct s t).toks ++ r) = some (.pct s t, r) := fun r h h1 h2 => by
      have e := hp r h h1
      rw [pcts_stop h2] at e
      obtain ⟨u, m, e1, e2⟩ := head_no_sign (s := .pct s t) ⟨Nat.le_refl 7, h⟩
      rw [e1, List.cons_append] at e ⊢
      rw [rd_signed, if_neg (by rw [e2]; simp), e]
    exact ⟨fun r h => by have := h.1; omega, fun r h => hp r h.2, fun r h => hsg r h.2, fun k r _ h2 h h4 h5 h6 => chain_of_signed h2 (hsg r h.2 h4 h5) h6, fun c r h => by have := h.1; omega⟩
  | bin a t b iha ihb =>
    have hl := line_le t
    refine ⟨fun r h => by have := h.1; omega, fun r h => by have := h.1; omega, fun r h => by have := h.1; omega, fun k r h1 h2 h h4 h5 h6 => ?_, fun c r h => by have := h.1; omega⟩
    obtain ⟨w1, w2, wa, wb⟩ := h
    have kt := line_kind w2
    have hb : rd (.chain (lineT t + 1)) (b.toks ++ r) = some (b, r) := by
      by_cases h5' : lineT t = 5
      · rw [rd_chain, if_pos (by omega)]
        rw [h5'] at wb
        exact ihb.sg r wb h4 h5
      · rw [ihb.ch (lineT t + 1) r (by omega) (by omega) wb h4 h5 (fun u m e => by have := h6 u m e; omega), tail_stop (fun u m e => by have := h6 u m e; omega)]
    have e0 : (Syn.bin a t b).toks ++ r = a.toks ++ t :: (b.toks ++ r) := by simp [Syn.toks]
    have eL : rd (.chain (lineT t)) ((Syn.bin a t b).toks ++ r) = rd (.tail (lineT t) (.bin a t b)) r := by
      rw [e0, iha.ch (lineT t) _ w2 hl wa (noOpen_of (by omega)) (noPct_of kt.2) (lineLe_of (Nat.le_refl _)), rd_tail, if_pos rfl, hb]
    by_cases hkL : k = lineT t
    · rw [hkL]; exact eL
    · rw [tail_stop (fun u m e => by have := h6 u m e; omega)] at eL
      exact chain_down (lineT t - k - 1) k (by omega) (by rw [show k + (lineT t - k - 1) + 1 = lineT t by omega]; exact eL) h6
  | nil => exact ⟨fun r h => by have : 8 = 9 := h; omega, fun r h => by have : 7 = 9 := h; omega, fun r h => by have : 6 = 9 := h; omega, fun k r _ _ h => by have : k = 9 := h; omega, fun c r _ h => absurd rfl h⟩
  | first s ih =>
    refine ⟨fun r h => by have := h.1; omega, fun r h => by have := h.1; omega, fun r h => by have := h.1; omega, fun k r _ _ h => by have := h.1; omega, fun c r h _ hc => ?_⟩
    show rd .args (s.toks ++ c :: r) = _
    obtain ⟨u, m, e1, e2⟩ := head_no7 h.2 (by omega)
    have hw := ih.whole h.2 c r hc
    rw [e1, List.cons_append] at hw ⊢
    rw [rd_args, if_neg e2, hw]
  | snoc l d s ihl ihs =>
    refine ⟨fun r h => by have := h.1; omega, fun r h => by have := h.1; omega, fun r h => by have := h.1; omega, fun k r _ _ h => by have := h.1; omega, fun c r h _ hc => ?_⟩
    obtain ⟨_, wl, wn, wd, ws⟩ := h
    show rd .args ((l.toks ++ d :: s.toks) ++ c :: r) = _
    rw [List.append_assoc, List.cons_append, ihl.ar d _ wl wn (Or.inr wd), rd_more, if_pos wd, ihs.whole ws c r hc]
theorem rd_back {s : Syn} (h : s.wf 1) : rd (.chain 1) s.toks = some (s, []) := by
  have := (back s).ch 1 [] (Nat.le_refl _) (by omega) h (fun t m e => by cases e) (fun t m e => by cases e) (fun t m e => by cases e)
  rw [List.append_nil] at this
  rw [this]; rfl
end Go.Proofs.YtloamahbghjjgaaGreatDoor
