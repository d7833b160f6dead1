/- Plain: the tree of a formula as nodes; its nesting, its arguments. -/
import Derived.Test.YtloamahbghjjgaaGreatDoorPaY
import Derived.Test.YtloamahbghjjgaaGreatDoorVrA
namespace Go.Proofs.YtloamahbghjjgaaGreatDoor

/-- A node of a tree. -/
structure Nd where
  kind : Int
  op : ByteArray
  val : Vl
  ref : Fl
  kids : List Int
def zVl : Vl := ⟨0, 0, noText, false, 0⟩
/-- What a token stands for by itself. -/
def litV (t : Tk) : Vl :=
  if t.kind = 0 then vN t.num
  else if t.kind = 1 then vT t.text
  else if t.kind = 2 then vE t.fail
  else if t.text.data.toList = [84, 82, 85, 69] then vB true
  else if t.text.data.toList = [70, 65, 76, 83, 69] then vB false
  else vE 5
def atomN (t : Tk) : Nd := if t.kind = 3 then ⟨1, emp, zVl, t.ref, []⟩ else ⟨0, emp, litV t, zeroF, []⟩
def callN (t : Tk) (ks : List Nat) : Nd := ⟨5, t.text, zVl, zeroF, ks.map fun k : Nat => (k : Int)⟩
def negN (k : Nat) : Nd := ⟨2, emp, zVl, zeroF, [(k : Int)]⟩
def pctN (k : Nat) : Nd := ⟨3, emp, zVl, zeroF, [(k : Int)]⟩
def binN (t : Tk) (a b : Nat) : Nd := ⟨4, t.text, zVl, zeroF, [(a : Int), (b : Int)]⟩
/-- How many nodes. -/
def Syn.size : Syn → Nat
  | .atom _ => 1
  | .par _ s _ => s.size
  | .call _ _ l _ => l.size + 1
  | .sign t s => if minusB t = true then s.size + 1 else s.size
  | .pct s _ => s.size + 1
  | .bin a _ b => a.size + b.size + 1
  | .nil => 0
  | .first s => s.size
  | .snoc l _ s => l.size + s.size
/-- The places of arguments. -/
def Syn.kidsL : Nat → Syn → List Nat
  | _, .nil => []
  | b, .first s => [b + s.size - 1]
  | b, .snoc l _ s => l.kidsL b ++ [b + l.size + s.size - 1]
  | _, _ => []
/-- The nodes, from a place on. -/
def Syn.emit : Nat → Syn → List Nd
  | _, .atom t => [atomN t]
  | b, .par _ s _ => s.emit b
  | b, .call t _ l _ => l.emit b ++ [callN t (l.kidsL b)]
  | b, .sign t s => if minusB t = true then s.emit b ++ [negN (b + s.size - 1)] else s.emit b
  | b, .pct s _ => s.emit b ++ [pctN (b + s.size - 1)]
  | b, .bin x t y => x.emit b ++ (y.emit (b + x.size) ++ [binN t (b + x.size - 1) (b + x.size + y.size - 1)])
  | _, .nil => []
  | b, .first s => s.emit b
  | b, .snoc l _ s => l.emit b ++ s.emit (b + l.size)
/-- How deep parentheses, arguments and signs stand in one another. -/
def Syn.nest : Syn → Nat
  | .atom _ => 0
  | .par _ s _ => s.nest + 1
  | .call _ _ l _ => l.nest
  | .sign _ s => s.nest + 1
  | .pct s _ => s.nest
  | .bin a _ b => max a.nest b.nest
  | .nil => 0
  | .first s => s.nest + 1
  | .snoc l _ s => max l.nest (s.nest + 1)
/-- The most arguments of a word. -/
def Syn.most : Syn → Nat
  | .atom _ => 0
  | .par _ s _ => s.most
  | .call _ _ l _ => max l.most (l.kidsL 0).length
  | .sign _ s => s.most
  | .pct s _ => s.most
  | .bin a _ b => max a.most b.most
  | .nil => 0
  | .first s => s.most
  | .snoc l _ s => max l.most s.most
theorem emit_len : ∀ (s : Syn) (b : Nat), (s.emit b).length = s.size
  | .atom _, _ => rfl
  | .par _ s _, b => emit_len s b
  | .call t o l c, b => by simp [Syn.emit, Syn.size, emit_len l b]
  | .sign t s, b => by
    simp only [Syn.emit, Syn.size]
    split
    · simp [emit_len s b]
    · exact emit_len s b
  | .pct s t, b => by simp [Syn.emit, Syn.size, emit_len s b]
  | .bin x t y, b => by simp [Syn.emit, Syn.size, emit_len x b, emit_len y (b + x.size)]; omega
  | .nil, _ => rfl
  | .first s, b => emit_len s b
  | .snoc l c s, b => by simp [Syn.emit, Syn.size, emit_len l b, emit_len s (b + l.size)]
theorem kids_len : ∀ (s : Syn) (b : Nat), (s.kidsL b).length = (s.kidsL 0).length
  | .nil, _ => rfl
  | .first _, _ => rfl
  | .snoc l c s, b => by simp [Syn.kidsL, kids_len l b]
  | .atom _, _ => rfl
  | .par _ _ _, _ => rfl
  | .call _ _ _ _, _ => rfl
  | .sign _ _, _ => rfl
  | .pct _ _, _ => rfl
  | .bin _ _ _, _ => rfl
theorem size_toks : ∀ s : Syn, s.size ≤ s.toks.length ∧ (s.kidsL 0).length ≤ s.toks.length + 1
  | .atom _ => by simp [Syn.size, Syn.toks, Syn.kidsL]
  | .par o s c => by have := size_toks s; simp [Syn.size, Syn.toks, Syn.kidsL]; omega
  | .call t o l c => by have := size_toks l; simp [Syn.size, Syn.toks, Syn.kidsL]; omega
  | .sign t s => by
    have := size_toks s
    simp only [Syn.size, Syn.toks, Syn.kidsL, List.length_cons, List.length_nil]
    split <;> omega
  | .pct s t => by have := size_toks s; simp [Syn.size, Syn.toks, Syn.kidsL]; omega
  | .bin a t b => by have := size_toks a; have := size_toks b; simp [Syn.size, Syn.toks, Syn.kidsL]; omega
  | .nil => by simp [Syn.size, Syn.toks, Syn.kidsL]
  | .first s => by have := size_toks s; simp [Syn.size, Syn.toks, Syn.kidsL]; omega
  | .snoc l c s => by have := size_toks l; have := size_toks s; simp [Syn.size, Syn.toks, Syn.kidsL]; omega
theorem size_pos : ∀ {s : Syn} {k : Nat}, s.wf k → k ≤ 8 → 1 ≤ s.size
  | .atom _, _, _, _ => Nat.le_refl 1
  | .par o s c, k, h, _ => size_pos (s := s) h.2.2.2 (by omega)
  | .call t o l c, k, _, _ => by simp [Syn.size]
  | .sign t s, k, h, _ => by
    have := size_pos (s := s) h.2.2 (by omega)
    simp only [Syn.size]
    split <;> omega
  | .pct s t, k, _, _ => by simp [Syn.size]
  | .bin a t b, k, _, _ => by simp [Syn.size]
  | .nil, k, h, hk => by have : k = 9 := h; omega
  | .first s, k, h, hk => by have := h.1; omega
  | .snoc l c s, k, h, hk => by have := h.1; omega
theorem most_toks : ∀ s : Syn, s.most ≤ s.toks.length + 1
  | .atom _ => by simp [Syn.most]
  | .par o s c => by have := most_toks s; simp [Syn.most, Syn.toks]; omega
  | .call t o l c => by have := most_toks l; have := (size_toks l).2; simp [Syn.most, Syn.toks]; omega
  | .sign t s => by have := most_toks s; simp [Syn.most, Syn.toks]; omega
  | .pct s t => by have := most_toks s; simp [Syn.most, Syn.toks]; omega
  | .bin a t b => by have := most_toks a; have := most_toks b; simp [Syn.most, Syn.toks]; omega
  | .nil => by simp [Syn.most]
  | .first s => by have := most_toks s; simp [Syn.most, Syn.toks]; omega
  | .snoc l c s => by have := most_toks l; have := most_toks s; simp [Syn.most, Syn.toks]; omega
theorem nest_toks : ∀ {s : Syn} {k : Nat}, s.wf k → s.nest ≤ s.toks.length + 1 ∧ (k ≤ 8 → s.nest ≤ s.toks.length)
  | .atom _, _, _ => by simp [Syn.nest]
  | .par o s c, k, h => by have := (nest_toks (s := s) h.2.2.2).2 (by omega); simp [Syn.nest, Syn.toks]; omega
  | .call t o l c, k, h => by have := (nest_toks (s := l) h.2.2.2.2).1; simp [Syn.nest, Syn.toks]; omega
  | .sign t s, k, h => by have := (nest_toks (s := s) h.2.2).2 (by omega); simp [Syn.nest, Syn.toks]; omega
  | .pct s t, k, h => by have := (nest_toks (s := s) h.2.2).2 (by omega); simp [Syn.nest, Syn.toks]; omega
  | .bin a t b, k, h => by
    have h5 := line_le t
    have := (nest_toks (s := a) h.2.2.1).2 (by omega)
    have := (nest_toks (s := b) h.2.2.2).2 (by omega)
    simp [Syn.nest, Syn.toks]; omega
  | .nil, _, _ => by simp [Syn.nest]
  | .first s, k, h => by have := (nest_toks (s := s) h.2).2 (by omega); have := h.1; simp [Syn.nest, Syn.toks]; omega
  | .snoc l c s, k, h => by
    have := (nest_toks (s := l) h.2.1).1
    have := (nest_toks (s := s) h.2.2.2.2).2 (by omega)
    have := h.1
    simp [Syn.nest, Syn.toks]; omega
/-- What Parse answers for tokens. -/
def parseS (o : Option Syn) : List Nd × Int :=
  match o with
  | none => ([], 4)
  | some s => if 32 < s.nest then ([], 8) else if 32 < s.most then ([], 7) else if 256 < s.size then ([], 10) else (s.emit 0, 0)
def wholeO (r : Rs) : Option Syn := match r with | some (s, []) => some s | _ => none
/-- What Parse answers for a text. -/
def parseL (l : List UInt8) : List Nd × Int := if (lexT l).2.2 = 0 then parseS (wholeO (rd (.chain 1) (lexT l).1)) else ([], (lexT l).2.2)
end Go.Proofs.YtloamahbghjjgaaGreatDoor
