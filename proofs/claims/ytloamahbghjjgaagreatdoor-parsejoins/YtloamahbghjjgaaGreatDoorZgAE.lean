/- Plain: the tree of a formula as nodes; its nesting, its arguments. -/
import Derived.BigQuiet
import Derived.Deep.CutBlock
import Derived.Deep.CutRange
import Derived.Deep.DeepFit
import Derived.Deep.QuietTactic
import Derived.Laws.Bits64b
import Derived.Laws.IdiomStrings
import Derived.Laws.Rows
import Derived.Lib.Atoi
import Derived.Lib.BitFns
import Derived.Lib.CutLaws
import Derived.Lib.IndexMore
import Derived.Lib.ItoaMem
import Derived.Lib.ItoaNum
import Derived.Lib.Join
import Derived.Lib.Replace
import Derived.Lib.Walk
import Derived.Shelf.Bits.Mul64
import Derived.Shelf.LaysM
import Derived.Shelf.Small.Bits
import Derived.Shelf.Small.Strs
import Derived.Shelf.Small.Utf8
import Derived.Shelf.Small.Wraps
import Derived.Shelf.Strconv.Atoi
import Derived.Shelf.Strconv.Itoa0
import Derived.Shelf.Strconv.Itoa1
import Derived.Shelf.Strconv.Itoa2
import Derived.Shelf.Strconv.Itoa3
import Derived.Shelf.Strings.AsciiSet
import Derived.Shelf.Strings.Builder1
import Derived.Shelf.Strings.Builder2
import Derived.Shelf.Strings.Count
import Derived.Shelf.Strings.Cut
import Derived.Shelf.Strings.OnBuilder
import Derived.Shelf.Strings.Prefix
import Derived.Shelf.Strings.Replace
import Derived.Shelf.Strings.Runes
import Derived.Shelf.Strings.Search1
import Derived.Shelf.Strings.Search2
import Derived.Shelf.Strings.Search3
import Derived.Shelf.Strings.Shaped
import Derived.Shelf.Strings.Split
import Derived.Shelf.Strings.SplitShaped
import Derived.Shelf.Strings.Trim
import Derived.Shelf.Unicode.DecodeSlow
import Derived.Test.YtloamahbghjjgaaGreatDoorProg
import Derived.Test.YtloamahbghjjgaaGreatDoorRows
import Derived.WalkKit
import Derived.WalkLawsBesides
import Derived.WalkSmall
import Derived.WalkSpells
import Derived.Test.YtloamahbghjjgaaGreatDoorZgAA
import Derived.Test.YtloamahbghjjgaaGreatDoorZgAB
import Derived.Test.YtloamahbghjjgaaGreatDoorZgAC
import Derived.Test.YtloamahbghjjgaaGreatDoorZgAD
namespace Go.Proofs.YtloamahbghjjgaaGreatDoor

structure Nd where
  kind : Int
  op : ByteArray
  val : Vl
  ref : Fl
  kids : List Int
def zVl : Vl := ⟨0, 0, noText, false, 0⟩
def litV (t : Tk) : Vl :=
  if t.kind = 0 then vN t.num
  else if t.kind = 1 then vT t.text
  else if t.kind = 2 then vE t.fail
  else if t.text.data.toList = [84, 82, 85, 69] then vB true
  else if t.text.data.toList = [70, 65, 76, 83, 69] then vB false
  else vE 5
def atomN (t : Tk) : Nd := if t.kind = 3 then ⟨1, emp, zVl, t.ref, []⟩ else ⟨0, emp, litV t, zeroF, []⟩
def callN (t : Tk) (ks : List Nat) : Nd := ⟨5, t.text, zVl, zeroF, ks.map fun k : Nat => (k : Int)⟩
def negN (k : Nat) : Nd := ⟨2, emp, zVl, zeroF, [(k : Int)]⟩
def pctN (k : Nat) : Nd := ⟨3, emp, zVl, zeroF, [(k : Int)]⟩
def binN (t : Tk) (a b : Nat) : Nd := ⟨4, t.text, zVl, zeroF, [(a : Int), (b : Int)]⟩
def Syn.size : Syn → Nat
  | ⟨.inl _⟩ => 1
  | ⟨.inr (.inl (_, s, _))⟩ => s.size
  | ⟨.inr (.inr (.inl (_, _, l, _)))⟩ => l.size + 1
  | ⟨.inr (.inr (.inr (.inl (t, s))))⟩ => if minusB t = true then s.size + 1 else s.size
  | ⟨.inr (.inr (.inr (.inr (.inl (s, _)))))⟩ => s.size + 1
  | ⟨.inr (.inr (.inr (.inr (.inr (.inl (a, _, b))))))⟩ => a.size + b.size + 1
  | ⟨.inr (.inr (.inr (.inr (.inr (.inr (.inl ()))))))⟩ => 0
  | ⟨.inr (.inr (.inr (.inr (.inr (.inr (.inr (.inl s)))))))⟩ => s.size
  | ⟨.inr (.inr (.inr (.inr (.inr (.inr (.inr (.inr ((l, _, s)))))))))⟩ => l.size + s.size
def Syn.kidsL : Nat → Syn → List Nat
  | _, ⟨.inr (.inr (.inr (.inr (.inr (.inr (.inl ()))))))⟩ => []
  | b, ⟨.inr (.inr (.inr (.inr (.inr (.inr (.inr (.inl s)))))))⟩ => [b + s.size - 1]
  | b, ⟨.inr (.inr (.inr (.inr (.inr (.inr (.inr (.inr ((l, _, s)))))))))⟩ => l.kidsL b ++ [b + l.size + s.size - 1]
  | _, _ => []
def Syn.emit : Nat → Syn → List Nd
  | _, ⟨.inl t⟩ => [atomN t]
  | b, ⟨.inr (.inl (_, s, _))⟩ => s.emit b
  | b, ⟨.inr (.inr (.inl (t, _, l, _)))⟩ => l.emit b ++ [callN t (l.kidsL b)]
  | b, ⟨.inr (.inr (.inr (.inl (t, s))))⟩ => if minusB t = true then s.emit b ++ [negN (b + s.size - 1)] else s.emit b
  | b, ⟨.inr (.inr (.inr (.inr (.inl (s, _)))))⟩ => s.emit b ++ [pctN (b + s.size - 1)]
  | b, ⟨.inr (.inr (.inr (.inr (.inr (.inl (x, t, y))))))⟩ => x.emit b ++ (y.emit (b + x.size) ++ [binN t (b + x.size - 1) (b + x.size + y.size - 1)])
  | _, ⟨.inr (.inr (.inr (.inr (.inr (.inr (.inl ()))))))⟩ => []
  | b, ⟨.inr (.inr (.inr (.inr (.inr (.inr (.inr (.inl s)))))))⟩ => s.emit b
  | b, ⟨.inr (.inr (.inr (.inr (.inr (.inr (.inr (.inr ((l, _, s)))))))))⟩ => l.emit b ++ s.emit (b + l.size)
def Syn.nest : Syn → Nat
  | ⟨.inl _⟩ => 0
  | ⟨.inr (.inl (_, s, _))⟩ => s.nest + 1
  | ⟨.inr (.inr (.inl (_, _, l, _)))⟩ => l.nest
  | ⟨.inr (.inr (.inr (.inl (_, s))))⟩ => s.nest + 1
  | ⟨.inr (.inr (.inr (.inr (.inl (s, _)))))⟩ => s.nest
  | ⟨.inr (.inr (.inr (.inr (.inr (.inl (a, _, b))))))⟩ => max a.nest b.nest
  | ⟨.inr (.inr (.inr (.inr (.inr (.inr (.inl ()))))))⟩ => 0
  | ⟨.inr (.inr (.inr (.inr (.inr (.inr (.inr (.inl s)))))))⟩ => s.nest + 1
  | ⟨.inr (.inr (.inr (.inr (.inr (.inr (.inr (.inr ((l, _, s)))))))))⟩ => max l.nest (s.nest + 1)
def Syn.most : Syn → Nat
  | ⟨.inl _⟩ => 0
  | ⟨.inr (.inl (_, s, _))⟩ => s.most
  | ⟨.inr (.inr (.inl (_, _, l, _)))⟩ => max l.most (l.kidsL 0).length
  | ⟨.inr (.inr (.inr (.inl (_, s))))⟩ => s.most
  | ⟨.inr (.inr (.inr (.inr (.inl (s, _)))))⟩ => s.most
  | ⟨.inr (.inr (.inr (.inr (.inr (.inl (a, _, b))))))⟩ => max a.most b.most
  | ⟨.inr (.inr (.inr (.inr (.inr (.inr (.inl ()))))))⟩ => 0
  | ⟨.inr (.inr (.inr (.inr (.inr (.inr (.inr (.inl s)))))))⟩ => s.most
  | ⟨.inr (.inr (.inr (.inr (.inr (.inr (.inr (.inr ((l, _, s)))))))))⟩ => max l.most s.most
theorem emit_len : ∀ (s : Syn) (b : Nat), (s.emit b).length = s.size
  | ⟨.inl _⟩, _ => rfl
  | ⟨.inr (.inl (_, s, _))⟩, b => emit_len s b
  | ⟨.inr (.inr (.inl (t, o, l, c)))⟩, b => by simp [Syn.emit, Syn.size, emit_len l b]
  | ⟨.inr (.inr (.inr (.inl (t, s))))⟩, b => by
    simp only [Syn.emit, Syn.size]
    split
    · simp [emit_len s b]
    · exact emit_len s b
  | ⟨.inr (.inr (.inr (.inr (.inl (s, t)))))⟩, b => by simp [Syn.emit, Syn.size, emit_len s b]
  | ⟨.inr (.inr (.inr (.inr (.inr (.inl (x, t, y))))))⟩, b => by simp [Syn.emit, Syn.size, emit_len x b, emit_len y (b + x.size)]; omega
  | ⟨.inr (.inr (.inr (.inr (.inr (.inr (.inl ()))))))⟩, _ => rfl
  | ⟨.inr (.inr (.inr (.inr (.inr (.inr (.inr (.inl s)))))))⟩, b => emit_len s b
  | ⟨.inr (.inr (.inr (.inr (.inr (.inr (.inr (.inr ((l, c, s)))))))))⟩, b => by simp [Syn.emit, Syn.size, emit_len l b, emit_len s (b + l.size)]
theorem kids_len : ∀ (s : Syn) (b : Nat), (s.kidsL b).length = (s.kidsL 0).length
  | ⟨.inr (.inr (.inr (.inr (.inr (.inr (.inl ()))))))⟩, _ => rfl
  | ⟨.inr (.inr (.inr (.inr (.inr (.inr (.inr (.inl _)))))))⟩, _ => rfl
  | ⟨.inr (.inr (.inr (.inr (.inr (.inr (.inr (.inr ((l, c, s)))))))))⟩, b => by simp [Syn.kidsL, kids_len l b]
  | ⟨.inl _⟩, _ => rfl
  | ⟨.inr (.inl (_, _, _))⟩, _ => rfl
  | ⟨.inr (.inr (.inl (_, _, _, _)))⟩, _ => rfl
  | ⟨.inr (.inr (.inr (.inl (_, _))))⟩, _ => rfl
  | ⟨.inr (.inr (.inr (.inr (.inl (_, _)))))⟩, _ => rfl
  | ⟨.inr (.inr (.inr (.inr (.inr (.inl (_, _, _))))))⟩, _ => rfl
theorem size_toks : ∀ s : Syn, s.size ≤ s.toks.length ∧ (s.kidsL 0).length ≤ s.toks.length + 1
  | ⟨.inl _⟩ => by simp [Syn.size, Syn.toks, Syn.kidsL]
  | ⟨.inr (.inl (o, s, c))⟩ => by have := size_toks s; simp [Syn.size, Syn.toks, Syn.kidsL]; omega
  | ⟨.inr (.inr (.inl (t, o, l, c)))⟩ => by have := size_toks l; simp [Syn.size, Syn.toks, Syn.kidsL]; omega
  | ⟨.inr (.inr (.inr (.inl (t, s))))⟩ => by
    have := size_toks s
    simp only [Syn.size, Syn.toks, Syn.kidsL, List.length_cons, List.length_nil]
    split <;> omega
  | ⟨.inr (.inr (.inr (.inr (.inl (s, t)))))⟩ => by have := size_toks s; simp [Syn.size, Syn.toks, Syn.kidsL]; omega
  | ⟨.inr (.inr (.inr (.inr (.inr (.inl (a, t, b))))))⟩ => by have := size_toks a; have := size_toks b; simp [Syn.size, Syn.toks, Syn.kidsL]; omega
  | ⟨.inr (.inr (.inr (.inr (.inr (.inr (.inl ()))))))⟩ => by simp [Syn.size, Syn.toks, Syn.kidsL]
  | ⟨.inr (.inr (.inr (.inr (.inr (.inr (.inr (.inl s)))))))⟩ => by have := size_toks s; simp [Syn.size, Syn.toks, Syn.kidsL]; omega
  | ⟨.inr (.inr (.inr (.inr (.inr (.inr (.inr (.inr ((l, c, s)))))))))⟩ => by have := size_toks l; have := size_toks s; simp [Syn.size, Syn.toks, Syn.kidsL]; omega
theorem size_pos : ∀ {s : Syn} {k : Nat}, s.wf k → k ≤ 8 → 1 ≤ s.size
  | ⟨.inl _⟩, _, _, _ => Nat.le_refl 1
  | ⟨.inr (.inl (o, s, c))⟩, k, h, _ => size_pos (s := s) h.2.2.2 (by omega)
  | ⟨.inr (.inr (.inl (t, o, l, c)))⟩, k, _, _ => by simp [Syn.size]
  | ⟨.inr (.inr (.inr (.inl (t, s))))⟩, k, h, _ => by
    have := size_pos (s := s) h.2.2 (by omega)
    simp only [Syn.size]
    split <;> omega
  | ⟨.inr (.inr (.inr (.inr (.inl (s, t)))))⟩, k, _, _ => by simp [Syn.size]
  | ⟨.inr (.inr (.inr (.inr (.inr (.inl (a, t, b))))))⟩, k, _, _ => by simp [Syn.size]
  | ⟨.inr (.inr (.inr (.inr (.inr (.inr (.inl ()))))))⟩, k, h, hk => by have : k = 9 := h; omega
  | ⟨.inr (.inr (.inr (.inr (.inr (.inr (.inr (.inl s)))))))⟩, k, h, hk => by have := h.1; omega
  | ⟨.inr (.inr (.inr (.inr (.inr (.inr (.inr (.inr ((l, c, s)))))))))⟩, k, h, hk => by have := h.1; omega
theorem most_toks : ∀ s : Syn, s.most ≤ s.toks.length + 1
  | ⟨.inl _⟩ => by simp [Syn.most]
  | ⟨.inr (.inl (o, s, c))⟩ => by have := most_toks s; simp [Syn.most, Syn.toks]; omega
  | ⟨.inr (.inr (.inl (t, o, l, c)))⟩ => by have := most_toks l; have := (size_toks l).2; simp [Syn.most, Syn.toks]; omega
  | ⟨.inr (.inr (.inr (.inl (t, s))))⟩ => by have := most_toks s; simp [Syn.most, Syn.toks]; omega
  | ⟨.inr (.inr (.inr (.inr (.inl (s, t)))))⟩ => by have := most_toks s; simp [Syn.most, Syn.toks]; omega
  | ⟨.inr (.inr (.inr (.inr (.inr (.inl (a, t, b))))))⟩ => by have := most_toks a; have := most_toks b; simp [Syn.most, Syn.toks]; omega
  | ⟨.inr (.inr (.inr (.inr (.inr (.inr (.inl ()))))))⟩ => by simp [Syn.most]
  | ⟨.inr (.inr (.inr (.inr (.inr (.inr (.inr (.inl s)))))))⟩ => by have := most_toks s; simp [Syn.most, Syn.toks]; omega
  | ⟨.inr (.inr (.inr (.inr (.inr (.inr (.inr (.inr ((l, c, s)))))))))⟩ => by have := most_toks l; have := most_toks s; simp [Syn.most, Syn.toks]; omega
theorem nest_toks : ∀ {s : Syn} {k : Nat}, s.wf k → s.nest ≤ s.toks.length + 1 ∧ (k ≤ 8 → s.nest ≤ s.toks.length)
  | ⟨.inl _⟩, _, _ => by simp [Syn.nest]
  | ⟨.inr (.inl (o, s, c))⟩, k, h => by have := (nest_toks (s := s) h.2.2.2).2 (by omega); simp [Syn.nest, Syn.toks]; omega
  | ⟨.inr (.inr (.inl (t, o, l, c)))⟩, k, h => by have := (nest_toks (s := l) h.2.2.2.2).1; simp [Syn.nest, Syn.toks]; omega
  | ⟨.inr (.inr (.inr (.inl (t, s))))⟩, k, h => by have := (nest_toks (s := s) h.2.2).2 (by omega); simp [Syn.nest, Syn.toks]; omega
  | ⟨.inr (.inr (.inr (.inr (.inl (s, t)))))⟩, k, h => by have := (nest_toks (s := s) h.2.2).2 (by omega); simp [Syn.nest, Syn.toks]; omega
  | ⟨.inr (.inr (.inr (.inr (.inr (.inl (a, t, b))))))⟩, k, h => by
    have h5 := line_le t
    have := (nest_toks (s := a) h.2.2.1).2 (by omega)
    have := (nest_toks (s := b) h.2.2.2).2 (by omega)
    simp [Syn.nest, Syn.toks]; omega
  | ⟨.inr (.inr (.inr (.inr (.inr (.inr (.inl ()))))))⟩, _, _ => by simp [Syn.nest]
  | ⟨.inr (.inr (.inr (.inr (.inr (.inr (.inr (.inl s)))))))⟩, k, h => by have := (nest_toks (s := s) h.2).2 (by omega); have := h.1; simp [Syn.nest, Syn.toks]; omega
  | ⟨.inr (.inr (.inr (.inr (.inr (.inr (.inr (.inr ((l, c, s)))))))))⟩, k, h => by
    have := (nest_toks (s := l) h.2.1).1
    have := (nest_toks (s := s) h.2.2.2.2).2 (by omega)
    have := h.1
    simp [Syn.nest, Syn.toks]; omega
def parseS (o : Option Syn) : List Nd × Int :=
  match o with
  | none => ([], 4)
  | some s => if 32 < s.nest then ([], 8) else if 32 < s.most then ([], 7) else if 256 < s.size then ([], 10) else (s.emit 0, 0)
def wholeO (r : Rs) : Option Syn := match r with | some (s, []) => some s | _ => none
def parseL (l : List UInt8) : List Nd × Int := if (lexT l).2.2 = 0 then parseS (wholeO (rd (.chain 1) (lexT l).1)) else ([], (lexT l).2.2)
end Go.Proofs.YtloamahbghjjgaaGreatDoor

namespace Go.Proofs.YtloamahbghjjgaaGreatDoor

def Syn.mp (f : Tk → Tk) : Syn → Syn
  | ⟨.inl t⟩ => .atom (f t)
  | ⟨.inr (.inl (o, s, c))⟩ => .par (f o) (s.mp f) (f c)
  | ⟨.inr (.inr (.inl (t, o, l, c)))⟩ => .call (f t) (f o) (l.mp f) (f c)
  | ⟨.inr (.inr (.inr (.inl (t, s))))⟩ => .sign (f t) (s.mp f)
  | ⟨.inr (.inr (.inr (.inr (.inl (s, t)))))⟩ => .pct (s.mp f) (f t)
  | ⟨.inr (.inr (.inr (.inr (.inr (.inl (a, t, b))))))⟩ => .bin (a.mp f) (f t) (b.mp f)
  | ⟨.inr (.inr (.inr (.inr (.inr (.inr (.inl ()))))))⟩ => .nil
  | ⟨.inr (.inr (.inr (.inr (.inr (.inr (.inr (.inl s)))))))⟩ => .first (s.mp f)
  | ⟨.inr (.inr (.inr (.inr (.inr (.inr (.inr (.inr ((l, c, s)))))))))⟩ => .snoc (l.mp f) (f c) (s.mp f)
theorem mp_toks (f : Tk → Tk) : ∀ s : Syn, (s.mp f).toks = s.toks.map f
  | ⟨.inl t⟩ => rfl
  | ⟨.inr (.inl (o, s, c))⟩ => by simp [Syn.mp, Syn.toks, mp_toks f s]
  | ⟨.inr (.inr (.inl (t, o, l, c)))⟩ => by simp [Syn.mp, Syn.toks, mp_toks f l]
  | ⟨.inr (.inr (.inr (.inl (t, s))))⟩ => by simp [Syn.mp, Syn.toks, mp_toks f s]
  | ⟨.inr (.inr (.inr (.inr (.inl (s, t)))))⟩ => by simp [Syn.mp, Syn.toks, mp_toks f s]
  | ⟨.inr (.inr (.inr (.inr (.inr (.inl (a, t, b))))))⟩ => by simp [Syn.mp, Syn.toks, mp_toks f a, mp_toks f b]
  | ⟨.inr (.inr (.inr (.inr (.inr (.inr (.inl ()))))))⟩ => rfl
  | ⟨.inr (.inr (.inr (.inr (.inr (.inr (.inr (.inl s)))))))⟩ => by simp [Syn.mp, Syn.toks, mp_toks f s]
  | ⟨.inr (.inr (.inr (.inr (.inr (.inr (.inr (.inr ((l, c, s)))))))))⟩ => by simp [Syn.mp, Syn.toks, mp_toks f l, mp_toks f s]
theorem mp_mp (f g : Tk → Tk) : ∀ s : Syn, (s.mp f).mp g = s.mp (fun t => g (f t))
  | ⟨.inl t⟩ => rfl
  | ⟨.inr (.inl (o, s, c))⟩ => by simp [Syn.mp, mp_mp f g s]
  | ⟨.inr (.inr (.inl (t, o, l, c)))⟩ => by simp [Syn.mp, mp_mp f g l]
  | ⟨.inr (.inr (.inr (.inl (t, s))))⟩ => by simp [Syn.mp, mp_mp f g s]
  | ⟨.inr (.inr (.inr (.inr (.inl (s, t)))))⟩ => by simp [Syn.mp, mp_mp f g s]
  | ⟨.inr (.inr (.inr (.inr (.inr (.inl (a, t, b))))))⟩ => by simp [Syn.mp, mp_mp f g a, mp_mp f g b]
  | ⟨.inr (.inr (.inr (.inr (.inr (.inr (.inl ()))))))⟩ => rfl
  | ⟨.inr (.inr (.inr (.inr (.inr (.inr (.inr (.inl s)))))))⟩ => by simp [Syn.mp, mp_mp f g s]
  | ⟨.inr (.inr (.inr (.inr (.inr (.inr (.inr (.inr ((l, c, s)))))))))⟩ => by simp [Syn.mp, mp_mp f g l, mp_mp f g s]
def pl0 (t : Tk) : Tk := t.put 0
abbrev Syn.bare (s : Syn) : Syn := s.mp pl0
theorem bare_nil : ∀ {s : Syn}, s.bare = .nil ↔ s = .nil
  | ⟨.inl _⟩ => by simp [Syn.bare, Syn.mp]
  | ⟨.inr (.inl (_, _, _))⟩ => by simp [Syn.bare, Syn.mp]
  | ⟨.inr (.inr (.inl (_, _, _, _)))⟩ => by simp [Syn.bare, Syn.mp]
  | ⟨.inr (.inr (.inr (.inl (_, _))))⟩ => by simp [Syn.bare, Syn.mp]
  | ⟨.inr (.inr (.inr (.inr (.inl (_, _)))))⟩ => by simp [Syn.bare, Syn.mp]
  | ⟨.inr (.inr (.inr (.inr (.inr (.inl (_, _, _))))))⟩ => by simp [Syn.bare, Syn.mp]
  | ⟨.inr (.inr (.inr (.inr (.inr (.inr (.inl ()))))))⟩ => by simp [Syn.bare, Syn.mp]
  | ⟨.inr (.inr (.inr (.inr (.inr (.inr (.inr (.inl _)))))))⟩ => by simp [Syn.bare, Syn.mp]
  | ⟨.inr (.inr (.inr (.inr (.inr (.inr (.inr (.inr ((_, _, _)))))))))⟩ => by simp [Syn.bare, Syn.mp]
theorem bare_wf : ∀ (s : Syn) (k : Nat), s.bare.wf k ↔ s.wf k
  | ⟨.inl t⟩, k => Iff.rfl
  | ⟨.inr (.inl (o, s, c))⟩, k => by
    have := bare_wf s 1
    show (k ≤ 8 ∧ o.kind = 6 ∧ c.kind = 7 ∧ s.bare.wf 1) ↔ (k ≤ 8 ∧ o.kind = 6 ∧ c.kind = 7 ∧ s.wf 1)
    rw [this]
  | ⟨.inr (.inr (.inl (t, o, l, c)))⟩, k => by
    have := bare_wf l 9
    show (k ≤ 8 ∧ t.kind = 4 ∧ o.kind = 6 ∧ c.kind = 7 ∧ l.bare.wf 9) ↔ (k ≤ 8 ∧ t.kind = 4 ∧ o.kind = 6 ∧ c.kind = 7 ∧ l.wf 9)
    rw [this]
  | ⟨.inr (.inr (.inr (.inl (t, s))))⟩, k => by
    have := bare_wf s 6
    show (k ≤ 6 ∧ signB t = true ∧ s.bare.wf 6) ↔ (k ≤ 6 ∧ signB t = true ∧ s.wf 6)
    rw [this]
  | ⟨.inr (.inr (.inr (.inr (.inl (s, t)))))⟩, k => by
    have := bare_wf s 7
    show (k ≤ 7 ∧ pctB t = true ∧ s.bare.wf 7) ↔ (k ≤ 7 ∧ pctB t = true ∧ s.wf 7)
    rw [this]
  | ⟨.inr (.inr (.inr (.inr (.inr (.inl (a, t, b))))))⟩, k => by
    have h1 := bare_wf a (lineT t)
    have h2 := bare_wf b (lineT t + 1)
    show (k ≤ lineT t ∧ 1 ≤ lineT t ∧ a.bare.wf (lineT t) ∧ b.bare.wf (lineT t + 1)) ↔ (k ≤ lineT t ∧ 1 ≤ lineT t ∧ a.wf (lineT t) ∧ b.wf (lineT t + 1))
    rw [h1, h2]
  | ⟨.inr (.inr (.inr (.inr (.inr (.inr (.inl ()))))))⟩, k => Iff.rfl
  | ⟨.inr (.inr (.inr (.inr (.inr (.inr (.inr (.inl s)))))))⟩, k => by
    have := bare_wf s 1
    show (k = 9 ∧ s.bare.wf 1) ↔ (k = 9 ∧ s.wf 1)
    rw [this]
  | ⟨.inr (.inr (.inr (.inr (.inr (.inr (.inr (.inr ((l, c, s)))))))))⟩, k => by
    have h1 := bare_wf l 9
    have h2 := bare_wf s 1
    show (k = 9 ∧ l.bare.wf 9 ∧ l.bare ≠ .nil ∧ c.kind = 8 ∧ s.bare.wf 1) ↔ (k = 9 ∧ l.wf 9 ∧ l ≠ .nil ∧ c.kind = 8 ∧ s.wf 1)
    rw [h1, h2, Ne, bare_nil]
theorem bare_size : ∀ s : Syn, s.bare.size = s.size
  | ⟨.inl _⟩ => rfl
  | ⟨.inr (.inl (_, s, _))⟩ => bare_size s
  | ⟨.inr (.inr (.inl (_, _, l, _)))⟩ => by have := bare_size l; show l.bare.size + 1 = l.size + 1; rw [this]
  | ⟨.inr (.inr (.inr (.inl (t, s))))⟩ => by have := bare_size s; show (if minusB t = true then s.bare.size + 1 else s.bare.size) = if minusB t = true then s.size + 1 else s.size; rw [this]
  | ⟨.inr (.inr (.inr (.inr (.inl (s, _)))))⟩ => by have := bare_size s; show s.bare.size + 1 = s.size + 1; rw [this]
  | ⟨.inr (.inr (.inr (.inr (.inr (.inl (a, _, b))))))⟩ => by have h1 := bare_size a; have h2 := bare_size b; show a.bare.size + b.bare.size + 1 = a.size + b.size + 1; rw [h1, h2]
  | ⟨.inr (.inr (.inr (.inr (.inr (.inr (.inl ()))))))⟩ => rfl
  | ⟨.inr (.inr (.inr (.inr (.inr (.inr (.inr (.inl s)))))))⟩ => bare_size s
  | ⟨.inr (.inr (.inr (.inr (.inr (.inr (.inr (.inr ((l, _, s)))))))))⟩ => by have h1 := bare_size l; have h2 := bare_size s; show l.bare.size + s.bare.size = l.size + s.size; rw [h1, h2]
theorem bare_kids : ∀ (s : Syn) (b : Nat), s.bare.kidsL b = s.kidsL b
  | ⟨.inr (.inr (.inr (.inr (.inr (.inr (.inl ()))))))⟩, _ => rfl
  | ⟨.inr (.inr (.inr (.inr (.inr (.inr (.inr (.inl s)))))))⟩, b => by have := bare_size s; show [b + s.bare.size - 1] = [b + s.size - 1]; rw [this]
  | ⟨.inr (.inr (.inr (.inr (.inr (.inr (.inr (.inr ((l, c, s)))))))))⟩, b => by
    have h1 := bare_kids l b
    have h2 := bare_size l
    have h3 := bare_size s
    show l.bare.kidsL b ++ [b + l.bare.size + s.bare.size - 1] = l.kidsL b ++ [b + l.size + s.size - 1]
    rw [h1, h2, h3]
  | ⟨.inl _⟩, _ => rfl
  | ⟨.inr (.inl (_, _, _))⟩, _ => rfl
  | ⟨.inr (.inr (.inl (_, _, _, _)))⟩, _ => rfl
  | ⟨.inr (.inr (.inr (.inl (_, _))))⟩, _ => rfl
  | ⟨.inr (.inr (.inr (.inr (.inl (_, _)))))⟩, _ => rfl
  | ⟨.inr (.inr (.inr (.inr (.inr (.inl (_, _, _))))))⟩, _ => rfl
theorem bare_nest : ∀ s : Syn, s.bare.nest = s.nest
  | ⟨.inl _⟩ => rfl
  | ⟨.inr (.inl (_, s, _))⟩ => by have := bare_nest s; show s.bare.nest + 1 = s.nest + 1; rw [this]
  | ⟨.inr (.inr (.inl (_, _, l, _)))⟩ => bare_nest l
  | ⟨.inr (.inr (.inr (.inl (_, s))))⟩ => by have := bare_nest s; show s.bare.nest + 1 = s.nest + 1; rw [this]
  | ⟨.inr (.inr (.inr (.inr (.inl (s, _)))))⟩ => bare_nest s
  | ⟨.inr (.inr (.inr (.inr (.inr (.inl (a, _, b))))))⟩ => by have h1 := bare_nest a; have h2 := bare_nest b; show max a.bare.nest b.bare.nest = max a.nest b.nest; rw [h1, h2]
  | ⟨.inr (.inr (.inr (.inr (.inr (.inr (.inl ()))))))⟩ => rfl
  | ⟨.inr (.inr (.inr (.inr (.inr (.inr (.inr (.inl s)))))))⟩ => by have := bare_nest s; show s.bare.nest + 1 = s.nest + 1; rw [this]
  | ⟨.inr (.inr (.inr (.inr (.inr (.inr (.inr (.inr ((l, _, s)))))))))⟩ => by have h1 := bare_nest l; have h2 := bare_nest s; show max l.bare.nest (s.bare.nest + 1) = max l.nest (s.nest + 1); rw [h1, h2]
theorem bare_most : ∀ s : Syn, s.bare.most = s.most
  | ⟨.inl _⟩ => rfl
  | ⟨.inr (.inl (_, s, _))⟩ => bare_most s
  | ⟨.inr (.inr (.inl (_, _, l, _)))⟩ => by have h1 := bare_most l; have h2 := bare_kids l 0; show max l.bare.most (l.bare.kidsL 0).length = max l.most (l.kidsL 0).length; rw [h1, h2]
  | ⟨.inr (.inr (.inr (.inl (_, s))))⟩ => bare_most s
  | ⟨.inr (.inr (.inr (.inr (.inl (s, _)))))⟩ => bare_most s
  | ⟨.inr (.inr (.inr (.inr (.inr (.inl (a, _, b))))))⟩ => by have h1 := bare_most a; have h2 := bare_most b; show max a.bare.most b.bare.most = max a.most b.most; rw [h1, h2]
  | ⟨.inr (.inr (.inr (.inr (.inr (.inr (.inl ()))))))⟩ => rfl
  | ⟨.inr (.inr (.inr (.inr (.inr (.inr (.inr (.inl s)))))))⟩ => bare_most s
  | ⟨.inr (.inr (.inr (.inr (.inr (.inr (.inr (.inr ((l, _, s)))))))))⟩ => by have h1 := bare_most l; have h2 := bare_most s; show max l.bare.most s.bare.most = max l.most s.most; rw [h1, h2]
theorem bare_emit : ∀ (s : Syn) (b : Nat), s.bare.emit b = s.emit b
  | ⟨.inl _⟩, _ => rfl
  | ⟨.inr (.inl (_, s, _))⟩, b => bare_emit s b
  | ⟨.inr (.inr (.inl (t, _, l, _)))⟩, b => by have h1 := bare_emit l b; have h2 := bare_kids l b; show l.bare.emit b ++ [callN t (l.bare.kidsL b)] = l.emit b ++ [callN t (l.kidsL b)]; rw [h1, h2]
  | ⟨.inr (.inr (.inr (.inl (t, s))))⟩, b => by
    have h1 := bare_emit s b; have h2 := bare_size s
    show (if minusB t = true then s.bare.emit b ++ [negN (b + s.bare.size - 1)] else s.bare.emit b) = if minusB t = true then s.emit b ++ [negN (b + s.size - 1)] else s.emit b
    rw [h1, h2]
  | ⟨.inr (.inr (.inr (.inr (.inl (s, _)))))⟩, b => by have h1 := bare_emit s b; have h2 := bare_size s; show s.bare.emit b ++ [pctN (b + s.bare.size - 1)] = s.emit b ++ [pctN (b + s.size - 1)]; rw [h1, h2]
  | ⟨.inr (.inr (.inr (.inr (.inr (.inl (x, t, y))))))⟩, b => by
    have h1 := bare_emit x b; have h2 := bare_size x; have h3 := bare_size y
    have h4 := bare_emit y (b + x.size)
    show x.bare.emit b ++ (y.bare.emit (b + x.bare.size) ++ [binN t (b + x.bare.size - 1) (b + x.bare.size + y.bare.size - 1)]) = x.emit b ++ (y.emit (b + x.size) ++ [binN t (b + x.size - 1) (b + x.size + y.size - 1)])
    rw [h1, h2, h3, h4]
  | ⟨.inr (.inr (.inr (.inr (.inr (.inr (.inl ()))))))⟩, _ => rfl
  | ⟨.inr (.inr (.inr (.inr (.inr (.inr (.inr (.inl s)))))))⟩, b => bare_emit s b
  | ⟨.inr (.inr (.inr (.inr (.inr (.inr (.inr (.inr ((l, _, s)))))))))⟩, b => by
    have h1 := bare_emit l b; have h2 := bare_size l; have h3 := bare_emit s (b + l.size)
    show l.bare.emit b ++ s.bare.emit (b + l.bare.size) = l.emit b ++ s.emit (b + l.size)
    rw [h1, h2, h3]
theorem bare_parse (s : Syn) : parseS (some s.bare) = parseS (some s) := by
  unfold parseS
  simp only [bare_nest, bare_most, bare_size, bare_emit]
def Fm (l : List UInt8) (z : Syn) : Prop := ∀ o, ∃ y : Syn, lexL o l = (y.toks, 0, 0) ∧ y.bare = z
def Fc (l : List UInt8) (z : Syn) : Prop := ∀ o x, ∃ y : Syn, lexL o (l ++ x) = preT y.toks (lexL (o + l.length) x) ∧ y.bare = z
theorem preT_empty (ts : List Tk) : preT ts ([], 0, 0) = (ts, 0, 0) := by rw [pre_lex, List.append_nil]
theorem fm_of {l : List UInt8} {z : Syn} (h : Fc l z) : Fm l z := fun o => by
  obtain ⟨y, h1, h2⟩ := h o []
  rw [List.append_nil, lexL_nil, preT_empty] at h1
  exact ⟨y, h1, h2⟩
theorem fm_tail {l : List UInt8} {z : Syn} (h : Fm l z) (x : List UInt8) (hx : TailOk x) (o : Nat) : ∃ y : Syn, lexL o (l ++ x) = preT y.toks (lexL (o + l.length) x) ∧ y.bare = z := by
  obtain ⟨y, h1, h2⟩ := h o
  exact ⟨y, by rw [lex_app x hx o l (by rw [h1]), h1], h2⟩
theorem fm_parse {l : List UInt8} {z : Syn} (h : Fm l z) (hw : z.wf 1) (hl : l.length ≤ 512) : parseL l = parseS (some z) := by
  obtain ⟨y, h1, h2⟩ := h 0
  subst h2
  have e : lexT l = (y.toks, 0, 0) := by unfold lexT; rw [if_neg (by omega), h1]
  unfold parseL
  rw [e, if_pos rfl, bare_parse, rd_back ((bare_wf _ _).1 hw)]
  rfl
theorem shift_bare (k : Nat) (s : Syn) : (s.mp (shiftT k)).bare = s.bare := by
  unfold Syn.bare
  rw [mp_mp]; rfl
theorem fm_get {l : List UInt8} {nds : List Nd} (h : parseL l = (nds, 0)) : ∃ z : Syn, Fm l z ∧ z.wf 1 ∧ z.nest ≤ 32 ∧ z.most ≤ 32 ∧ z.size ≤ 256 ∧ nds = z.emit 0 ∧ l.length ≤ 512 := by
  unfold parseL at h
  by_cases h0 : (lexT l).2.2 = 0
  · rw [if_pos h0] at h
    cases hr : wholeO (rd (.chain 1) (lexT l).1) with
    | none => rw [hr] at h; cases h
    | some y =>
      rw [hr] at h
      have hw : y.wf 1 ∧ y.toks = (lexT l).1 := by
        unfold wholeO at hr
        split at hr
        · next s e =>
          cases hr
          refine ⟨rd_wf e (by unfold Md.ok; omega), ?_⟩
          have := rd_toks e
          rw [List.append_nil] at this
          exact this.symm
        · cases hr
      have hl : l.length ≤ 512 := by
        by_cases hl : 512 < l.length
        · unfold lexT at h0; rw [if_pos hl] at h0; cases h0
        · omega
      have hX : lexT l = lexL 0 l := by unfold lexT; rw [if_neg (by omega)]
      have hz := lexL_zero 0 l (by rw [← hX]; exact h0)
      have hq : lexL 0 l = (y.toks, 0, 0) := by
        rw [hw.2, hX]
        rw [hX] at h0
        generalize lexL 0 l = q at h0 hz
        obtain ⟨a, b, c⟩ := q
        simp only [] at h0 hz
        subst h0; subst hz; rfl
      have hn : y.nest ≤ 32 := by
        by_cases hc : 32 < y.nest
        · unfold parseS at h; simp only [] at h; rw [if_pos hc] at h; cases h
        · omega
      have hm : y.most ≤ 32 := by
        by_cases hc : 32 < y.most
        · unfold parseS at h; simp only [] at h; rw [if_neg (by omega), if_pos hc] at h; cases h
        · omega
      have hs : y.size ≤ 256 := by
        by_cases hc : 256 < y.size
        · unfold parseS at h; simp only [] at h; rw [if_neg (by omega), if_neg (by omega), if_pos hc] at h; cases h
        · omega
      refine ⟨y.bare, fun o => ⟨y.mp (shiftT o), ?_, shift_bare o y⟩, (bare_wf _ _).2 hw.1, by rw [bare_nest]; exact hn, by rw [bare_most]; exact hm, by rw [bare_size]; exact hs, ?_, hl⟩
      · have := lex_shift o 0 l
        rw [Nat.zero_add] at this
        rw [this, hq, mp_toks]
        unfold shiftX; rfl
      · unfold parseS at h
        simp only [] at h
        rw [if_neg (by omega), if_neg (by omega), if_neg (by omega)] at h
        cases h
        rw [bare_emit]
  · rw [if_neg h0] at h
    exact absurd (congrArg Prod.snd h) h0
theorem lex_one (o n : Nat) (c : UInt8) (l : List UInt8) (t : Tk) (hc : c ≠ 32) (h : tok1 (c :: l) = (t, n + 1, 0)) : lexL o (c :: l) = preT [t.put o] (lexL (o + (n + 1)) (l.drop n)) := by
  rw [lexL_ok o c l hc (by rw [h]), h]; rfl
def oT : Tk := ⟨6, emp, 0, 0, zeroF, 0⟩
def cT : Tk := ⟨7, emp, 0, 0, zeroF, 0⟩
def commaT : Tk := ⟨8, emp, 0, 0, zeroF, 0⟩
def opT (l : List UInt8) : Tk := ⟨5, ⟨l.toArray⟩, 0, 0, zeroF, 0⟩
def fT : Tk := ⟨4, ⟨#[70]⟩, 0, 0, zeroF, 0⟩
def oneT : Tk := ⟨0, emp, 10000, 0, zeroF, 0⟩
theorem tok_open (l : List UInt8) : tok1 (40 :: l) = (oT, 1, 0) := by
  unfold tok1
  rw [show (40 :: l).headD 0 = 40 from rfl, if_neg (by decide), if_neg (by decide), if_neg (by decide), if_neg (by decide), if_neg (by decide), if_pos rfl]; rfl
theorem tok_close (l : List UInt8) : tok1 (41 :: l) = (cT, 1, 0) := by
  unfold tok1
  rw [show (41 :: l).headD 0 = 41 from rfl, if_neg (by decide), if_neg (by decide), if_neg (by decide), if_neg (by decide), if_neg (by decide), if_neg (by decide), if_pos rfl]; rfl
theorem tok_comma (l : List UInt8) : tok1 (44 :: l) = (commaT, 1, 0) := by
  unfold tok1
  rw [show (44 :: l).headD 0 = 44 from rfl, if_neg (by decide), if_neg (by decide), if_neg (by decide), if_neg (by decide), if_neg (by decide), if_neg (by decide), if_neg (by decide), if_pos rfl]; rfl
theorem tok_op (c : UInt8) (l : List UInt8) (h1 : isDg c = false) (h2 : headC c = false) (h3 : opC c = true) : tok1 (c :: l) = opTok (c :: l) := by
  unfold tok1
  rw [show (c :: l).headD 0 = c from rfl, if_neg (by rw [h1]; decide), if_neg (by rw [h2]; decide), if_pos h3]
theorem tok_plus (l : List UInt8) : tok1 (43 :: l) = (opT [43], 1, 0) := by
  rw [tok_op 43 l rfl rfl rfl]
  have e : opN (43 :: l) = 1 := by
    unfold opN
    cases l with
    | nil => rfl
    | cons d l => rw [if_neg]; simp [twoB]
  unfold opTok
  rw [e]; rfl
theorem tok_minus (l : List UInt8) : tok1 (45 :: l) = (opT [45], 1, 0) := by
  rw [tok_op 45 l rfl rfl rfl]
  have e : opN (45 :: l) = 1 := by
    unfold opN
    cases l with
    | nil => rfl
    | cons d l => rw [if_neg]; simp [twoB]
  unfold opTok
  rw [e]; rfl
theorem tok_f (l : List UInt8) : tok1 (102 :: 40 :: l) = (fT, 1, 0) := by
  unfold tok1
  rw [show (102 :: 40 :: l).headD 0 = 102 from rfl, if_neg (by decide), if_pos (by decide)]
  unfold nameTok
  have e : runR (102 :: 40 :: l) = [102] := by
    unfold runR
    rw [List.takeWhile_cons, if_pos (by decide), List.takeWhile_cons, if_neg (by decide)]
  have e2 : callB (102 :: 40 :: l) = true := by
    unfold callB
    rw [List.dropWhile_cons, if_pos (by decide), List.dropWhile_cons, if_neg (by decide)]
    unfold unbl
    rw [List.dropWhile_cons, if_neg (by decide)]; rfl
  have e3 : (nameG [102] && true) = true := by kernel_rfl
  rw [e, e2, if_pos e3]
  first | done | rfl
theorem fm_one : Fm [49] (.atom oneT) := fun o => by
  refine ⟨.atom (oneT.put o), ?_, rfl⟩
  have e : tok1 [49] = (oneT, 1, 0) := by kernel_rfl
  rw [lex_one o 0 49 [] oneT (by decide) e]
  show preT [oneT.put o] (lexL (o + 1) []) = _
  rw [lexL_nil, preT_empty]; rfl
theorem drop0 (l : List UInt8) : l.drop 0 = l := rfl
theorem fc_par {l : List UInt8} {z : Syn} (h : Fm l z) : Fc (40 :: (l ++ [41])) (.par oT z cT) := fun o x => by
  obtain ⟨y, h1, h2⟩ := fm_tail h (41 :: x) (Or.inr ⟨41, x, rfl, Or.inr (Or.inl rfl)⟩) (o + 1)
  refine ⟨.par (oT.put o) y (cT.put ((o + 1 + l.length : Nat) : Int)), ?_, by rw [← h2]; rfl⟩
  rw [show 40 :: (l ++ [41]) ++ x = 40 :: (l ++ 41 :: x) by simp, lex_one o 0 40 _ oT (by decide) (tok_open _), drop0, h1, lex_one (o + 1 + l.length) 0 41 x cT (by decide) (tok_close _), drop0, preT_pre, preT_pre]
  rw [show o + 1 + l.length + (0 + 1) = o + (40 :: (l ++ [41])).length by simp; omega]
  simp [Syn.toks]
theorem fm_plus {l : List UInt8} {z : Syn} (h : Fm l z) : Fm (43 :: l) (.sign (opT [43]) z) := fun o => by
  obtain ⟨y, h1, h2⟩ := h (o + 1)
  refine ⟨.sign ((opT [43]).put o) y, ?_, by rw [← h2]; rfl⟩
  rw [lex_one o 0 43 _ _ (by decide) (tok_plus _), drop0, h1, pre_lex]; rfl
theorem fm_minus {l : List UInt8} {z : Syn} (h : Fm l z) : Fm (45 :: l) (.sign (opT [45]) z) := fun o => by
  obtain ⟨y, h1, h2⟩ := h (o + 1)
  refine ⟨.sign ((opT [45]).put o) y, ?_, by rw [← h2]; rfl⟩
  rw [lex_one o 0 45 _ _ (by decide) (tok_minus _), drop0, h1, pre_lex]; rfl
theorem fm_call {l : List UInt8} {z : Syn} (h : Fm l z) : Fm (102 :: 40 :: (l ++ [41])) (.call fT oT z cT) := fun o => by
  obtain ⟨y, h1, h2⟩ := fm_tail h [41] (Or.inr ⟨41, [], rfl, Or.inr (Or.inl rfl)⟩) (o + 2)
  refine ⟨.call (fT.put o) (oT.put ((o + 1 : Nat) : Int)) y (cT.put ((o + 2 + l.length : Nat) : Int)), ?_, by rw [← h2]; rfl⟩
  rw [lex_one o 0 102 _ fT (by decide) (tok_f _), drop0, lex_one (o + (0 + 1)) 0 40 _ oT (by decide) (tok_open _), drop0, show o + (0 + 1) + (0 + 1) = o + 2 by omega, h1, lex_one (o + 2 + l.length) 0 41 [] cT (by decide) (tok_close _), drop0, lexL_nil, preT_empty, preT_pre, preT_pre, pre_lex]
  simp [Syn.toks]
theorem fm_first {l : List UInt8} {z : Syn} (h : Fm l z) : Fm l (.first z) := fun o => by
  obtain ⟨y, h1, h2⟩ := h o
  exact ⟨.first y, h1, by rw [← h2]; rfl⟩
theorem fm_nil : Fm [] .nil := fun o => ⟨.nil, lexL_nil o, rfl⟩
theorem fm_snoc {l m : List UInt8} {z v : Syn} (h : Fm l z) (h' : Fm m v) : Fm (l ++ 44 :: m) (.snoc z commaT v) := fun o => by
  obtain ⟨y, h1, h2⟩ := fm_tail h (44 :: m) (Or.inr ⟨44, m, rfl, Or.inl rfl⟩) o
  obtain ⟨u, h3, h4⟩ := h' (o + l.length + 1)
  refine ⟨.snoc y (commaT.put ((o + l.length : Nat) : Int)) u, ?_, by rw [← h2, ← h4]; rfl⟩
  rw [h1, lex_one (o + l.length) 0 44 _ commaT (by decide) (tok_comma _), drop0, show o + l.length + (0 + 1) = o + l.length + 1 by omega, h3, pre_lex, pre_lex]
  simp [Syn.toks]
theorem fm_sum {l m : List UInt8} {z v : Syn} (h : Fm l z) (h' : Fm m v) : Fm (l ++ 43 :: m) (.bin z (opT [43]) v) := fun o => by
  obtain ⟨y, h1, h2⟩ := fm_tail h (43 :: m) (Or.inr ⟨43, m, rfl, Or.inr (Or.inr rfl)⟩) o
  obtain ⟨u, h3, h4⟩ := h' (o + l.length + 1)
  refine ⟨.bin y ((opT [43]).put ((o + l.length : Nat) : Int)) u, ?_, by rw [← h2, ← h4]; rfl⟩
  rw [h1, lex_one (o + l.length) 0 43 _ _ (by decide) (tok_plus _), drop0, show o + l.length + (0 + 1) = o + l.length + 1 by omega, h3, pre_lex, pre_lex]
  simp [Syn.toks]
def opsL : List (List UInt8) := [[61], [60, 62], [60], [60, 61], [62], [62, 61], [38], [43], [45], [42], [47], [94]]
theorem ops_line : ∀ op ∈ opsL, 1 ≤ lineT (opT op) ∧ lineT (opT op) ≤ 5 := by decide +kernel
theorem tok_ops (op : List UInt8) (h : op ∈ opsL) (x : List UInt8) : ∃ c l n, op = c :: l ∧ c ≠ 32 ∧ tok1 (op ++ 40 :: x) = (opT op, n + 1, 0) ∧ l.length = n := by
  unfold opsL at h
  simp only [List.mem_cons, List.not_mem_nil, or_false] at h
  rcases h with h | h | h | h | h | h | h | h | h | h | h | h <;> subst h
  all_goals refine ⟨_, _, _, rfl, by decide, ?_, rfl⟩
  all_goals
    rw [List.cons_append, tok_op _ _ rfl rfl rfl]
    rfl
theorem fc_bin {l m op : List UInt8} {z v : Syn} (h : Fc l z) (h' : Fm (40 :: m) v) (ho : op ∈ opsL) : Fm (l ++ (op ++ 40 :: m)) (.bin z (opT op) v) := fun o => by
  obtain ⟨c, r, n, rfl, hc, ht, hn⟩ := tok_ops op ho m
  obtain ⟨y, h1, h2⟩ := h o (c :: r ++ 40 :: m)
  obtain ⟨u, h3, h4⟩ := h' (o + l.length + (n + 1))
  refine ⟨.bin y ((opT (c :: r)).put ((o + l.length : Nat) : Int)) u, ?_, by rw [← h2, ← h4]; rfl⟩
  have ht : tok1 (c :: (r ++ 40 :: m)) = (opT (c :: r), n + 1, 0) := ht
  rw [h1, show c :: r ++ 40 :: m = c :: (r ++ 40 :: m) from rfl, lex_one (o + l.length) n c _ _ hc ht, List.drop_append_of_le_length (by omega), show r.drop n = [] from List.drop_eq_nil_of_le (by omega), List.nil_append, h3, pre_lex, pre_lex]
  simp [Syn.toks]
end Go.Proofs.YtloamahbghjjgaaGreatDoor

namespace Go.Proofs.YtloamahbghjjgaaGreatDoor

theorem line_plus : lineT (opT [43]) = 3 := by kernel_rfl
theorem sign_plus : signB (opT [43]) = true ∧ minusB (opT [43]) = false := ⟨by kernel_rfl, by kernel_rfl⟩
theorem sign_minus : signB (opT [45]) = true ∧ minusB (opT [45]) = true := ⟨by kernel_rfl, by kernel_rfl⟩
theorem one_wf (k : Nat) (hk : k ≤ 8) : (Syn.atom oneT).wf k := ⟨hk, Or.inl rfl⟩
def dpL : Nat → List UInt8
  | 0 => [49]
  | k + 1 => 40 :: (dpL k ++ [41])
def dsL : Nat → List UInt8
  | 0 => [49]
  | k + 1 => 45 :: dsL k
def dcL : Nat → List UInt8
  | 0 => [49]
  | k + 1 => 102 :: 40 :: (dcL k ++ [41])
def daL : Nat → List UInt8
  | 0 => []
  | k + 1 => (if 0 < k then daL k ++ [44] else daL k) ++ [49]
def dmL : Nat → List UInt8
  | 0 => [49]
  | k + 1 => dmL k ++ [43, 49]
def dpY : Nat → Syn
  | 0 => .atom oneT
  | k + 1 => .par oT (dpY k) cT
def dsY : Nat → Syn
  | 0 => .atom oneT
  | k + 1 => .sign (opT [45]) (dsY k)
def dcY : Nat → Syn
  | 0 => .atom oneT
  | k + 1 => .call fT oT (.first (dcY k)) cT
def daY : Nat → Syn
  | 0 => .nil
  | 1 => .first (.atom oneT)
  | k + 2 => .snoc (daY (k + 1)) commaT (.atom oneT)
def dmY : Nat → Syn
  | 0 => .atom oneT
  | k + 1 => .bin (dmY k) (opT [43]) (.atom oneT)
theorem par_told : ∀ k : Nat, Fm (dpL k) (dpY k) ∧ (dpY k).wf 8 ∧ (dpY k).nest = k ∧ (dpY k).most = 0 ∧ (dpY k).size = 1 ∧ (dpL k).length = 2 * k + 1
  | 0 => ⟨fm_one, one_wf 8 (by omega), rfl, rfl, rfl, rfl⟩
  | k + 1 => by
    obtain ⟨h1, h2, h3, h4, h5, h6⟩ := par_told k
    refine ⟨fm_of (fc_par h1), ⟨by omega, rfl, rfl, wf_down h2 (by omega) (by omega)⟩, ?_, h4, h5, ?_⟩
    · show (dpY k).nest + 1 = k + 1
      rw [h3]
    · show (40 :: (dpL k ++ [41])).length = _
      rw [List.length_cons, List.length_append, h6]; simp; omega
theorem sign_told : ∀ k : Nat, Fm (dsL k) (dsY k) ∧ (dsY k).wf 6 ∧ (dsY k).nest = k ∧ (dsY k).most = 0 ∧ (dsY k).size = k + 1 ∧ (dsL k).length = k + 1
  | 0 => ⟨fm_one, one_wf 6 (by omega), rfl, rfl, rfl, rfl⟩
  | k + 1 => by
    obtain ⟨h1, h2, h3, h4, h5, h6⟩ := sign_told k
    refine ⟨fm_minus h1, ⟨by omega, sign_minus.1, h2⟩, ?_, h4, ?_, ?_⟩
    · show (dsY k).nest + 1 = k + 1
      rw [h3]
    · show (if minusB (opT [45]) = true then (dsY k).size + 1 else (dsY k).size) = _
      rw [if_pos sign_minus.2, h5]
    · show (45 :: dsL k).length = _
      rw [List.length_cons, h6]
theorem call_told : ∀ k : Nat, Fm (dcL k) (dcY k) ∧ (dcY k).wf 8 ∧ (dcY k).nest = k ∧ (dcY k).most ≤ 1 ∧ (dcY k).size = k + 1 ∧ (dcL k).length = 3 * k + 1
  | 0 => ⟨fm_one, one_wf 8 (by omega), rfl, by decide, rfl, rfl⟩
  | k + 1 => by
    obtain ⟨h1, h2, h3, h4, h5, h6⟩ := call_told k
    refine ⟨fm_call (fm_first h1), ⟨by omega, rfl, rfl, rfl, rfl, wf_down h2 (by omega) (by omega)⟩, ?_, ?_, ?_, ?_⟩
    · show (dcY k).nest + 1 = k + 1
      rw [h3]
    · show max (dcY k).most 1 ≤ 1
      omega
    · show (dcY k).size + 1 = _
      rw [h5]
    · show (102 :: 40 :: (dcL k ++ [41])).length = _
      rw [List.length_cons, List.length_cons, List.length_append, h6]; simp; omega
theorem args_told : ∀ k : Nat, Fm (daL k) (daY k) ∧ (daY k).wf 9 ∧ (daY k).nest ≤ 1 ∧ (daY k).most = 0 ∧ (daY k).size = k ∧ ((daY k).kidsL 0).length = k ∧ (daL k).length ≤ 2 * k ∧ (0 < k → daY k ≠ .nil)
  | 0 => ⟨fm_nil, rfl, by decide, rfl, rfl, rfl, by decide, fun h => absurd h (by omega)⟩
  | 1 => ⟨fm_first fm_one, ⟨rfl, one_wf 1 (by omega)⟩, by decide, rfl, rfl, rfl, by decide, fun _ h => by cases h⟩
  | k + 2 => by
    obtain ⟨h1, h2, h3, h4, h5, h6, h7, h8⟩ := args_told (k + 1)
    have e : daL (k + 2) = daL (k + 1) ++ 44 :: [49] := by
      rw [daL, if_pos (by omega)]; simp
    refine ⟨by rw [e]; exact fm_snoc h1 fm_one, ⟨rfl, h2, h8 (by omega), rfl, one_wf 1 (by omega)⟩, ?_, ?_, ?_, ?_, ?_, fun _ h => by cases h⟩
    · show max (daY (k + 1)).nest (0 + 1) ≤ 1
      omega
    · show max (daY (k + 1)).most 0 = 0
      omega
    · show (daY (k + 1)).size + 1 = _
      rw [h5]
    · show ((daY (k + 1)).kidsL 0 ++ [_]).length = _
      rw [List.length_append, h6]; rfl
    · rw [e, List.length_append]; simp; omega
theorem sum_told : ∀ k : Nat, Fm (dmL k) (dmY k) ∧ (dmY k).wf 3 ∧ (dmY k).nest = 0 ∧ (dmY k).most = 0 ∧ (dmY k).size = 2 * k + 1 ∧ (dmL k).length = 2 * k + 1
  | 0 => ⟨fm_one, one_wf 3 (by omega), rfl, rfl, rfl, rfl⟩
  | k + 1 => by
    obtain ⟨h1, h2, h3, h4, h5, h6⟩ := sum_told k
    refine ⟨fm_sum h1 fm_one, ⟨by rw [line_plus]; omega, by rw [line_plus]; omega, by rw [line_plus]; exact h2, by rw [line_plus]; exact one_wf 4 (by omega)⟩, ?_, ?_, ?_, ?_⟩
    · show max (dmY k).nest 0 = 0
      omega
    · show max (dmY k).most 0 = 0
      omega
    · show (dmY k).size + 1 + 1 = _
      omega
    · show (dmL k ++ [43, 49]).length = _
      rw [List.length_append, h6]; rfl
theorem parseS_2 (z : Syn) : (parseS (some z)).2 = if 32 < z.nest then 8 else if 32 < z.most then 7 else if 256 < z.size then 10 else 0 := by
  unfold parseS
  simp only []
  split
  · rfl
  · split
    · rfl
    · split <;> rfl
theorem deep_par (k : Nat) (hk : k ≤ 100) : (parseL (dpL k)).2 = if 32 < k then 8 else 0 := by
  obtain ⟨h1, h2, h3, h4, h5, h6⟩ := par_told k
  rw [fm_parse h1 (wf_down h2 (by omega) (by omega)) (by omega), parseS_2, h3, h4, h5]
  split <;> rfl
theorem deep_sign (k : Nat) (hk : k ≤ 100) : (parseL (dsL k)).2 = if 32 < k then 8 else 0 := by
  obtain ⟨h1, h2, h3, h4, h5, h6⟩ := sign_told k
  rw [fm_parse h1 (wf_down h2 (by omega) (by omega)) (by omega), parseS_2, h3, h4, h5, if_neg (show ¬ 32 < 0 by omega), if_neg (show ¬ 256 < k + 1 by omega)]
theorem deep_call (k : Nat) (hk : k ≤ 100) : (parseL (dcL k)).2 = if 32 < k then 8 else 0 := by
  obtain ⟨h1, h2, h3, h4, h5, h6⟩ := call_told k
  rw [fm_parse h1 (wf_down h2 (by omega) (by omega)) (by omega), parseS_2, h3, h5, if_neg (show ¬ 32 < (dcY k).most by omega), if_neg (show ¬ 256 < k + 1 by omega)]
theorem deep_args (k : Nat) (hk : k ≤ 100) : (parseL (102 :: 40 :: (daL k ++ [41]))).2 = if 32 < k then 7 else 0 := by
  obtain ⟨h1, h2, h3, h4, h5, h6, h7, h8⟩ := args_told k
  have hw : (Syn.call fT oT (daY k) cT).wf 1 := ⟨by omega, rfl, rfl, rfl, h2⟩
  have e1 : (Syn.call fT oT (daY k) cT).nest = (daY k).nest := rfl
  have e2 : (Syn.call fT oT (daY k) cT).most = k := by
    show max (daY k).most ((daY k).kidsL 0).length = k
    rw [h4, h6]; omega
  have e3 : (Syn.call fT oT (daY k) cT).size = k + 1 := by
    show (daY k).size + 1 = k + 1
    rw [h5]
  rw [fm_parse (fm_call h1) hw (by simp; omega), parseS_2, e1, e2, e3, if_neg (show ¬ 32 < (daY k).nest by omega), if_neg (show ¬ 256 < k + 1 by omega)]
theorem full_sum (k : Nat) (hk : k ≤ 200) : (parseL (dmL k)).2 = if 256 < 2 * k + 1 then 10 else 0 := by
  obtain ⟨h1, h2, h3, h4, h5, h6⟩ := sum_told k
  rw [fm_parse h1 (wf_down h2 (by omega) (by omega)) (by omega), parseS_2, h3, h4, h5, if_neg (show ¬ 32 < 0 by omega), if_neg (show ¬ 32 < 0 by omega)]
theorem parseS_deep {z : Syn} (h : 32 < z.nest) : parseS (some z) = ([], 8) := by
  unfold parseS; simp only []; rw [if_pos h]
theorem parseS_ok {z : Syn} (h1 : z.nest ≤ 32) (h2 : z.most ≤ 32) (h3 : z.size ≤ 256) : parseS (some z) = (z.emit 0, 0) := by
  unfold parseS; simp only []; rw [if_neg (by omega), if_neg (by omega), if_neg (by omega)]
theorem parseS_full {z : Syn} (h1 : z.nest ≤ 32) (h2 : z.most ≤ 32) (h3 : 256 < z.size) : parseS (some z) = ([], 10) := by
  unfold parseS; simp only []; rw [if_neg (by omega), if_neg (by omega), if_pos h3]
theorem plus_par {l : List UInt8} {nds : List Nd} (h : parseL l = (nds, 0)) (hl : l.length ≤ 500) : parseL (40 :: (l ++ [41])) = (nds, 0) ∨ parseL (40 :: (l ++ [41])) = ([], 8) := by
  obtain ⟨z, h1, h2, h3, h4, h5, rfl, _⟩ := fm_get h
  have hw : (Syn.par oT z cT).wf 1 := ⟨by omega, rfl, rfl, h2⟩
  rw [fm_parse (fm_of (fc_par h1)) hw (by simp; omega)]
  by_cases hn : 32 < z.nest + 1
  · exact Or.inr (parseS_deep hn)
  · exact Or.inl (parseS_ok (z := .par oT z cT) (by show z.nest + 1 ≤ 32; omega) h4 h5)
theorem plus_sign {l : List UInt8} {nds : List Nd} (h : parseL l = (nds, 0)) (hl : l.length ≤ 500) : parseL (43 :: 40 :: (l ++ [41])) = (nds, 0) ∨ parseL (43 :: 40 :: (l ++ [41])) = ([], 8) := by
  obtain ⟨z, h1, h2, h3, h4, h5, rfl, _⟩ := fm_get h
  have hw : (Syn.sign (opT [43]) (Syn.par oT z cT)).wf 1 := ⟨by omega, sign_plus.1, by omega, rfl, rfl, h2⟩
  rw [fm_parse (fm_plus (fm_of (fc_par h1))) hw (by simp; omega)]
  have e1 : (Syn.sign (opT [43]) (Syn.par oT z cT)).size = z.size := by
    show (if minusB (opT [43]) = true then z.size + 1 else z.size) = _
    rw [if_neg (by rw [sign_plus.2]; decide)]
  have e2 : (Syn.sign (opT [43]) (Syn.par oT z cT)).emit 0 = z.emit 0 := by
    show (if minusB (opT [43]) = true then z.emit 0 ++ [negN (0 + z.size - 1)] else z.emit 0) = _
    rw [if_neg (by rw [sign_plus.2]; decide)]
  by_cases hn : 32 < z.nest + 1 + 1
  · exact Or.inr (parseS_deep hn)
  · left
    rw [parseS_ok (z := .sign (opT [43]) (.par oT z cT)) (by show z.nest + 1 + 1 ≤ 32; omega) h4 (by rw [e1]; exact h5), e2]
def Nd.up (k : Nat) (n : Nd) : Nd := ⟨n.kind, n.op, n.val, n.ref, n.kids.map fun x => x + (k : Int)⟩
theorem call_up (t : Tk) (ks : List Nat) (k : Nat) : (callN t ks).up k = callN t (ks.map (· + k)) := by
  unfold callN Nd.up
  simp only []
  rw [List.map_map, List.map_map]
  congr 1
theorem args_up : ∀ {s : Syn} {j : Nat} (b k : Nat), s.wf j → s.kidsL (b + k) = (s.kidsL b).map (· + k)
  | ⟨.inr (.inr (.inr (.inr (.inr (.inr (.inl ()))))))⟩, _, _, _, _ => rfl
  | ⟨.inr (.inr (.inr (.inr (.inr (.inr (.inr (.inl s)))))))⟩, _, b, k, h => by
    have := size_pos h.2 (by omega)
    show [b + k + s.size - 1] = [b + s.size - 1 + k]
    congr 1; omega
  | ⟨.inr (.inr (.inr (.inr (.inr (.inr (.inr (.inr ((l, c, s)))))))))⟩, _, b, k, h => by
    have := size_pos h.2.2.2.2 (by omega)
    show l.kidsL (b + k) ++ [b + k + l.size + s.size - 1] = (l.kidsL b ++ [b + l.size + s.size - 1]).map (· + k)
    rw [args_up b k h.2.1, List.map_append]
    congr 1
    show [b + k + l.size + s.size - 1] = [b + l.size + s.size - 1 + k]
    congr 1; omega
  | ⟨.inl _⟩, _, _, _, _ => rfl
  | ⟨.inr (.inl (_, _, _))⟩, _, _, _, _ => rfl
  | ⟨.inr (.inr (.inl (_, _, _, _)))⟩, _, _, _, _ => rfl
  | ⟨.inr (.inr (.inr (.inl (_, _))))⟩, _, _, _, _ => rfl
  | ⟨.inr (.inr (.inr (.inr (.inl (_, _)))))⟩, _, _, _, _ => rfl
  | ⟨.inr (.inr (.inr (.inr (.inr (.inl (_, _, _))))))⟩, _, _, _, _ => rfl
theorem neg_up {b k n : Nat} (h : 1 ≤ n) : (negN (b + n - 1)).up k = negN (b + k + n - 1) := by
  unfold negN Nd.up
  simp only [List.map_cons, List.map_nil]
  congr 2; omega
theorem pct_up {b k n : Nat} (h : 1 ≤ n) : (pctN (b + n - 1)).up k = pctN (b + k + n - 1) := by
  unfold pctN Nd.up
  simp only [List.map_cons, List.map_nil]
  congr 2; omega
theorem bin_up {t : Tk} {b k n m : Nat} (h : 1 ≤ n) (h' : 1 ≤ m) : (binN t (b + n - 1) (b + n + m - 1)).up k = binN t (b + k + n - 1) (b + k + n + m - 1) := by
  unfold binN Nd.up
  simp only [List.map_cons, List.map_nil]
  congr 3
  · omega
  · congr 1; omega
theorem atom_nup (t : Tk) (k : Nat) : (atomN t).up k = atomN t := by
  unfold atomN
  split <;> rfl
theorem emit_up : ∀ {s : Syn} {j : Nat} (b k : Nat), s.wf j → s.emit (b + k) = (s.emit b).map (Nd.up k)
  | ⟨.inl t⟩, _, _, k, _ => by
    show [atomN t] = [(atomN t).up k]
    rw [atom_nup]
  | ⟨.inr (.inl (_, s, _))⟩, _, b, k, h => emit_up (s := s) b k h.2.2.2
  | ⟨.inr (.inr (.inl (t, _, l, _)))⟩, _, b, k, h => by
    show l.emit (b + k) ++ [callN t (l.kidsL (b + k))] = (l.emit b ++ [callN t (l.kidsL b)]).map (Nd.up k)
    rw [emit_up b k h.2.2.2.2, args_up b k h.2.2.2.2, List.map_append, List.map_singleton, call_up]
  | ⟨.inr (.inr (.inr (.inl (t, s))))⟩, _, b, k, h => by
    have h1 := emit_up (s := s) b k h.2.2
    have h2 := size_pos h.2.2 (by omega)
    simp only [Syn.emit]
    split
    · rw [h1, List.map_append, List.map_singleton, neg_up h2]
    · exact h1
  | ⟨.inr (.inr (.inr (.inr (.inl (s, _)))))⟩, _, b, k, h => by
    have h2 := size_pos h.2.2 (by omega)
    show s.emit (b + k) ++ [pctN (b + k + s.size - 1)] = (s.emit b ++ [pctN (b + s.size - 1)]).map (Nd.up k)
    rw [emit_up (s := s) b k h.2.2, List.map_append, List.map_singleton, pct_up h2]
  | ⟨.inr (.inr (.inr (.inr (.inr (.inl (x, t, y))))))⟩, _, b, k, h => by
    have h5 := line_le t
    have h2 := size_pos h.2.2.1 (by omega)
    have h3 := size_pos h.2.2.2 (by omega)
    show x.emit (b + k) ++ (y.emit (b + k + x.size) ++ [binN t (b + k + x.size - 1) (b + k + x.size + y.size - 1)]) = (x.emit b ++ (y.emit (b + x.size) ++ [binN t (b + x.size - 1) (b + x.size + y.size - 1)])).map (Nd.up k)
    rw [emit_up (s := x) b k h.2.2.1, show b + k + x.size = b + x.size + k by omega, emit_up (s := y) (b + x.size) k h.2.2.2, List.map_append, List.map_append, List.map_singleton, bin_up h2 h3, show b + x.size + k = b + k + x.size by omega]
  | ⟨.inr (.inr (.inr (.inr (.inr (.inr (.inl ()))))))⟩, _, _, _, _ => rfl
  | ⟨.inr (.inr (.inr (.inr (.inr (.inr (.inr (.inl s)))))))⟩, _, b, k, h => emit_up (s := s) b k h.2
  | ⟨.inr (.inr (.inr (.inr (.inr (.inr (.inr (.inr ((l, _, s)))))))))⟩, _, b, k, h => by
    show l.emit (b + k) ++ s.emit (b + k + l.size) = (l.emit b ++ s.emit (b + l.size)).map (Nd.up k)
    rw [emit_up (s := l) b k h.2.1, show b + k + l.size = b + l.size + k by omega, emit_up (s := s) (b + l.size) k h.2.2.2.2, List.map_append]
def joinT (a b : List Nd) (last : Nd) : List Nd := a ++ (b.map (Nd.up a.length) ++ [last])
theorem join_bin {l m op : List UInt8} {a b : List Nd} (ha : parseL l = (a, 0)) (hb : parseL m = (b, 0)) (hl : l.length ≤ 200) (hm : m.length ≤ 200) (ho : op ∈ opsL) :
    parseL (40 :: (l ++ [41]) ++ (op ++ 40 :: (m ++ [41]))) = ([], 8) ∨ (parseL (40 :: (l ++ [41]) ++ (op ++ 40 :: (m ++ [41]))) = ([], 10) ∧ 256 ≤ a.length + b.length) ∨
    parseL (40 :: (l ++ [41]) ++ (op ++ 40 :: (m ++ [41]))) = (joinT a b (binN (opT op) (a.length - 1) (a.length + b.length - 1)), 0) := by
  obtain ⟨z, h1, h2, h3, h4, h5, rfl, _⟩ := fm_get ha
  obtain ⟨v, g1, g2, g3, g4, g5, rfl, _⟩ := fm_get hb
  have hop := ops_line op ho
  have hol : op.length ≤ 2 := by
    unfold opsL at ho
    simp only [List.mem_cons, List.not_mem_nil, or_false] at ho
    rcases ho with h | h | h | h | h | h | h | h | h | h | h | h <;> subst h <;> decide
  have hw : (Syn.bin (.par oT z cT) (opT op) (.par oT v cT)).wf 1 := ⟨hop.1, hop.1, ⟨by omega, rfl, rfl, h2⟩, ⟨by omega, rfl, rfl, g2⟩⟩
  rw [fm_parse (fc_bin (fc_par h1) (fm_of (fc_par g1)) ho) hw (by simp; omega)]
  rw [emit_len, emit_len]
  by_cases hn : 32 < max (z.nest + 1) (v.nest + 1)
  · exact Or.inl (parseS_deep hn)
  have e1 : (Syn.bin (.par oT z cT) (opT op) (.par oT v cT)).nest ≤ 32 := by show max (z.nest + 1) (v.nest + 1) ≤ 32; omega
  have e2 : (Syn.bin (.par oT z cT) (opT op) (.par oT v cT)).most ≤ 32 := by show max z.most v.most ≤ 32; omega
  by_cases hs : 256 < z.size + v.size + 1
  · exact Or.inr (Or.inl ⟨parseS_full e1 e2 hs, by omega⟩)
  · right; right
    rw [parseS_ok e1 e2 (by show z.size + v.size + 1 ≤ 256; omega)]
    unfold joinT
    have := emit_up (s := v) 0 z.size g2
    rw [Nat.zero_add] at this
    show (z.emit 0 ++ (v.emit (0 + z.size) ++ [binN (opT op) (0 + z.size - 1) (0 + z.size + v.size - 1)]), (0 : Int)) = _
    rw [emit_len, Nat.zero_add, this]
theorem join_call {l m : List UInt8} {a b : List Nd} (ha : parseL l = (a, 0)) (hb : parseL m = (b, 0)) (hl : l.length ≤ 200) (hm : m.length ≤ 200) :
    parseL (102 :: 40 :: ((l ++ 44 :: m) ++ [41])) = ([], 8) ∨ (parseL (102 :: 40 :: ((l ++ 44 :: m) ++ [41])) = ([], 10) ∧ 256 ≤ a.length + b.length) ∨
    parseL (102 :: 40 :: ((l ++ 44 :: m) ++ [41])) = (joinT a b (callN fT [a.length - 1, a.length + b.length - 1]), 0) := by
  obtain ⟨z, h1, h2, h3, h4, h5, rfl, _⟩ := fm_get ha
  obtain ⟨v, g1, g2, g3, g4, g5, rfl, _⟩ := fm_get hb
  have hw : (Syn.call fT oT (.snoc (.first z) commaT v) cT).wf 1 := ⟨by omega, rfl, rfl, rfl, rfl, ⟨rfl, h2⟩, fun h => (by cases h), rfl, g2⟩
  rw [fm_parse (fm_call (fm_snoc (fm_first h1) g1)) hw (by simp; omega)]
  rw [emit_len, emit_len]
  by_cases hn : 32 < max (z.nest + 1) (v.nest + 1)
  · exact Or.inl (parseS_deep hn)
  have e1 : (Syn.call fT oT (.snoc (.first z) commaT v) cT).nest ≤ 32 := by show max (z.nest + 1) (v.nest + 1) ≤ 32; omega
  have e2 : (Syn.call fT oT (.snoc (.first z) commaT v) cT).most ≤ 32 := by show max (max z.most v.most) 2 ≤ 32; omega
  by_cases hs : 256 < z.size + v.size + 1
  · exact Or.inr (Or.inl ⟨parseS_full e1 e2 hs, by omega⟩)
  · right; right
    rw [parseS_ok e1 e2 (by show z.size + v.size + 1 ≤ 256; omega)]
    unfold joinT
    have := emit_up (s := v) 0 z.size g2
    rw [Nat.zero_add] at this
    show ((z.emit 0 ++ v.emit (0 + z.size)) ++ [callN fT [0 + z.size - 1, 0 + z.size + v.size - 1]], (0 : Int)) = _
    rw [emit_len, Nat.zero_add, this, List.append_assoc]
end Go.Proofs.YtloamahbghjjgaaGreatDoor

namespace Go.Proofs.YtloamahbghjjgaaGreatDoor
open Go.RowKit

set_option maxRecDepth 100000 in
set_option maxHeartbeats 2000000 in
theorem shift_up (s : ByteArray) (w : World) (hs : s.size ≤ 1000000) :
    Calls Tryz.prog 185 #[.string s, .int .u8 97, .int .u8 122, .int .i64 (-32)] w fun e w' => e = .returned (.string (mapB upC s)) ∧ Below w.heap.size w w' := by
  have hc := run_bytes_of_string (P := Tryz.prog) w 9 166 5 s Tryz.underlying9 Tryz.underlying166 Tryz.underlying5
  obtain ⟨c, hcc⟩ : ∃ c, grownCap w s.size 0 5 = c := ⟨_, rfl⟩
  rw [hcc] at hc
  clear hcc
  have HT := hide (turn_start upC s w c)
  have HB : Hid (Below w.heap.size w (w.drew.alloc (.cells (bytesRow s c) 5 ((bytesRow s c).size, (bytesRow s c).size + 1)))) := hide ((Below.refl _ _).drew.alloc (Nat.le_refl _) _)
  obtain ⟨w0, hw0⟩ : ∃ w0, w.drew.alloc (.cells (bytesRow s c) 5 ((bytesRow s c).size, (bytesRow s c).size + 1)) = w0 := ⟨_, rfl⟩
  rw [hw0] at hc HT HB
  clear hw0
  obtain ⟨n, hn⟩ : ∃ n, s.size = n := ⟨_, rfl⟩
  rw [hn] at hc hs
  have HN := hide hn
  go_enter Tryz.func185, Tryz.ntmps185
  go_wp2
  clear hc
  go_loopw [16] (fun t wr => ∃ i : Nat, t = .int .i64 (i : Int) ∧ i ≤ n ∧ Hid (TurnAt upC s wr w.heap.size i) ∧ Hid (Below w.heap.size w wr)) (fun t _ => n - (intOf t).toNat)
  case atStart => exact ⟨0, rfl, by omega, HT, HB⟩
  case round =>
    clear HT HB
    obtain ⟨i, rfl, hi, HT, HB⟩ := hrel
    by_cases hin : i < n
    · obtain ⟨c0, f0⟩ := (unhide HT).2 i (by omega)
      rw [if_neg (by omega)] at c0
      obtain ⟨x, hx⟩ : ∃ x, byteAt s i = x := ⟨_, rfl⟩
      have hx8 : x.toNat < 256 := x.toNat_lt
      rw [hx] at c0
      have HX := hide hx
      obtain ⟨k, hk⟩ : ∃ k : Nat, x.toNat = k := ⟨_, rfl⟩
      rw [hk] at c0 hx8
      have HK := hide hk
      clear hx hk
      by_cases h1 : 97 ≤ k
      · by_cases h2 : k ≤ 122
        · have TS : Hid (TurnAt upC s (wr.setCell ⟨w.heap.size, i, none⟩ (.int .u8 ((k : Int) + -32))) w.heap.size (i + 1)) := hide (by
            have h := turn_set (unhide HT) (by have := unhide HN; omega)
            rw [unhide HX] at h
            have e : ((upC x).toNat : Int) = (k : Int) + -32 := by
              unfold upC
              rw [unhide HK, if_pos ⟨h1, h2⟩, UInt8.toNat_ofNat']
              omega
            rw [e] at h
            exact h)
          have HB2 := hide ((unhide HB).setCell (p := ⟨w.heap.size, i, none⟩) (Nat.le_refl _) (.int .u8 ((k : Int) + -32)))
          go_wp2
          go_roundw
          case rel => exact ⟨i + 1, by go_num, by omega, TS, HB2⟩
          case measure => simp [intOf]; omega
        · have TS := hide (turn_same (unhide HT) (by rw [unhide HX]; unfold upC; rw [unhide HK, if_neg (by omega)]))
          have d2 : decide ((k : Int) ≤ 122) = false := decide_eq_false (by omega)
          go_wp2
          go_roundw
          case rel => exact ⟨i + 1, by go_num, by omega, TS, HB⟩
          case measure => simp [intOf]; omega
      · have TS := hide (turn_same (unhide HT) (by rw [unhide HX]; unfold upC; rw [unhide HK, if_neg (by omega)]))
        have d1 : decide (97 ≤ (k : Int)) = false := decide_eq_false (by omega)
        go_wp2
        go_roundw
        case rel => exact ⟨i + 1, by go_num, by omega, TS, HB⟩
        case measure => simp [intOf]; omega
    · have hb := turn_end (unhide HT) (by have := unhide HN; omega) c
      rw [unhide HN] at hb
      go_wp2
      go_ret
      exact ⟨rfl, unhide HB⟩

set_option maxHeartbeats 1000000 in
theorem upper_val (s : ByteArray) (w : World) (hs : s.size ≤ 1000000) :
    Calls Tryz.prog 146 #[.string s] w fun e w' => e = .returned (.string (mapB upC s)) ∧ Below w.heap.size w w' := by
  have HS := hide (fun w => shift_up s w hs)
  clear hs
  go_enter Tryz.func146, Tryz.ntmps146
  go_wp2_with fail
  refine (unhide HS _).mono ?_
  rintro e w1 ⟨rfl, b1⟩
  go_wp2
  go_ret
  exact ⟨rfl, b1⟩
end Go.Proofs.YtloamahbghjjgaaGreatDoor
