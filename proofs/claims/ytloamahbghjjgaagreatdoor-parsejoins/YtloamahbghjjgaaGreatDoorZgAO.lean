/- Rows of nodes in memory; the reader's cells; what a call of the reader leaves as it was. -/
import Derived.BigQuiet
import Derived.BigRegion
import Derived.Deep.AppendLies
import Derived.Deep.CutBlock
import Derived.Deep.CutRange
import Derived.Deep.DeepFit
import Derived.Deep.MidRow
import Derived.Deep.QuietTactic
import Derived.Deep.RegionHeld3
import Derived.Deep.RegionLaw
import Derived.Deep.WholeRow
import Derived.Laws.Bits64b
import Derived.Laws.CopyOwn
import Derived.Laws.IdiomStrings
import Derived.Laws.OwnMore
import Derived.Laws.Rows
import Derived.Laws.StructEq
import Derived.Laws.Tables
import Derived.Lib.Atoi
import Derived.Lib.AtoiErrMem
import Derived.Lib.BitFns
import Derived.Lib.CutLaws
import Derived.Lib.IndexMore
import Derived.Lib.ItoaMem
import Derived.Lib.ItoaNum
import Derived.Lib.Join
import Derived.Lib.Replace
import Derived.Lib.Walk
import Derived.Shelf.Bits.Mul64
import Derived.Shelf.LaysM
import Derived.Shelf.Small.Bits
import Derived.Shelf.Small.Strs
import Derived.Shelf.Small.Utf8
import Derived.Shelf.Small.Wraps
import Derived.Shelf.Strconv.Atoi
import Derived.Shelf.Strconv.Itoa0
import Derived.Shelf.Strconv.Itoa1
import Derived.Shelf.Strconv.Itoa2
import Derived.Shelf.Strconv.Itoa3
import Derived.Shelf.Strings.AsciiSet
import Derived.Shelf.Strings.Builder1
import Derived.Shelf.Strings.Builder2
import Derived.Shelf.Strings.Count
import Derived.Shelf.Strings.Cut
import Derived.Shelf.Strings.OnBuilder
import Derived.Shelf.Strings.Prefix
import Derived.Shelf.Strings.Replace
import Derived.Shelf.Strings.Runes
import Derived.Shelf.Strings.Search1
import Derived.Shelf.Strings.Search2
import Derived.Shelf.Strings.Search3
import Derived.Shelf.Strings.Shaped
import Derived.Shelf.Strings.Split
import Derived.Shelf.Strings.SplitShaped
import Derived.Shelf.Strings.Trim
import Derived.Shelf.Unicode.DecodeSlow
import Derived.Test.YtloamahbghjjgaaGreatDoorProg
import Derived.Test.YtloamahbghjjgaaGreatDoorRows
import Derived.WalkKit
import Derived.WalkLawsBesides
import Derived.WalkSmall
import Derived.WalkSpells
import Derived.Test.YtloamahbghjjgaaGreatDoorZgAA
import Derived.Test.YtloamahbghjjgaaGreatDoorZgAB
import Derived.Test.YtloamahbghjjgaaGreatDoorZgAC
import Derived.Test.YtloamahbghjjgaaGreatDoorZgAD
import Derived.Test.YtloamahbghjjgaaGreatDoorZgAE
import Derived.Test.YtloamahbghjjgaaGreatDoorZgAF
import Derived.Test.YtloamahbghjjgaaGreatDoorZgAG
import Derived.Test.YtloamahbghjjgaaGreatDoorZgAH
import Derived.Test.YtloamahbghjjgaaGreatDoorZgAI
import Derived.Test.YtloamahbghjjgaaGreatDoorZgAJ
import Derived.Test.YtloamahbghjjgaaGreatDoorZgAK
import Derived.Test.YtloamahbghjjgaaGreatDoorZgAL
import Derived.Test.YtloamahbghjjgaaGreatDoorZgAM
import Derived.Test.YtloamahbghjjgaaGreatDoorZgAN
namespace Go.Proofs.YtloamahbghjjgaaGreatDoor
open Go.RowKit

theorem results_t1 {P : Program} {fn : Func} {a : Tmp} (h : fn.results = #[.tmp a]) (tmps : Array Value) (w : World) (x : Value) (hx : tmps.getD a undef = x) :
    (results fn tmps).run P w = .ok x w := by
  have hx' : tmps[a]?.getD undef = x := by simpa using hx
  simp [results, h, hx']
def Nd.cells (n : Nd) (kv : Value) : Array Value := #[.int .i64 n.kind, .string n.op, .int .i64 n.val.kind, .int .i64 n.val.num, .string n.val.text, .bool n.val.tr, .int .i64 n.val.fail, .string n.ref.book, .string n.ref.sheet, .int .i64 n.ref.a.col, .int .i64 n.ref.a.row, .bool n.ref.a.fc, .bool n.ref.a.fr, .int .i64 n.ref.b.col, .int .i64 n.ref.b.row, .bool n.ref.b.fc, .bool n.ref.b.fr, .bool n.ref.wide, kv]
def KidsAt (w : World) (B : Nat) (kv : Value) (ks : List Int) : Prop := w.ownsRow B 3 1 kv ks.length (ks.map fun k => Value.int .i64 k)
abbrev Np := Nd × Value
def flatN (ps : List Np) : List Value := ps.flatMap (fun p => (p.1.cells p.2).toList)
theorem flatN_snoc (ps : List Np) (p : Np) : flatN (ps ++ [p]) = flatN ps ++ (p.1.cells p.2).toList := by unfold flatN; simp
def NodeRow (T : TypeId) (w : World) (B : Nat) (v : Value) (nds : List Nd) : Prop :=
  ∃ ps : List Np, ps.map (·.1) = nds ∧ w.ownsRow B T 19 v ps.length (flatN ps) ∧ ∀ p ∈ ps, KidsAt w B p.2 p.1.kids
theorem owns_grown {w w' : World} {B T n s : Nat} {v : Value} {xs : List Value} (h : w.ownsRow B T s v n xs) (hb : ∀ k, k < w.heap.size → v.ownBlock = some k → w'.heap[k]? = w.heap[k]?) : w'.ownsRow B T s v n xs := by
  unfold World.ownsRow at h ⊢
  refine ⟨h.1, ?_⟩
  rcases h.2 with h | ⟨g, cap, cur, h1, h2, h3, h4⟩
  · exact Or.inl h
  · refine Or.inr ⟨g, cap, cur, h1, h2, ?_, h4⟩
    have hlt : g < w.heap.size := (Array.getElem?_eq_some_iff.1 h3).1
    rw [hb g hlt (by rw [h1]; rfl)]; exact h3
theorem owns_type {w : World} {B T n s : Nat} {v : Value} {xs : List Value} {g : Nat} (h : w.ownsRow B T s v n xs) (hg : v.ownBlock = some g) : ∃ cur, w.heap[g]? = some (.cells cur T (0, 0)) := by
  rcases h.2 with ⟨rfl, _⟩ | ⟨g', cap, cur, rfl, _, h3, _⟩
  · cases hg
  · cases hg; exact ⟨cur, h3⟩
theorem owns_apart {w : World} {B B' T T' n n' s s' : Nat} {v v' : Value} {xs xs' : List Value} (h : w.ownsRow B T s v n xs) (h' : w.ownsRow B' T' s' v' n' xs') (hT : T ≠ T') : v.ownBlock = none ∨ v.ownBlock ≠ v'.ownBlock := by
  cases hv : v.ownBlock with
  | none => exact Or.inl rfl
  | some g =>
    refine Or.inr fun e => ?_
    obtain ⟨c, hc⟩ := owns_type h hv
    obtain ⟨c', hc'⟩ := owns_type h' e.symm
    rw [hc] at hc'
    cases hc'
    exact hT rfl
theorem kids_kept {w w' : World} {B : Nat} {kv : Value} {ks : List Int} {row : Option Nat} (h : KidsAt w B kv ks) (hg : w.grownBy w' row) (hn : kv.ownBlock = none ∨ kv.ownBlock ≠ row) : KidsAt w' B kv ks := World.ownsRow.kept h hg hn
theorem kids_below {w w' : World} {B : Nat} {kv : Value} {ks : List Int} (h : KidsAt w B kv ks) (hb : Below w.heap.size w w') : KidsAt w' B kv ks := owns_grown h (fun k hk _ => hb.block k hk)
theorem kids_nil (w : World) (B : Nat) : KidsAt w B (.slice none 0 0) [] := World.ownsRow_nil _ _ _ _
theorem owns_mono {w : World} {B B' T n s : Nat} {v : Value} {xs : List Value} (h : w.ownsRow B T s v n xs) (hB : B' ≤ B) : w.ownsRow B' T s v n xs := by
  unfold World.ownsRow at h ⊢
  refine ⟨h.1, ?_⟩
  rcases h.2 with h | ⟨g, cap, cur, h1, h2, h3⟩
  · exact Or.inl h
  · exact Or.inr ⟨g, cap, cur, h1, Nat.le_trans hB h2, h3⟩
theorem kids_mono {w : World} {B B' : Nat} {kv : Value} {ks : List Int} (h : KidsAt w B kv ks) (hB : B' ≤ B) : KidsAt w B' kv ks := owns_mono h hB
theorem nodes_mono {T : TypeId} {w : World} {B B' : Nat} {v : Value} {nds : List Nd} (h : NodeRow T w B v nds) (hB : B' ≤ B) : NodeRow T w B' v nds := by
  obtain ⟨ps, h1, h2, h3⟩ := h
  exact ⟨ps, h1, owns_mono h2 hB, fun p hp => kids_mono (h3 p hp) hB⟩
theorem nodes_nil (T : TypeId) (w : World) (B : Nat) : NodeRow T w B (.slice none 0 0) [] := ⟨[], rfl, World.ownsRow_nil _ _ _ _, fun p hp => by cases hp⟩
abbrev ndT : TypeId := 55
structure Frm (R : Nat) (w w' : World) : Prop where
  os : w'.os = w.os
  tape : w'.tape = w.tape
  output : w'.output = w.output
  size : w.heap.size ≤ w'.heap.size
  block : ∀ k, k < w.heap.size → k ≠ R → (k < R ∨ ∀ cur fr, w.heap[k]? ≠ some (.cells cur ndT fr)) → w'.heap[k]? = w.heap[k]?
theorem Frm.refl (R : Nat) (w : World) : Frm R w w := ⟨rfl, rfl, rfl, Nat.le_refl _, fun _ _ _ _ => rfl⟩
theorem Frm.trans {R : Nat} {w w1 w2 : World} (h : Frm R w w1) (h1 : Frm R w1 w2) : Frm R w w2 := by
  refine ⟨h1.os.trans h.os, h1.tape.trans h.tape, h1.output.trans h.output, Nat.le_trans h.size h1.size, fun k hk hR hn => ?_⟩
  have e := h.block k hk hR hn
  rw [h1.block k (Nat.lt_of_lt_of_le hk h.size) hR (by rw [e]; exact hn), e]
theorem Frm.of {R : Nat} {w w' : World} (h : Below w.heap.size w w') : Frm R w w' := ⟨h.os, h.tape, h.output, h.size, fun k hk _ _ => h.block k hk⟩
theorem Frm.set {R : Nat} {w w' : World} (h : Frm R w w') (i : Nat) (u : Value) : Frm R w (w'.setCell ⟨R, i, none⟩ u) :=
  ⟨h.os, h.tape, h.output, by have := h.size; simp [World.setCell] at this ⊢; exact this, fun k hk hR hn => by rw [heap_setCell_other _ _ _ _ hR]; exact h.block k hk hR hn⟩
theorem Frm.below {R : Nat} {w w' : World} (h : Frm R w w') (hR : R ≤ w.heap.size) : Below R w w' :=
  ⟨h.os, h.tape, h.output, h.size, fun k hk => h.block k (by omega) (by omega) (Or.inl hk)⟩
theorem Frm.cells {R : Nat} {w w' : World} {B : Nat} {t : TypeId} {cs : Array Value} (h : Frm R w w') (hc : CellsAt w B t cs) (hR : B ≠ R) (ht : t ≠ ndT) : CellsAt w' B t cs := by
  have hc' := hc
  unfold CellsAt at hc ⊢
  rw [h.block B (cells_lt hc') hR (Or.inr fun cur fr e => by rw [hc] at e; cases e; exact ht rfl)]; exact hc
theorem Frm.kids {R B : Nat} {w w' : World} {kv : Value} {ks : List Int} (h : Frm R w w') (hk : KidsAt w B kv ks) (hB : R < B) : KidsAt w' B kv ks :=
  owns_grown hk (fun k hlt hv => h.block k hlt (by have := (hk.lt k hv).1; omega) (Or.inr fun cur fr e => by
    obtain ⟨c, hc⟩ := owns_type hk hv
    rw [hc] at e
    cases e))
abbrev rdT : TypeId := 82
abbrev tkT : TypeId := 116
def NodeRowX (X : Nat → Prop) (T : TypeId) (w : World) (B : Nat) (v : Value) (nds : List Nd) : Prop :=
  ∃ ps : List Np, ps.map (·.1) = nds ∧ w.ownsRow B T 19 v ps.length (flatN ps) ∧ ∀ p ∈ ps, KidsAt w B p.2 p.1.kids ∧ ∀ g, p.2.ownBlock = some g → ¬ X g
theorem nodesX_of {X : Nat → Prop} {T : TypeId} {w : World} {B : Nat} {v : Value} {nds : List Nd} (h : NodeRowX X T w B v nds) : NodeRow T w B v nds := by
  obtain ⟨ps, h1, h2, h3⟩ := h
  exact ⟨ps, h1, h2, fun p hp => (h3 p hp).1⟩
theorem nodesX_below {X : Nat → Prop} {T : TypeId} {w w' : World} {B : Nat} {v : Value} {nds : List Nd} (h : NodeRowX X T w B v nds) (hb : Below w.heap.size w w') : NodeRowX X T w' B v nds := by
  obtain ⟨ps, h1, h2, h3⟩ := h
  exact ⟨ps, h1, owns_grown h2 (fun k hk _ => hb.block k hk), fun p hp => ⟨kids_below (h3 p hp).1 hb, (h3 p hp).2⟩⟩
theorem nodes_step {X : Nat → Prop} {T : TypeId} {w w1 : World} {B : Nat} {v v' : Value} {ps : List Np} {p : Np} (hT : 3 ≠ T) (hown : w.ownsRow B T 19 v ps.length (flatN ps)) (hk : ∀ q ∈ ps, KidsAt w B q.2 q.1.kids ∧ ∀ g, q.2.ownBlock = some g → ¬ X g) (hp : KidsAt w B p.2 p.1.kids ∧ ∀ g, p.2.ownBlock = some g → ¬ X g)
    (hown' : w1.ownsRow B T 19 v' (ps.length + 1) (flatN ps ++ (p.1.cells p.2).toList)) (hgrow : w.grownBy w1 v.ownBlock) : NodeRowX X T w1 B v' (ps.map (·.1) ++ [p.1]) := by
  refine ⟨ps ++ [p], by simp, ?_, ?_⟩
  · rw [flatN_snoc, List.length_append, List.length_singleton]; exact hown'
  · intro q hq
    have hkq : KidsAt w B q.2 q.1.kids ∧ ∀ g, q.2.ownBlock = some g → ¬ X g := by
      rcases List.mem_append.1 hq with h | h
      · exact hk q h
      · rw [List.mem_singleton] at h; rw [h]; exact hp
    exact ⟨kids_kept hkq.1 hgrow (owns_apart hkq.1 hown hT), hkq.2⟩
variable {X : Nat → Prop}
structure RdAt (X : Nat → Prop) (R : Nat) (w : World) (tv : Value) (l : List Tk) (nds : List Nd) (d dp m : Nat) : Prop where
  cells : ∃ a cap, CellsAt w R rdT #[.slice a l.length cap, tv, .int .i64 (d : Int), .int .i64 (dp : Int), .int .i64 (m : Int)] ∧ l.length ≤ cap ∧ ToksIn w a l ∧ (∀ p, a = some p → p.block < R)
  row : NodeRowX X ndT w (R + 1) tv nds
  lim : ∀ x, X x → x < w.heap.size
theorem RdAt.lt {R : Nat} {w : World} {tv : Value} {l : List Tk} {nds : List Nd} {d dp m : Nat} (h : RdAt X R w tv l nds d dp m) : R < w.heap.size := by
  obtain ⟨a, cap, h1, _⟩ := h.cells
  exact cells_lt h1
theorem RdAt.nx {R : Nat} {w w' : World} {tv : Value} {l : List Tk} {nds : List Nd} {d dp m : Nat} (h : RdAt X R w tv l nds d dp m) (hb : Below w.heap.size w w') : RdAt X R w' tv l nds d dp m := by
  obtain ⟨a, cap, h1, h2, h3, h4⟩ := h.cells
  exact ⟨⟨a, cap, cells_nx h1 hb, h2, toks_below h3 hb, h4⟩, nodesX_below h.row hb, fun x hx => Nat.lt_of_lt_of_le (h.lim x hx) hb.size⟩
theorem toks_old {w w' : World} {a : Option Addr} {ts : List Tk} {R : Nat} (h : ToksIn w a ts) (ha : ∀ p, a = some p → p.block < R) (hb : ∀ k, k < R → w'.heap[k]? = w.heap[k]?) (hs : w.heap.size ≤ w'.heap.size) : ToksIn w' a ts := by
  rcases h with h | ⟨g, off, rfl, hg, hc⟩
  · exact Or.inl h
  · refine Or.inr ⟨g, off, rfl, Nat.lt_of_lt_of_le hg hs, fun i t hi j u hu => ?_⟩
    rw [World.cell?_of_block (w := w) (hb g (ha _ rfl))]
    exact hc i t hi j u hu
theorem RdAt.put {R : Nat} {w : World} {tv : Value} {l : List Tk} {nds : List Nd} {d dp m : Nat} (h : RdAt X R w tv l nds d dp m) (i : Nat) (u : Value) (tv' : Value) (l' : List Tk) (d' dp' m' : Nat)
    (hc : ∀ a cap, CellsAt w R rdT #[.slice a l.length cap, tv, .int .i64 (d : Int), .int .i64 (dp : Int), .int .i64 (m : Int)] → ToksIn w a l → l.length ≤ cap → (∀ p, a = some p → p.block < R) →
      ∃ a' cap', (#[.slice a l.length cap, tv, .int .i64 (d : Int), .int .i64 (dp : Int), .int .i64 (m : Int)] : Array Value).setIfInBounds i u = #[.slice a' l'.length cap', tv', .int .i64 (d' : Int), .int .i64 (dp' : Int), .int .i64 (m' : Int)] ∧ l'.length ≤ cap' ∧ ToksIn w a' l' ∧ (∀ p, a' = some p → p.block < R))
    (hr : NodeRowX X ndT w (R + 1) tv' nds) : RdAt X R (w.setCell ⟨R, i, none⟩ u) tv' l' nds d' dp' m' := by
  obtain ⟨a, cap, h1, h2, h3, h4⟩ := h.cells
  obtain ⟨a', cap', e, g2, g3, g4⟩ := hc a cap h1 h3 h2 h4
  have hs : (w.setCell ⟨R, i, none⟩ u).heap.size = w.heap.size := by simp [World.setCell]
  refine ⟨⟨a', cap', ?_, g2, ?_, g4⟩, ?_, fun x hx => by rw [hs]; exact h.lim x hx⟩
  · rw [← e]; exact cells_set h1 i u
  · exact toks_old g3 g4 (fun k hk => heap_setCell_other _ _ _ _ (by show k ≠ R; omega)) (Nat.le_of_eq hs.symm)
  · obtain ⟨ps, p1, p2, p3⟩ := hr
    have hk : ∀ {B T n s : Nat} {v : Value} {xs : List Value}, w.ownsRow (R + 1) T s v n xs → (w.setCell ⟨R, i, none⟩ u).ownsRow (R + 1) T s v n xs := fun {B T n s v xs} h =>
      owns_grown h (fun k hk hv => heap_setCell_other _ _ _ _ (by have := (h.lt k hv).1; show k ≠ R; omega))
    exact ⟨ps, p1, hk (B := 0) p2, fun p hp => ⟨hk (B := 0) (p3 p hp).1, (p3 p hp).2⟩⟩
theorem RdAt.fresh {R : Nat} {w : World} {tv : Value} {l : List Tk} {nds : List Nd} {d dp m : Nat} (h : RdAt X R w tv l nds d dp m) (n c : Nat) : ∀ g, (Value.slice (some ⟨w.heap.size, 0, none⟩) n c).ownBlock = some g → ¬ X g := by
  intro g e hx
  cases e
  exact Nat.lt_irrefl _ (h.lim _ hx)
theorem kidsX_two {R : Nat} {w : World} {tv : Value} {l : List Tk} {nds : List Nd} {d dp m : Nat} (h : RdAt X R w tv l nds d dp m) (x y : Int) :
    KidsAt (w.alloc (.cells #[.int .i64 x, .int .i64 y] 3)) (R + 1) (.slice (some ⟨w.heap.size, 0, none⟩) 2 2) [x, y] ∧ ∀ g, (Value.slice (some ⟨w.heap.size, 0, none⟩) 2 2).ownBlock = some g → ¬ X g :=
  ⟨World.ownsRow_lit w #[.int .i64 x, .int .i64 y] 2 h.lt (by unfold maxLen; omega) rfl, h.fresh 2 2⟩
theorem kidsX_one {R : Nat} {w : World} {tv : Value} {l : List Tk} {nds : List Nd} {d dp m : Nat} (h : RdAt X R w tv l nds d dp m) (x : Int) :
    KidsAt (w.alloc (.cells #[.int .i64 x] 3)) (R + 1) (.slice (some ⟨w.heap.size, 0, none⟩) 1 1) [x] ∧ ∀ g, (Value.slice (some ⟨w.heap.size, 0, none⟩) 1 1).ownBlock = some g → ¬ X g :=
  ⟨World.ownsRow_lit w #[.int .i64 x] 1 h.lt (by unfold maxLen; omega) rfl, h.fresh 1 1⟩
theorem kidsX_nil (w : World) (B : Nat) : KidsAt w B (.slice none 0 0) [] ∧ ∀ g, (Value.slice none 0 0).ownBlock = some g → ¬ X g := ⟨kids_nil w B, fun g e => by cases e⟩
theorem cells5 {w : World} {B : Nat} {t : TypeId} {v0 v1 v2 v3 v4 : Value} (h : CellsAt w B t #[v0, v1, v2, v3, v4]) :
    w.cell? ⟨B, 0, none⟩ = some v0 ∧ w.cell? ⟨B, 1, none⟩ = some v1 ∧ w.cell? ⟨B, 2, none⟩ = some v2 ∧ w.cell? ⟨B, 3, none⟩ = some v3 ∧ w.cell? ⟨B, 4, none⟩ = some v4 := by
  unfold CellsAt at h
  simp [World.cell?, h]
theorem cells_set5 {w : World} {B : Nat} {t : TypeId} {v0 v1 v2 v3 v4 : Value} (h : CellsAt w B t #[v0, v1, v2, v3, v4]) (a b c d e : Value) :
    CellsAt (((((w.setCell ⟨B, 0, none⟩ a).setCell ⟨B, 1, none⟩ b).setCell ⟨B, 2, none⟩ c).setCell ⟨B, 3, none⟩ d).setCell ⟨B, 4, none⟩ e) B t #[a, b, c, d, e] :=
  cells_set (cells_set (cells_set (cells_set (cells_set h 0 a) 1 b) 2 c) 3 d) 4 e
theorem cells5f {w : World} {B : Nat} {t : TypeId} {cs : Array Value} (h : CellsAt w B t cs) :
    w.frozen? ⟨B, 0, none⟩ = false ∧ w.frozen? ⟨B, 1, none⟩ = false ∧ w.frozen? ⟨B, 2, none⟩ = false ∧ w.frozen? ⟨B, 3, none⟩ = false ∧ w.frozen? ⟨B, 4, none⟩ = false := ⟨cells_f h 0, cells_f h 1, cells_f h 2, cells_f h 3, cells_f h 4⟩
end Go.Proofs.YtloamahbghjjgaaGreatDoor

namespace Go.Proofs.YtloamahbghjjgaaGreatDoor
open Go.RowKit
variable {X : Nat → Prop}

def noT : Tk := ⟨9, emp, 0, 0, zeroF, 0⟩
def headT (l : List Tk) : Tk := match l with | [] => noT | t :: _ => t
theorem tk_at {w : World} {a : Option Addr} {t : Tk} {l : List Tk} (h : ToksIn w a (t :: l)) : ∃ g off, a = some ⟨g, off, none⟩ ∧ g < w.heap.size ∧
    (∀ (j : Nat) (u : Value), t.cells[j]? = some u → w.cell? ⟨g, off + j, none⟩ = some u) ∧ ToksIn w (some ⟨g, off + 16, none⟩) l := by
  rcases h with h | ⟨g, off, rfl, hg, hc⟩
  · cases h
  · refine ⟨g, off, rfl, hg, fun j u hu => by have := hc 0 t rfl j u hu; simpa using this, ?_⟩
    by_cases hl : l = []
    · exact Or.inl hl
    · refine Or.inr ⟨g, off + 16, rfl, hg, fun i u hi j v hv => ?_⟩
      have := hc (i + 1) u (by simpa using hi) j v hv
      rw [show off + (i + 1) * 16 + j = off + 16 + i * 16 + j by omega] at this
      exact this
theorem tk_cells {w : World} {g off : Nat} {t : Tk} (h : ∀ (j : Nat) (u : Value), t.cells[j]? = some u → w.cell? ⟨g, off + j, none⟩ = some u) :
    w.cell? ⟨g, off, none⟩ = some (.int .i64 t.kind) ∧ w.cell? ⟨g, off + 1, none⟩ = some (.string t.text) ∧ w.cell? ⟨g, off + 2, none⟩ = some (.int .i64 t.num) ∧ w.cell? ⟨g, off + 3, none⟩ = some (.int .i64 t.fail) ∧ w.cell? ⟨g, off + 4, none⟩ = some (.string t.ref.book) ∧ w.cell? ⟨g, off + 5, none⟩ = some (.string t.ref.sheet) ∧ w.cell? ⟨g, off + 6, none⟩ = some (.int .i64 t.ref.a.col) ∧ w.cell? ⟨g, off + 7, none⟩ = some (.int .i64 t.ref.a.row) ∧ w.cell? ⟨g, off + 8, none⟩ = some (.bool t.ref.a.fc) ∧ w.cell? ⟨g, off + 9, none⟩ = some (.bool t.ref.a.fr) ∧ w.cell? ⟨g, off + 10, none⟩ = some (.int .i64 t.ref.b.col) ∧ w.cell? ⟨g, off + 11, none⟩ = some (.int .i64 t.ref.b.row) ∧ w.cell? ⟨g, off + 12, none⟩ = some (.bool t.ref.b.fc) ∧ w.cell? ⟨g, off + 13, none⟩ = some (.bool t.ref.b.fr) ∧ w.cell? ⟨g, off + 14, none⟩ = some (.bool t.ref.wide) ∧ w.cell? ⟨g, off + 15, none⟩ = some (.int .i64 t.place) :=
  ⟨h 0 _ rfl, h 1 _ rfl, h 2 _ rfl, h 3 _ rfl, h 4 _ rfl, h 5 _ rfl, h 6 _ rfl, h 7 _ rfl, h 8 _ rfl, h 9 _ rfl, h 10 _ rfl, h 11 _ rfl, h 12 _ rfl, h 13 _ rfl, h 14 _ rfl, h 15 _ rfl⟩
set_option maxRecDepth 100000 in
set_option maxHeartbeats 4000000 in
theorem ahead_val (R : Nat) (w : World) (tv : Value) (l : List Tk) (nds : List Nd) (d dp m : Nat) (h : RdAt X R w tv l nds d dp m) :
    Calls Tryz.prog 191 #[.pointer (some ⟨R, 0, none⟩)] w fun e w' => e = .returned (.agg (headT l).cells) ∧ Below w.heap.size w w' := by
  obtain ⟨a, cap, hc, hcap, ht, ha⟩ := h.cells
  have HT := hide (toks_below ht (below_al w (.cells #[.int .i64 0, .string ⟨#[]⟩, .int .i64 0, .int .i64 0, .string ⟨#[]⟩, .string ⟨#[]⟩, .int .i64 0, .int .i64 0, .bool false, .bool false, .int .i64 0, .int .i64 0, .bool false, .bool false, .bool false, .int .i64 0] tkT)))
  obtain ⟨c0, c1, c2, c3, c4⟩ := cells5 (cells_al hc (.cells #[.int .i64 0, .string ⟨#[]⟩, .int .i64 0, .int .i64 0, .string ⟨#[]⟩, .string ⟨#[]⟩, .int .i64 0, .int .i64 0, .bool false, .bool false, .int .i64 0, .int .i64 0, .bool false, .bool false, .bool false, .int .i64 0] tkT))
  clear ht hc h ha c1 c2 c3 c4
  cases l with
  | nil =>
    simp only [List.length_nil] at c0
    go_enter Tryz.func191, Tryz.ntmps191
    go_wp2
    refine bodyPost_ret (results_c1 rfl _ _ _ _ _ _ rfl (cells_new w tkT noT.cells) Tryz.underlying116 rfl infoTk) rfl ?_
    exact ⟨rfl, below_al _ _⟩
  | cons t l =>
    obtain ⟨g, off, rfl, hg, htk, _⟩ := tk_at (unhide HT)
    obtain ⟨t0, t1, t2, t3, t4, t5, t6, t7, t8, t9, t10, t11, t12, t13, t14, t15⟩ := tk_cells htk
    have hl0 : ¬ ((l.length : Int) + 1 = 0) := by omega
    simp only [List.length_cons] at c0
    clear htk HT hg
    go_enter Tryz.func191, Tryz.ntmps191
    go_wp2
    refine bodyPost_ret (results_c1 rfl _ _ _ _ _ _ rfl (cells_new w tkT t.cells) Tryz.underlying116 rfl infoTk) rfl ?_
    exact ⟨rfl, below_al _ _⟩
def opS (t : Tk) : ByteArray := if t.kind = 5 then t.text else emp
theorem opS_list (t : Tk) : (opS t).data.toList = opL5 t := by
  unfold opS opL5
  split <;> rfl
theorem tk_new (w : World) (T : Tk) : (storeCells ⟨w.heap.size, 0, none⟩ T.cells.toList 0).run Tryz.prog (w.alloc (.cells #[.int .i64 0, .string ⟨#[]⟩, .int .i64 0, .int .i64 0, .string ⟨#[]⟩, .string ⟨#[]⟩, .int .i64 0, .int .i64 0, .bool false, .bool false, .int .i64 0, .int .i64 0, .bool false, .bool false, .bool false, .int .i64 0] tkT)) = .ok () (w.alloc (.cells T.cells tkT)) :=
  run_storeCells_new w tkT #[.int .i64 0, .string ⟨#[]⟩, .int .i64 0, .int .i64 0, .string ⟨#[]⟩, .string ⟨#[]⟩, .int .i64 0, .int .i64 0, .bool false, .bool false, .int .i64 0, .int .i64 0, .bool false, .bool false, .bool false, .int .i64 0] T.cells infoTk rfl (tk_row T).2
theorem tk_kind (w : World) (T : Tk) : (w.alloc (.cells T.cells tkT)).cell? ⟨w.heap.size, 0, none⟩ = some (.int .i64 T.kind) := cells_c (cells_new w tkT T.cells) 0 _ rfl
theorem tk_text (w : World) (T : Tk) : (w.alloc (.cells T.cells tkT)).cell? ⟨w.heap.size, 1, none⟩ = some (.string T.text) := cells_c (cells_new w tkT T.cells) 1 _ rfl
theorem tk_size (T : Tk) : T.cells.size = 16 := rfl
set_option maxRecDepth 100000 in
set_option maxHeartbeats 4000000 in
theorem rop_val (R : Nat) (w : World) (tv : Value) (l : List Tk) (nds : List Nd) (d dp m : Nat) (h : RdAt X R w tv l nds d dp m) :
    Calls Tryz.prog 153 #[.pointer (some ⟨R, 0, none⟩)] w fun e w' => e = .returned (.string (opS (headT l))) ∧ Below w.heap.size w w' := by
  have HA := hide (ahead_val R w tv l nds d dp m h)
  obtain ⟨T, hT⟩ : ∃ T, headT l = T := ⟨_, rfl⟩
  rw [hT] at HA
  rw [hT]
  clear hT h
  have zT := tk_size T
  unfold opS
  by_cases hk : T.kind = 5
  · rw [if_pos hk]
    go_enter Tryz.func153, Tryz.ntmps153
    go_wp2_with fail
    refine (unhide HA).mono ?_
    rintro e w1 ⟨rfl, b1⟩
    have st := tk_new w1 T
    have k0 := tk_kind w1 T
    have k1 := tk_text w1 T
    rw [hk] at k0
    clear hk
    go_wp2
    go_ret
    exact ⟨rfl, below_nx b1 (below_al _ _)⟩
  · rw [if_neg hk]
    go_enter Tryz.func153, Tryz.ntmps153
    go_wp2_with fail
    refine (unhide HA).mono ?_
    rintro e w1 ⟨rfl, b1⟩
    have st := tk_new w1 T
    have k0 := tk_kind w1 T
    go_wp2
    go_ret
    exact ⟨rfl, below_nx b1 (below_al _ _)⟩
def noForm : List PanicEntry := [{ v := .iface 24 (.int .i64 4), recovered := false }]
set_option maxRecDepth 100000 in
set_option maxHeartbeats 4000000 in
theorem take_bad (R : Nat) (w : World) (tv : Value) (l : List Tk) (nds : List Nd) (d dp m : Nat) (k : Int) (h : RdAt X R w tv l nds d dp m) (hk : (headT l).kind ≠ k) :
    Calls Tryz.prog 154 #[.pointer (some ⟨R, 0, none⟩), .int .i64 k] w fun e w' => e = .panicked noForm ∧ Frm R w w' := by
  have HA := hide (ahead_val R _ tv l nds d dp m (h.nx (below_al w (.cells #[.int .i64 0, .string ⟨#[]⟩, .int .i64 0, .int .i64 0, .string ⟨#[]⟩, .string ⟨#[]⟩, .int .i64 0, .int .i64 0, .bool false, .bool false, .int .i64 0, .int .i64 0, .bool false, .bool false, .bool false, .int .i64 0] tkT))))
  obtain ⟨T, hT⟩ : ∃ T, headT l = T := ⟨_, rfl⟩
  rw [hT] at HA hk
  clear hT h
  have zT := tk_size T
  go_enter Tryz.func154, Tryz.ntmps154
  go_wp2_with fail
  refine (unhide HA).mono ?_
  rintro e w1 ⟨rfl, b1⟩
  have HB := hide (below_nx (below_al w _) b1)
  clear b1
  have st := tk_new w1 T
  have k0 := tk_kind w1 T
  have k2 : (T.kind != k) = true := by simpa using hk
  clear hk
  go_wp2
  exact ⟨rfl, rfl, Frm.of (below_nx (unhide HB) (below_al _ _))⟩
theorem RdAt.apart {R A : Nat} {w w' : World} {tv : Value} {l : List Tk} {nds : List Nd} {d dp m : Nat} {cs : Array Value} (h : RdAt X R w tv l nds d dp m) (hA : CellsAt w A tkT cs) (hR : R < A) (hb : ∀ k, k ≠ A → w'.heap[k]? = w.heap[k]?) (hs : w.heap.size ≤ w'.heap.size) : RdAt X R w' tv l nds d dp m := by
  obtain ⟨a, cap, h1, h2, h3, h4⟩ := h.cells
  obtain ⟨ps, p1, p2, p3⟩ := h.row
  have far : ∀ {B T n s : Nat} {v : Value} {xs : List Value}, w.ownsRow B T s v n xs → T ≠ tkT → w'.ownsRow B T s v n xs := fun {B T n s v xs} hr hT =>
    owns_grown hr (fun k _ hv => hb k (fun e => by
      obtain ⟨cur, hc⟩ := owns_type hr hv
      unfold CellsAt at hA
      rw [e, hA] at hc
      cases hc
      exact hT rfl))
  refine ⟨⟨a, cap, ?_, h2, toks_old h3 h4 (fun k hk => hb k (by omega)) hs, h4⟩, ⟨ps, p1, far p2 (by decide), fun p hp => ⟨far (p3 p hp).1 (by decide), (p3 p hp).2⟩⟩, fun x hx => Nat.lt_of_lt_of_le (h.lim x hx) hs⟩
  unfold CellsAt at h1 ⊢
  rw [hb R (by omega)]; exact h1
theorem setRow_else (w : World) (A : Nat) (cs : Array Value) (k : Nat) (h : k ≠ A) : (w.setRow A cs).heap[k]? = w.heap[k]? := setRow_other w A k cs h
theorem range_cells {w : World} {B : Nat} {t : TypeId} {cs : Array Value} (h : CellsAt w B t cs) : w.rangeAt B 0 cs.toList := fun j v hv => by
  rw [Nat.zero_add]; exact cells_c h j v (by simpa using hv)
set_option maxRecDepth 100000 in
set_option maxHeartbeats 4000000 in
theorem take_ok (R : Nat) (w : World) (tv : Value) (t : Tk) (l : List Tk) (nds : List Nd) (d dp m : Nat) (h : RdAt X R w tv (t :: l) nds d dp m) (hlen : l.length ≤ 1000000) :
    Calls Tryz.prog 154 #[.pointer (some ⟨R, 0, none⟩), .int .i64 t.kind] w fun e w' => e = .returned (.agg t.cells) ∧ RdAt X R w' tv l nds d dp m ∧ Frm R w w' := by
  have HA := hide (ahead_val R _ tv (t :: l) nds d dp m (h.nx (below_al w (.cells #[.int .i64 0, .string ⟨#[]⟩, .int .i64 0, .int .i64 0, .string ⟨#[]⟩, .string ⟨#[]⟩, .int .i64 0, .int .i64 0, .bool false, .bool false, .int .i64 0, .int .i64 0, .bool false, .bool false, .bool false, .int .i64 0] tkT))))
  have hR := h.lt
  have HH := hide h
  clear h
  have zT := tk_size t
  have h2 : (t.kind != t.kind) = false := by simp
  go_enter Tryz.func154, Tryz.ntmps154
  go_wp2_with fail
  refine (unhide HA).mono ?_
  rintro e w1 ⟨rfl, b1⟩
  have HB := hide (below_nx (below_nx (below_al w _) b1) (below_al w1 (.cells t.cells tkT)))
  have CA := hide (cells_al (cells_nx (cells_new w tkT #[.int .i64 0, .string ⟨#[]⟩, .int .i64 0, .int .i64 0, .string ⟨#[]⟩, .string ⟨#[]⟩, .int .i64 0, .int .i64 0, .bool false, .bool false, .int .i64 0, .int .i64 0, .bool false, .bool false, .bool false, .int .i64 0]) b1) (.cells t.cells tkT))
  have C5 := hide (cells_new w1 tkT t.cells)
  have hlt : w.heap.size < w1.heap.size := by have := b1.size; simp at this; omega
  clear b1
  have st := tk_new w1 t
  have k0 := tk_kind w1 t
  rw [show headT (t :: l) = t from rfl]
  clear HA
  go_upto_region 4 with fail
  clear st k0
  generalize hW : w1.alloc (.cells t.cells tkT) = W1 at HB CA C5 ⊢
  obtain ⟨N1, hN1⟩ : ∃ N1, w1.heap.size = N1 := ⟨_, rfl⟩
  rw [hN1] at C5 hlt ⊢
  clear hW hN1
  have RD := hide ((unhide HH).nx (unhide HB))
  obtain ⟨a, cap, hc, hcap, ht, ha⟩ := (unhide RD).cells
  have HC := hide hc
  obtain ⟨g, off, rfl, hg, _, ht'⟩ := tk_at ht
  have HT := hide ht'
  have hgR : g < R := ha _ rfl
  clear ha ht ht' hg
  obtain ⟨c0, _, _, _, _⟩ := cells5 hc
  have f0 := cells_f hc 0
  clear hc
  simp only [List.length_cons] at c0 hcap
  have fin : ∀ (a' : Option Addr) (cap' : Nat), l.length ≤ cap' → ToksIn W1 a' l → (∀ p, a' = some p → p.block < R) →
      RdAt X R ((W1.setCell ⟨R, 0, none⟩ (.slice a' l.length cap')).setRow w.heap.size t.cells) tv l nds d dp m ∧ Frm R w ((W1.setCell ⟨R, 0, none⟩ (.slice a' l.length cap')).setRow w.heap.size t.cells) := by
    intro a' cap' q1 q2 q3
    have hp : RdAt X R (W1.setCell ⟨R, 0, none⟩ (.slice a' l.length cap')) tv l nds d dp m :=
      (unhide RD).put 0 (.slice a' l.length cap') tv l d dp m (fun a cap _ _ _ _ => ⟨a', cap', rfl, q1, q2, q3⟩) (unhide RD).row
    refine ⟨hp.apart (cells_set_far (unhide CA) (show w.heap.size ≠ R by omega) 0 _) hR (fun k hk => setRow_else _ _ _ k hk) (by simp [World.setRow]), ?_⟩
    have h1 : Frm R w (W1.setCell ⟨R, 0, none⟩ (.slice a' l.length cap')) := (Frm.of (unhide HB)).set 0 _
    refine ⟨h1.os, h1.tape, h1.output, (by have := h1.size; simp [World.setRow, World.setCell] at this ⊢; exact this), fun k hk hkR hn => ?_⟩
    rw [setRow_else _ _ _ k (by omega)]
    exact h1.block k hk hkR hn
  have HF := hide fin
  clear fin
  by_cases h1 : cap = 1
  · subst h1
    have hl : l = [] := List.eq_nil_of_length_eq_zero (by omega)
    subst hl
    simp only [List.length_nil] at c0 hcap
    have CA2 := hide (cells_set_far (unhide CA) (show w.heap.size ≠ R by omega) 0 (.slice (some ⟨g, off, none⟩) 0 0))
    have C52 := hide (range_cells (cells_set_far (unhide C5) (show N1 ≠ R by omega) 0 (.slice (some ⟨g, off, none⟩) 0 0)))
    have st2 := tk_store (P := Tryz.prog) (unhide CA2) rfl (tk_row t)
    go_wp2_with (refine wpList_load_mid rfl 116 _ rfl N1 0 rfl t.cells.toList _ (unhide C52) Tryz.underlying116 rfl infoTk ?_)
    refine bodyPost_ret (results_c1 rfl _ _ _ _ _ _ rfl (cells_row (unhide CA2) t.cells) Tryz.underlying116 rfl infoTk) rfl ?_
    exact ⟨rfl, unhide HF (some ⟨g, off, none⟩) 0 (by simp) (Or.inl rfl) (fun p hp => by cases hp; exact hgR)⟩
  · have CA2 := hide (cells_set_far (unhide CA) (show w.heap.size ≠ R by omega) 0 (.slice (some ⟨g, off + 16, none⟩) l.length (cap - 1)))
    have C52 := hide (range_cells (cells_set_far (unhide C5) (show N1 ≠ R by omega) 0 (.slice (some ⟨g, off + 16, none⟩) l.length (cap - 1))))
    have st2 := tk_store (P := Tryz.prog) (unhide CA2) rfl (tk_row t)
    go_wp2_with (refine wpList_load_mid rfl 116 _ rfl N1 0 rfl t.cells.toList _ (unhide C52) Tryz.underlying116 rfl infoTk ?_)
    refine bodyPost_ret (results_c1 rfl _ _ _ _ _ _ rfl (cells_row (unhide CA2) t.cells) Tryz.underlying116 rfl infoTk) rfl ?_
    exact ⟨rfl, unhide HF (some ⟨g, off + 16, none⟩) (cap - 1) (by omega) (unhide HT) (fun p hp => by cases hp; exact hgR)⟩
theorem tk_fld0 (T : Tk) (w : World) : (Instr.field 116 (.agg T.cells) 0).run Tryz.prog w = .ok (.int .i64 T.kind) w := by kernel_rfl
theorem tk_fld1 (T : Tk) (w : World) : (Instr.field 116 (.agg T.cells) 1).run Tryz.prog w = .ok (.string T.text) w := by kernel_rfl
theorem tk_fld4 (T : Tk) (w : World) : (Instr.field 116 (.agg T.cells) 4).run Tryz.prog w = .ok (.agg #[.string T.ref.book, .string T.ref.sheet, .int .i64 T.ref.a.col, .int .i64 T.ref.a.row, .bool T.ref.a.fc, .bool T.ref.a.fr, .int .i64 T.ref.b.col, .int .i64 T.ref.b.row, .bool T.ref.b.fc, .bool T.ref.b.fr, .bool T.ref.wide]) w := by kernel_rfl
end Go.Proofs.YtloamahbghjjgaaGreatDoor

namespace Go.Proofs.YtloamahbghjjgaaGreatDoor
open Go.RowKit

theorem infoVal : (Tryz.prog.info? 46).map (·.size) = some 5 := by kernel_rfl

set_option maxHeartbeats 1000000 in
theorem e_val (f : Int) (w : World) :
    Calls Tryz.prog 203 #[.int .i64 f] w fun e w' => e = .returned (.agg (vE f).cells) ∧ Below w.heap.size w w' := by
  unfold vE Vl.cells
  by_cases h1 : f ≤ 0
  · rw [if_pos (Or.inl (by omega))]
    go_enter Tryz.func203, Tryz.ntmps203
    go_wp2
    refine bodyPost_ret (results_cell_row rfl _ _ _ _ _ _ _ rfl (heap_alloc_new _ _) Tryz.underlying46 rfl infoVal) rfl ?_
    exact ⟨rfl, (Below.refl _ _).alloc (Nat.le_refl _) _⟩
  · by_cases h2 : 9 ≤ f
    · rw [if_pos (Or.inr (by omega))]
      go_enter Tryz.func203, Tryz.ntmps203
      go_wp2
      refine bodyPost_ret (results_cell_row rfl _ _ _ _ _ _ _ rfl (heap_alloc_new _ _) Tryz.underlying46 rfl infoVal) rfl ?_
      exact ⟨rfl, (Below.refl _ _).alloc (Nat.le_refl _) _⟩
    · rw [if_neg (by omega)]
      have d2 : decide (9 ≤ f) = false := decide_eq_false h2
      go_enter Tryz.func203, Tryz.ntmps203
      go_wp2
      refine bodyPost_ret (results_cell_row rfl _ _ _ _ _ _ _ rfl (heap_alloc_new _ _) Tryz.underlying46 rfl infoVal) rfl ?_
      exact ⟨rfl, (Below.refl _ _).alloc (Nat.le_refl _) _⟩

set_option maxHeartbeats 1000000 in
theorem b_val (b : Bool) (w : World) :
    Calls Tryz.prog 47 #[.bool b] w fun e w' => e = .returned (.agg (vB b).cells) ∧ Below w.heap.size w w' := by
  unfold vB Vl.cells
  go_enter Tryz.func47, Tryz.ntmps47
  go_wp2
  refine bodyPost_ret (results_cell_row rfl _ _ _ _ _ _ _ rfl (heap_alloc_new _ _) Tryz.underlying46 rfl infoVal) rfl ?_
  exact ⟨rfl, (Below.refl _ _).alloc (Nat.le_refl _) _⟩
set_option maxHeartbeats 2000000 in
theorem n_val (n : Int) (w : World) :
    Calls Tryz.prog 201 #[.int .i64 n] w fun e w' => e = .returned (.agg (vN n).cells) ∧ Below w.heap.size w w' := by
  have HR := hide (fun w => raw_any n w)
  unfold vN
  cases hg : goodB n
  · rw [hg] at HR
    clear hg
    go_enter Tryz.func201, Tryz.ntmps201
    go_wp2_with fail
    refine (unhide HR _).mono ?_
    rintro e w1 ⟨rfl, b1⟩
    have HF := hide (five_below (five_new w 46 _ _ _ _ _) b1 (by simp))
    have HB := hide ((below_al w _).trans (b1.mono (by simp)))
    clear b1
    go_wp2_with fail
    refine (e_val 2 _).mono ?_
    rintro e w2 ⟨rfl, b2⟩
    replace HF := hide (five_below (unhide HF) b2 (five_lt (unhide HF)))
    replace HB := hide (below_nx (unhide HB) b2)
    clear b2
    unfold vE Vl.cells
    have hf := unhide HF
    obtain ⟨x0, c0⟩ := five_c hf 0 (by omega)
    obtain ⟨x1, c1⟩ := five_c hf 1 (by omega)
    obtain ⟨x2, c2⟩ := five_c hf 2 (by omega)
    obtain ⟨x3, c3⟩ := five_c hf 3 (by omega)
    obtain ⟨x4, c4⟩ := five_c hf 4 (by omega)
    have f0 := five_f hf 0
    have f1 := five_f hf 1
    have f2 := five_f hf 2
    have f3 := five_f hf 3
    have f4 := five_f hf 4
    clear hf
    go_wp2
    refine bodyPost_ret (results_cell_row rfl _ _ _ _ _ _ _ rfl (five_set (unhide HF) _ _ _ _ _).1 Tryz.underlying46 rfl infoVal) rfl ?_
    exact ⟨rfl, below_five (unhide HB) (Nat.le_refl _) _ _ _ _ _⟩
  · rw [hg] at HR
    clear hg
    unfold Vl.cells
    go_enter Tryz.func201, Tryz.ntmps201
    go_wp2_with fail
    refine (unhide HR _).mono ?_
    rintro e w1 ⟨rfl, b1⟩
    have HF := hide (five_below (five_new w 46 _ _ _ _ _) b1 (by simp))
    have HB := hide ((below_al w _).trans (b1.mono (by simp)))
    clear b1
    have hf := unhide HF
    obtain ⟨x0, c0⟩ := five_c hf 0 (by omega)
    obtain ⟨x1, c1⟩ := five_c hf 1 (by omega)
    obtain ⟨x2, c2⟩ := five_c hf 2 (by omega)
    obtain ⟨x3, c3⟩ := five_c hf 3 (by omega)
    obtain ⟨x4, c4⟩ := five_c hf 4 (by omega)
    have f0 := five_f hf 0
    have f1 := five_f hf 1
    have f2 := five_f hf 2
    have f3 := five_f hf 3
    have f4 := five_f hf 4
    clear hf
    go_wp2
    refine bodyPost_ret (results_cell_row rfl _ _ _ _ _ _ _ rfl (five_set (unhide HF) _ _ _ _ _).1 Tryz.underlying46 rfl infoVal) rfl ?_
    exact ⟨rfl, below_five (unhide HB) (Nat.le_refl _) _ _ _ _ _⟩

set_option maxHeartbeats 2000000 in
theorem t_val (s : ByteArray) (w : World) (hs : s.size ≤ 1000000) :
    Calls Tryz.prog 202 #[.string s] w fun e w' => e = .returned (.agg (vT s).cells) ∧ Below w.heap.size w w' := by
  unfold vT
  by_cases hl : 255 < s.size
  · rw [if_pos hl]
    have hi : 255 < (s.size : Int) := by omega
    clear hl
    go_enter Tryz.func202, Tryz.ntmps202
    go_wp2_with fail
    refine (e_val 3 _).mono ?_
    rintro e w1 ⟨rfl, b1⟩
    have HF := hide (five_below (five_new w 46 _ _ _ _ _) b1 (by simp))
    have HB := hide ((below_al w _).trans (b1.mono (by simp)))
    clear b1
    unfold vE Vl.cells
    have hf := unhide HF
    obtain ⟨x0, c0⟩ := five_c hf 0 (by omega)
    obtain ⟨x1, c1⟩ := five_c hf 1 (by omega)
    obtain ⟨x2, c2⟩ := five_c hf 2 (by omega)
    obtain ⟨x3, c3⟩ := five_c hf 3 (by omega)
    obtain ⟨x4, c4⟩ := five_c hf 4 (by omega)
    have f0 := five_f hf 0
    have f1 := five_f hf 1
    have f2 := five_f hf 2
    have f3 := five_f hf 3
    have f4 := five_f hf 4
    clear hf
    go_wp2
    refine bodyPost_ret (results_cell_row rfl _ _ _ _ _ _ _ rfl (five_set (unhide HF) _ _ _ _ _).1 Tryz.underlying46 rfl infoVal) rfl ?_
    exact ⟨rfl, below_five (unhide HB) (Nat.le_refl _) _ _ _ _ _⟩
  · rw [if_neg hl]
    have hi : (s.size : Int) ≤ 255 := by omega
    clear hl
    unfold Vl.cells
    go_enter Tryz.func202, Tryz.ntmps202
    go_wp2
    refine bodyPost_ret (results_cell_row rfl _ _ _ _ _ _ _ rfl (heap_alloc_new _ _) Tryz.underlying46 rfl infoVal) rfl ?_
    exact ⟨rfl, below_al _ _⟩
end Go.Proofs.YtloamahbghjjgaaGreatDoor

namespace Go.Proofs.YtloamahbghjjgaaGreatDoor
open Go.RowKit

theorem eq_false_of {s : ByteArray} {l : List UInt8} (h : s.toList ≠ l) : (s.toList == l) = false := by simpa using h
set_option maxHeartbeats 4000000 in
theorem binding_val (s : ByteArray) (w : World) : Calls Tryz.prog 119 #[.string s] w fun e w' => e = .returned (.int .i64 (bindL s.data.toList : Nat)) ∧ w' = w := by
  rw [← ByteArray.toList_eq]
  by_cases h0 : s.toList = [61]
  · have hb : bindL s.toList = 1 := by rw [h0]; decide
    have e0 : (s.toList == [61]) = true := by rw [h0]; decide
    rw [hb]
    clear hb h0
    go_enter Tryz.func119, Tryz.ntmps119
    go_wp2
    go_ret
    exact ⟨rfl, rfl⟩
  by_cases h1 : s.toList = [60, 62]
  · have hb : bindL s.toList = 1 := by rw [h1]; decide
    have e0 : (s.toList == [61]) = false := by rw [h1]; decide
    have e1 : (s.toList == [60, 62]) = true := by rw [h1]; decide
    rw [hb]
    clear hb h0 h1
    go_enter Tryz.func119, Tryz.ntmps119
    go_wp2
    go_ret
    exact ⟨rfl, rfl⟩
  by_cases h2 : s.toList = [60]
  · have hb : bindL s.toList = 1 := by rw [h2]; decide
    have e0 : (s.toList == [61]) = false := by rw [h2]; decide
    have e1 : (s.toList == [60, 62]) = false := by rw [h2]; decide
    have e2 : (s.toList == [60]) = true := by rw [h2]; decide
    rw [hb]
    clear hb h0 h1 h2
    go_enter Tryz.func119, Tryz.ntmps119
    go_wp2
    go_ret
    exact ⟨rfl, rfl⟩
  by_cases h3 : s.toList = [60, 61]
  · have hb : bindL s.toList = 1 := by rw [h3]; decide
    have e0 : (s.toList == [61]) = false := by rw [h3]; decide
    have e1 : (s.toList == [60, 62]) = false := by rw [h3]; decide
    have e2 : (s.toList == [60]) = false := by rw [h3]; decide
    have e3 : (s.toList == [60, 61]) = true := by rw [h3]; decide
    rw [hb]
    clear hb h0 h1 h2 h3
    go_enter Tryz.func119, Tryz.ntmps119
    go_wp2
    go_ret
    exact ⟨rfl, rfl⟩
  by_cases h4 : s.toList = [62]
  · have hb : bindL s.toList = 1 := by rw [h4]; decide
    have e0 : (s.toList == [61]) = false := by rw [h4]; decide
    have e1 : (s.toList == [60, 62]) = false := by rw [h4]; decide
    have e2 : (s.toList == [60]) = false := by rw [h4]; decide
    have e3 : (s.toList == [60, 61]) = false := by rw [h4]; decide
    have e4 : (s.toList == [62]) = true := by rw [h4]; decide
    rw [hb]
    clear hb h0 h1 h2 h3 h4
    go_enter Tryz.func119, Tryz.ntmps119
    go_wp2
    go_ret
    exact ⟨rfl, rfl⟩
  by_cases h5 : s.toList = [62, 61]
  · have hb : bindL s.toList = 1 := by rw [h5]; decide
    have e0 : (s.toList == [61]) = false := by rw [h5]; decide
    have e1 : (s.toList == [60, 62]) = false := by rw [h5]; decide
    have e2 : (s.toList == [60]) = false := by rw [h5]; decide
    have e3 : (s.toList == [60, 61]) = false := by rw [h5]; decide
    have e4 : (s.toList == [62]) = false := by rw [h5]; decide
    have e5 : (s.toList == [62, 61]) = true := by rw [h5]; decide
    rw [hb]
    clear hb h0 h1 h2 h3 h4 h5
    go_enter Tryz.func119, Tryz.ntmps119
    go_wp2
    go_ret
    exact ⟨rfl, rfl⟩
  by_cases h6 : s.toList = [38]
  · have hb : bindL s.toList = 2 := by rw [h6]; decide
    have e0 : (s.toList == [61]) = false := by rw [h6]; decide
    have e1 : (s.toList == [60, 62]) = false := by rw [h6]; decide
    have e2 : (s.toList == [60]) = false := by rw [h6]; decide
    have e3 : (s.toList == [60, 61]) = false := by rw [h6]; decide
    have e4 : (s.toList == [62]) = false := by rw [h6]; decide
    have e5 : (s.toList == [62, 61]) = false := by rw [h6]; decide
    have e6 : (s.toList == [38]) = true := by rw [h6]; decide
    rw [hb]
    clear hb h0 h1 h2 h3 h4 h5 h6
    go_enter Tryz.func119, Tryz.ntmps119
    go_wp2
    go_ret
    exact ⟨rfl, rfl⟩
  by_cases h7 : s.toList = [43]
  · have hb : bindL s.toList = 3 := by rw [h7]; decide
    have e0 : (s.toList == [61]) = false := by rw [h7]; decide
    have e1 : (s.toList == [60, 62]) = false := by rw [h7]; decide
    have e2 : (s.toList == [60]) = false := by rw [h7]; decide
    have e3 : (s.toList == [60, 61]) = false := by rw [h7]; decide
    have e4 : (s.toList == [62]) = false := by rw [h7]; decide
    have e5 : (s.toList == [62, 61]) = false := by rw [h7]; decide
    have e6 : (s.toList == [38]) = false := by rw [h7]; decide
    have e7 : (s.toList == [43]) = true := by rw [h7]; decide
    rw [hb]
    clear hb h0 h1 h2 h3 h4 h5 h6 h7
    go_enter Tryz.func119, Tryz.ntmps119
    go_wp2
    go_ret
    exact ⟨rfl, rfl⟩
  by_cases h8 : s.toList = [45]
  · have hb : bindL s.toList = 3 := by rw [h8]; decide
    have e0 : (s.toList == [61]) = false := by rw [h8]; decide
    have e1 : (s.toList == [60, 62]) = false := by rw [h8]; decide
    have e2 : (s.toList == [60]) = false := by rw [h8]; decide
    have e3 : (s.toList == [60, 61]) = false := by rw [h8]; decide
    have e4 : (s.toList == [62]) = false := by rw [h8]; decide
    have e5 : (s.toList == [62, 61]) = false := by rw [h8]; decide
    have e6 : (s.toList == [38]) = false := by rw [h8]; decide
    have e7 : (s.toList == [43]) = false := by rw [h8]; decide
    have e8 : (s.toList == [45]) = true := by rw [h8]; decide
    rw [hb]
    clear hb h0 h1 h2 h3 h4 h5 h6 h7 h8
    go_enter Tryz.func119, Tryz.ntmps119
    go_wp2
    go_ret
    exact ⟨rfl, rfl⟩
  by_cases h9 : s.toList = [42]
  · have hb : bindL s.toList = 4 := by rw [h9]; decide
    have e0 : (s.toList == [61]) = false := by rw [h9]; decide
    have e1 : (s.toList == [60, 62]) = false := by rw [h9]; decide
    have e2 : (s.toList == [60]) = false := by rw [h9]; decide
    have e3 : (s.toList == [60, 61]) = false := by rw [h9]; decide
    have e4 : (s.toList == [62]) = false := by rw [h9]; decide
    have e5 : (s.toList == [62, 61]) = false := by rw [h9]; decide
    have e6 : (s.toList == [38]) = false := by rw [h9]; decide
    have e7 : (s.toList == [43]) = false := by rw [h9]; decide
    have e8 : (s.toList == [45]) = false := by rw [h9]; decide
    have e9 : (s.toList == [42]) = true := by rw [h9]; decide
    rw [hb]
    clear hb h0 h1 h2 h3 h4 h5 h6 h7 h8 h9
    go_enter Tryz.func119, Tryz.ntmps119
    go_wp2
    go_ret
    exact ⟨rfl, rfl⟩
  by_cases h10 : s.toList = [47]
  · have hb : bindL s.toList = 4 := by rw [h10]; decide
    have e0 : (s.toList == [61]) = false := by rw [h10]; decide
    have e1 : (s.toList == [60, 62]) = false := by rw [h10]; decide
    have e2 : (s.toList == [60]) = false := by rw [h10]; decide
    have e3 : (s.toList == [60, 61]) = false := by rw [h10]; decide
    have e4 : (s.toList == [62]) = false := by rw [h10]; decide
    have e5 : (s.toList == [62, 61]) = false := by rw [h10]; decide
    have e6 : (s.toList == [38]) = false := by rw [h10]; decide
    have e7 : (s.toList == [43]) = false := by rw [h10]; decide
    have e8 : (s.toList == [45]) = false := by rw [h10]; decide
    have e9 : (s.toList == [42]) = false := by rw [h10]; decide
    have e10 : (s.toList == [47]) = true := by rw [h10]; decide
    rw [hb]
    clear hb h0 h1 h2 h3 h4 h5 h6 h7 h8 h9 h10
    go_enter Tryz.func119, Tryz.ntmps119
    go_wp2
    go_ret
    exact ⟨rfl, rfl⟩
  by_cases h11 : s.toList = [94]
  · have hb : bindL s.toList = 5 := by rw [h11]; decide
    have e0 : (s.toList == [61]) = false := by rw [h11]; decide
    have e1 : (s.toList == [60, 62]) = false := by rw [h11]; decide
    have e2 : (s.toList == [60]) = false := by rw [h11]; decide
    have e3 : (s.toList == [60, 61]) = false := by rw [h11]; decide
    have e4 : (s.toList == [62]) = false := by rw [h11]; decide
    have e5 : (s.toList == [62, 61]) = false := by rw [h11]; decide
    have e6 : (s.toList == [38]) = false := by rw [h11]; decide
    have e7 : (s.toList == [43]) = false := by rw [h11]; decide
    have e8 : (s.toList == [45]) = false := by rw [h11]; decide
    have e9 : (s.toList == [42]) = false := by rw [h11]; decide
    have e10 : (s.toList == [47]) = false := by rw [h11]; decide
    have e11 : (s.toList == [94]) = true := by rw [h11]; decide
    rw [hb]
    clear hb h0 h1 h2 h3 h4 h5 h6 h7 h8 h9 h10 h11
    go_enter Tryz.func119, Tryz.ntmps119
    go_wp2
    go_ret
    exact ⟨rfl, rfl⟩
  have e0 := eq_false_of h0
  have e1 := eq_false_of h1
  have e2 := eq_false_of h2
  have e3 := eq_false_of h3
  have e4 := eq_false_of h4
  have e5 := eq_false_of h5
  have e6 := eq_false_of h6
  have e7 := eq_false_of h7
  have e8 := eq_false_of h8
  have e9 := eq_false_of h9
  have e10 := eq_false_of h10
  have e11 := eq_false_of h11
  have hb : bindL s.toList = 0 := by
    unfold bindL
    rw [if_neg (by simp [h0, h1, h2, h3, h4, h5]), if_neg h6, if_neg (by simp [h7, h8]), if_neg (by simp [h9, h10]), if_neg h11]
  rw [hb]
  clear hb h0 h1 h2 h3 h4 h5 h6 h7 h8 h9 h10 h11
  go_enter Tryz.func119, Tryz.ntmps119
  go_wp2
  go_ret
  exact ⟨rfl, rfl⟩
theorem litV_word (kd : Int) (tx : ByteArray) (nm fl : Int) (rf : Fl) (pl : Int) (h0 : kd ≠ 0) (h1 : kd ≠ 1) (h2 : kd ≠ 2) :
    litV ⟨kd, tx, nm, fl, rf, pl⟩ = if tx.data.toList = [84, 82, 85, 69] then vB true else if tx.data.toList = [70, 65, 76, 83, 69] then vB false else vE 5 := by
  unfold litV
  rw [if_neg h0, if_neg h1, if_neg h2]
set_option maxRecDepth 100000 in
set_option maxHeartbeats 4000000 in
theorem literal_val (t : Tk) (w : World) (ht : t.text.size ≤ 1000000) : Calls Tryz.prog 244 #[.agg t.cells] w fun e w' => e = .returned (.agg (litV t).cells) ∧ Below w.heap.size w w' := by
  obtain ⟨kd, tx, nm, fl, ⟨bk, sh, ⟨c1, r1, f1, g1⟩, ⟨c2, r2, f2, g2⟩, wd⟩, pl⟩ := t
  simp only [Tk.cells]
  by_cases h0 : kd = 0
  · subst h0
    have hl : litV ⟨0, tx, nm, fl, ⟨bk, sh, ⟨c1, r1, f1, g1⟩, ⟨c2, r2, f2, g2⟩, wd⟩, pl⟩ = vN nm := rfl
    obtain ⟨V, hV⟩ : ∃ V, litV ⟨0, tx, nm, fl, ⟨bk, sh, ⟨c1, r1, f1, g1⟩, ⟨c2, r2, f2, g2⟩, wd⟩, pl⟩ = V := ⟨_, rfl⟩
    have HC := hide (fun w => n_val nm w)
    rw [← hl, hV] at HC
    rw [hV]
    clear hV hl
    go_enter Tryz.func244, Tryz.ntmps244
    go_wp2_with fail
    refine (unhide HC _).mono ?_
    rintro e w1 ⟨rfl, b1⟩
    have HB := hide (((below_al2 w _ _)).trans (b1.mono (by simp; omega)))
    have HF := hide (cells_nx (cells_new2 w (.cells #[.int .i64 0, .string tx, .int .i64 nm, .int .i64 fl, .string bk, .string sh, .int .i64 c1, .int .i64 r1, .bool f1, .bool g1, .int .i64 c2, .int .i64 r2, .bool f2, .bool g2, .bool wd, .int .i64 pl] tkT) 46 #[.int .i64 0, .int .i64 0, .string ⟨#[]⟩, .bool false, .int .i64 0]) b1)
    clear b1
    obtain ⟨V0, V1, V2, V3, V4⟩ := V
    unfold Vl.cells
    obtain ⟨x0, x1, x2, x3, x4⟩ := cells5 (unhide HF)
    obtain ⟨y0, y1, y2, y3, y4⟩ := cells5f (unhide HF)
    go_wp2
    refine bodyPost_ret (results_c1 rfl _ _ _ _ _ _ rfl (cells_set5 (unhide HF) _ _ _ _ _) Tryz.underlying46 rfl infoVal) rfl ?_
    exact ⟨rfl, below_five (unhide HB) (by omega) _ _ _ _ _⟩
  by_cases h1 : kd = 1
  · subst h1
    have hl : litV ⟨1, tx, nm, fl, ⟨bk, sh, ⟨c1, r1, f1, g1⟩, ⟨c2, r2, f2, g2⟩, wd⟩, pl⟩ = vT tx := rfl
    obtain ⟨V, hV⟩ : ∃ V, litV ⟨1, tx, nm, fl, ⟨bk, sh, ⟨c1, r1, f1, g1⟩, ⟨c2, r2, f2, g2⟩, wd⟩, pl⟩ = V := ⟨_, rfl⟩
    have HC := hide (fun w => t_val tx w ht)
    rw [← hl, hV] at HC
    rw [hV]
    clear hV hl h0
    go_enter Tryz.func244, Tryz.ntmps244
    go_wp2_with fail
    refine (unhide HC _).mono ?_
    rintro e w1 ⟨rfl, b1⟩
    have HB := hide (((below_al2 w _ _)).trans (b1.mono (by simp; omega)))
    have HF := hide (cells_nx (cells_new2 w (.cells #[.int .i64 1, .string tx, .int .i64 nm, .int .i64 fl, .string bk, .string sh, .int .i64 c1, .int .i64 r1, .bool f1, .bool g1, .int .i64 c2, .int .i64 r2, .bool f2, .bool g2, .bool wd, .int .i64 pl] tkT) 46 #[.int .i64 0, .int .i64 0, .string ⟨#[]⟩, .bool false, .int .i64 0]) b1)
    clear b1
    obtain ⟨V0, V1, V2, V3, V4⟩ := V
    unfold Vl.cells
    obtain ⟨x0, x1, x2, x3, x4⟩ := cells5 (unhide HF)
    obtain ⟨y0, y1, y2, y3, y4⟩ := cells5f (unhide HF)
    go_wp2
    refine bodyPost_ret (results_c1 rfl _ _ _ _ _ _ rfl (cells_set5 (unhide HF) _ _ _ _ _) Tryz.underlying46 rfl infoVal) rfl ?_
    exact ⟨rfl, below_five (unhide HB) (by omega) _ _ _ _ _⟩
  by_cases h2 : kd = 2
  · subst h2
    have hl : litV ⟨2, tx, nm, fl, ⟨bk, sh, ⟨c1, r1, f1, g1⟩, ⟨c2, r2, f2, g2⟩, wd⟩, pl⟩ = vE fl := rfl
    obtain ⟨V, hV⟩ : ∃ V, litV ⟨2, tx, nm, fl, ⟨bk, sh, ⟨c1, r1, f1, g1⟩, ⟨c2, r2, f2, g2⟩, wd⟩, pl⟩ = V := ⟨_, rfl⟩
    have HC := hide (fun w => e_val fl w)
    rw [← hl, hV] at HC
    rw [hV]
    clear hV hl h0 h1
    go_enter Tryz.func244, Tryz.ntmps244
    go_wp2_with fail
    refine (unhide HC _).mono ?_
    rintro e w1 ⟨rfl, b1⟩
    have HB := hide (((below_al2 w _ _)).trans (b1.mono (by simp; omega)))
    have HF := hide (cells_nx (cells_new2 w (.cells #[.int .i64 2, .string tx, .int .i64 nm, .int .i64 fl, .string bk, .string sh, .int .i64 c1, .int .i64 r1, .bool f1, .bool g1, .int .i64 c2, .int .i64 r2, .bool f2, .bool g2, .bool wd, .int .i64 pl] tkT) 46 #[.int .i64 0, .int .i64 0, .string ⟨#[]⟩, .bool false, .int .i64 0]) b1)
    clear b1
    obtain ⟨V0, V1, V2, V3, V4⟩ := V
    unfold Vl.cells
    obtain ⟨x0, x1, x2, x3, x4⟩ := cells5 (unhide HF)
    obtain ⟨y0, y1, y2, y3, y4⟩ := cells5f (unhide HF)
    go_wp2
    refine bodyPost_ret (results_c1 rfl _ _ _ _ _ _ rfl (cells_set5 (unhide HF) _ _ _ _ _) Tryz.underlying46 rfl infoVal) rfl ?_
    exact ⟨rfl, below_five (unhide HB) (by omega) _ _ _ _ _⟩
  have hw := litV_word kd tx nm fl ⟨bk, sh, ⟨c1, r1, f1, g1⟩, ⟨c2, r2, f2, g2⟩, wd⟩ pl h0 h1 h2
  rw [← ByteArray.toList_eq] at hw
  by_cases h3 : tx.toList = [84, 82, 85, 69]
  · rw [if_pos h3] at hw
    have e3 : (tx.toList == [84, 82, 85, 69]) = true := by rw [h3]; decide
    obtain ⟨V, hV⟩ : ∃ V, litV ⟨kd, tx, nm, fl, ⟨bk, sh, ⟨c1, r1, f1, g1⟩, ⟨c2, r2, f2, g2⟩, wd⟩, pl⟩ = V := ⟨_, rfl⟩
    have HC := hide (fun w => b_val true w)
    rw [← hw, hV] at HC
    rw [hV]
    clear hV hw
    go_enter Tryz.func244, Tryz.ntmps244
    go_wp2_with fail
    refine (unhide HC _).mono ?_
    rintro e w1 ⟨rfl, b1⟩
    have HB := hide (((below_al2 w _ _)).trans (b1.mono (by simp; omega)))
    have HF := hide (cells_nx (cells_new2 w (.cells #[.int .i64 kd, .string tx, .int .i64 nm, .int .i64 fl, .string bk, .string sh, .int .i64 c1, .int .i64 r1, .bool f1, .bool g1, .int .i64 c2, .int .i64 r2, .bool f2, .bool g2, .bool wd, .int .i64 pl] tkT) 46 #[.int .i64 0, .int .i64 0, .string ⟨#[]⟩, .bool false, .int .i64 0]) b1)
    clear b1
    obtain ⟨V0, V1, V2, V3, V4⟩ := V
    unfold Vl.cells
    obtain ⟨x0, x1, x2, x3, x4⟩ := cells5 (unhide HF)
    obtain ⟨y0, y1, y2, y3, y4⟩ := cells5f (unhide HF)
    go_wp2
    refine bodyPost_ret (results_c1 rfl _ _ _ _ _ _ rfl (cells_set5 (unhide HF) _ _ _ _ _) Tryz.underlying46 rfl infoVal) rfl ?_
    exact ⟨rfl, below_five (unhide HB) (by omega) _ _ _ _ _⟩
  by_cases h4 : tx.toList = [70, 65, 76, 83, 69]
  · rw [if_neg h3, if_pos h4] at hw
    have e3 : (tx.toList == [84, 82, 85, 69]) = false := eq_false_of h3
    have e4 : (tx.toList == [70, 65, 76, 83, 69]) = true := by rw [h4]; decide
    obtain ⟨V, hV⟩ : ∃ V, litV ⟨kd, tx, nm, fl, ⟨bk, sh, ⟨c1, r1, f1, g1⟩, ⟨c2, r2, f2, g2⟩, wd⟩, pl⟩ = V := ⟨_, rfl⟩
    have HC := hide (fun w => b_val false w)
    rw [← hw, hV] at HC
    rw [hV]
    clear hV hw
    go_enter Tryz.func244, Tryz.ntmps244
    go_wp2_with fail
    refine (unhide HC _).mono ?_
    rintro e w1 ⟨rfl, b1⟩
    have HB := hide (((below_al2 w _ _)).trans (b1.mono (by simp; omega)))
    have HF := hide (cells_nx (cells_new2 w (.cells #[.int .i64 kd, .string tx, .int .i64 nm, .int .i64 fl, .string bk, .string sh, .int .i64 c1, .int .i64 r1, .bool f1, .bool g1, .int .i64 c2, .int .i64 r2, .bool f2, .bool g2, .bool wd, .int .i64 pl] tkT) 46 #[.int .i64 0, .int .i64 0, .string ⟨#[]⟩, .bool false, .int .i64 0]) b1)
    clear b1
    obtain ⟨V0, V1, V2, V3, V4⟩ := V
    unfold Vl.cells
    obtain ⟨x0, x1, x2, x3, x4⟩ := cells5 (unhide HF)
    obtain ⟨y0, y1, y2, y3, y4⟩ := cells5f (unhide HF)
    go_wp2
    refine bodyPost_ret (results_c1 rfl _ _ _ _ _ _ rfl (cells_set5 (unhide HF) _ _ _ _ _) Tryz.underlying46 rfl infoVal) rfl ?_
    exact ⟨rfl, below_five (unhide HB) (by omega) _ _ _ _ _⟩
  rw [if_neg h3, if_neg h4] at hw
  have e3 : (tx.toList == [84, 82, 85, 69]) = false := eq_false_of h3
  have e4 : (tx.toList == [70, 65, 76, 83, 69]) = false := eq_false_of h4
  obtain ⟨V, hV⟩ : ∃ V, litV ⟨kd, tx, nm, fl, ⟨bk, sh, ⟨c1, r1, f1, g1⟩, ⟨c2, r2, f2, g2⟩, wd⟩, pl⟩ = V := ⟨_, rfl⟩
  have HC := hide (fun w => e_val 5 w)
  rw [← hw, hV] at HC
  rw [hV]
  clear hV hw
  go_enter Tryz.func244, Tryz.ntmps244
  go_wp2_with fail
  refine (unhide HC _).mono ?_
  rintro e w1 ⟨rfl, b1⟩
  have HB := hide (((below_al2 w _ _)).trans (b1.mono (by simp; omega)))
  have HF := hide (cells_nx (cells_new2 w (.cells #[.int .i64 kd, .string tx, .int .i64 nm, .int .i64 fl, .string bk, .string sh, .int .i64 c1, .int .i64 r1, .bool f1, .bool g1, .int .i64 c2, .int .i64 r2, .bool f2, .bool g2, .bool wd, .int .i64 pl] tkT) 46 #[.int .i64 0, .int .i64 0, .string ⟨#[]⟩, .bool false, .int .i64 0]) b1)
  clear b1
  obtain ⟨V0, V1, V2, V3, V4⟩ := V
  unfold Vl.cells
  obtain ⟨x0, x1, x2, x3, x4⟩ := cells5 (unhide HF)
  obtain ⟨y0, y1, y2, y3, y4⟩ := cells5f (unhide HF)
  go_wp2
  refine bodyPost_ret (results_c1 rfl _ _ _ _ _ _ rfl (cells_set5 (unhide HF) _ _ _ _ _) Tryz.underlying46 rfl infoVal) rfl ?_
  exact ⟨rfl, below_five (unhide HB) (by omega) _ _ _ _ _⟩
end Go.Proofs.YtloamahbghjjgaaGreatDoor
