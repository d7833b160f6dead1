/- Rows of nodes in memory; the reader's cells; what a call of the reader leaves as it was. -/
import Derived.Test.YtloamahbghjjgaaGreatDoorPaG
import Derived.Test.YtloamahbghjjgaaGreatDoorLxQ0
import Derived.Test.YtloamahbghjjgaaGreatDoorAdV
import Derived.Deep.RegionLaw
import Derived.Laws.OwnMore
namespace Go.Proofs.YtloamahbghjjgaaGreatDoor
open Go.RowKit

theorem results_t1 {P : Program} {fn : Func} {a : Tmp} (h : fn.results = #[.tmp a]) (tmps : Array Value) (w : World) (x : Value) (hx : tmps.getD a undef = x) :
    (results fn tmps).run P w = .ok x w := by
  have hx' : tmps[a]?.getD undef = x := by simpa using hx
  simp [results, h, hx']
def Nd.cells (n : Nd) (kv : Value) : Array Value := #[.int .i64 n.kind, .string n.op, .int .i64 n.val.kind, .int .i64 n.val.num, .string n.val.text, .bool n.val.tr, .int .i64 n.val.fail, .string n.ref.book, .string n.ref.sheet, .int .i64 n.ref.a.col, .int .i64 n.ref.a.row, .bool n.ref.a.fc, .bool n.ref.a.fr, .int .i64 n.ref.b.col, .int .i64 n.ref.b.row, .bool n.ref.b.fc, .bool n.ref.b.fr, .bool n.ref.wide, kv]
/-- Kids in memory. -/
def KidsAt (w : World) (B : Nat) (kv : Value) (ks : List Int) : Prop := w.ownsRow B 3 1 kv ks.length (ks.map fun k => Value.int .i64 k)
abbrev Np := Nd × Value
def flatN (ps : List Np) : List Value := ps.flatMap (fun p => (p.1.cells p.2).toList)
theorem flatN_snoc (ps : List Np) (p : Np) : flatN (ps ++ [p]) = flatN ps ++ (p.1.cells p.2).toList := by unfold flatN; simp
theorem flatN_len (ps : List Np) : (flatN ps).length = ps.length * 19 := by
  induction ps with
  | nil => rfl
  | cons p ps ih =>
    unfold flatN at ih ⊢
    rw [List.flatMap_cons, List.length_append, ih, List.length_cons]
    have : (p.1.cells p.2).toList.length = 19 := rfl
    omega
/-- A row of nodes of one's own, with their kids. -/
def NodeRow (T : TypeId) (w : World) (B : Nat) (v : Value) (nds : List Nd) : Prop :=
  ∃ ps : List Np, ps.map (·.1) = nds ∧ w.ownsRow B T 19 v ps.length (flatN ps) ∧ ∀ p ∈ ps, KidsAt w B p.2 p.1.kids
theorem owns_grown {w w' : World} {B T n s : Nat} {v : Value} {xs : List Value} (h : w.ownsRow B T s v n xs) (hb : ∀ k, k < w.heap.size → v.ownBlock = some k → w'.heap[k]? = w.heap[k]?) : w'.ownsRow B T s v n xs := by
  unfold World.ownsRow at h ⊢
  refine ⟨h.1, ?_⟩
  rcases h.2 with h | ⟨g, cap, cur, h1, h2, h3, h4⟩
  · exact Or.inl h
  · refine Or.inr ⟨g, cap, cur, h1, h2, ?_, h4⟩
    have hlt : g < w.heap.size := (Array.getElem?_eq_some_iff.1 h3).1
    rw [hb g hlt (by rw [h1]; rfl)]; exact h3
theorem owns_type {w : World} {B T n s : Nat} {v : Value} {xs : List Value} {g : Nat} (h : w.ownsRow B T s v n xs) (hg : v.ownBlock = some g) : ∃ cur, w.heap[g]? = some (.cells cur T (0, 0)) := by
  rcases h.2 with ⟨rfl, _⟩ | ⟨g', cap, cur, rfl, _, h3, _⟩
  · cases hg
  · cases hg; exact ⟨cur, h3⟩
/-- Rows of two types don't lie in one block. -/
theorem owns_apart {w : World} {B B' T T' n n' s s' : Nat} {v v' : Value} {xs xs' : List Value} (h : w.ownsRow B T s v n xs) (h' : w.ownsRow B' T' s' v' n' xs') (hT : T ≠ T') : v.ownBlock = none ∨ v.ownBlock ≠ v'.ownBlock := by
  cases hv : v.ownBlock with
  | none => exact Or.inl rfl
  | some g =>
    refine Or.inr fun e => ?_
    obtain ⟨c, hc⟩ := owns_type h hv
    obtain ⟨c', hc'⟩ := owns_type h' e.symm
    rw [hc] at hc'
    cases hc'
    exact hT rfl
theorem kids_kept {w w' : World} {B : Nat} {kv : Value} {ks : List Int} {row : Option Nat} (h : KidsAt w B kv ks) (hg : w.grownBy w' row) (hn : kv.ownBlock = none ∨ kv.ownBlock ≠ row) : KidsAt w' B kv ks := World.ownsRow.kept h hg hn
theorem kids_below {w w' : World} {B : Nat} {kv : Value} {ks : List Int} (h : KidsAt w B kv ks) (hb : Below w.heap.size w w') : KidsAt w' B kv ks := owns_grown h (fun k hk _ => hb.block k hk)
theorem kids_nil (w : World) (B : Nat) : KidsAt w B (.slice none 0 0) [] := World.ownsRow_nil _ _ _ _
theorem owns_mono {w : World} {B B' T n s : Nat} {v : Value} {xs : List Value} (h : w.ownsRow B T s v n xs) (hB : B' ≤ B) : w.ownsRow B' T s v n xs := by
  unfold World.ownsRow at h ⊢
  refine ⟨h.1, ?_⟩
  rcases h.2 with h | ⟨g, cap, cur, h1, h2, h3⟩
  · exact Or.inl h
  · exact Or.inr ⟨g, cap, cur, h1, Nat.le_trans hB h2, h3⟩
theorem kids_mono {w : World} {B B' : Nat} {kv : Value} {ks : List Int} (h : KidsAt w B kv ks) (hB : B' ≤ B) : KidsAt w B' kv ks := owns_mono h hB
theorem nodes_below {T : TypeId} {w w' : World} {B : Nat} {v : Value} {nds : List Nd} (h : NodeRow T w B v nds) (hb : Below w.heap.size w w') : NodeRow T w' B v nds := by
  obtain ⟨ps, h1, h2, h3⟩ := h
  exact ⟨ps, h1, owns_grown h2 (fun k hk _ => hb.block k hk), fun p hp => kids_below (h3 p hp) hb⟩
theorem nodes_mono {T : TypeId} {w : World} {B B' : Nat} {v : Value} {nds : List Nd} (h : NodeRow T w B v nds) (hB : B' ≤ B) : NodeRow T w B' v nds := by
  obtain ⟨ps, h1, h2, h3⟩ := h
  exact ⟨ps, h1, owns_mono h2 hB, fun p hp => kids_mono (h3 p hp) hB⟩
theorem nodes_nil (T : TypeId) (w : World) (B : Nat) : NodeRow T w B (.slice none 0 0) [] := ⟨[], rfl, World.ownsRow_nil _ _ _ _, fun p hp => by cases hp⟩
theorem nodes_lt {T : TypeId} {w : World} {B : Nat} {v : Value} {nds : List Nd} (h : NodeRow T w B v nds) {g : Nat} (hg : v.ownBlock = some g) : B ≤ g ∧ g < w.heap.size := by
  obtain ⟨ps, _, h2, _⟩ := h
  exact h2.lt g hg
abbrev ndT : TypeId := 55
/-- What a call of the reader leaves as it was: all but the reader's own cells, and nodes made since. -/
structure Frm (R : Nat) (w w' : World) : Prop where
  os : w'.os = w.os
  tape : w'.tape = w.tape
  output : w'.output = w.output
  size : w.heap.size ≤ w'.heap.size
  block : ∀ k, k < w.heap.size → k ≠ R → (k < R ∨ ∀ cur fr, w.heap[k]? ≠ some (.cells cur ndT fr)) → w'.heap[k]? = w.heap[k]?
theorem Frm.refl (R : Nat) (w : World) : Frm R w w := ⟨rfl, rfl, rfl, Nat.le_refl _, fun _ _ _ _ => rfl⟩
theorem Frm.trans {R : Nat} {w w1 w2 : World} (h : Frm R w w1) (h1 : Frm R w1 w2) : Frm R w w2 := by
  refine ⟨h1.os.trans h.os, h1.tape.trans h.tape, h1.output.trans h.output, Nat.le_trans h.size h1.size, fun k hk hR hn => ?_⟩
  have e := h.block k hk hR hn
  rw [h1.block k (Nat.lt_of_lt_of_le hk h.size) hR (by rw [e]; exact hn), e]
theorem Frm.of {R : Nat} {w w' : World} (h : Below w.heap.size w w') : Frm R w w' := ⟨h.os, h.tape, h.output, h.size, fun k hk _ _ => h.block k hk⟩
theorem Frm.set {R : Nat} {w w' : World} (h : Frm R w w') (i : Nat) (u : Value) : Frm R w (w'.setCell ⟨R, i, none⟩ u) :=
  ⟨h.os, h.tape, h.output, by have := h.size; simp [World.setCell] at this ⊢; exact this, fun k hk hR hn => by rw [heap_setCell_other _ _ _ _ hR]; exact h.block k hk hR hn⟩
theorem Frm.below {R : Nat} {w w' : World} (h : Frm R w w') (hR : R ≤ w.heap.size) : Below R w w' :=
  ⟨h.os, h.tape, h.output, h.size, fun k hk => h.block k (by omega) (by omega) (Or.inl hk)⟩
theorem Frm.cells {R : Nat} {w w' : World} {B : Nat} {t : TypeId} {cs : Array Value} (h : Frm R w w') (hc : CellsAt w B t cs) (hR : B ≠ R) (ht : t ≠ ndT) : CellsAt w' B t cs := by
  have hc' := hc
  unfold CellsAt at hc ⊢
  rw [h.block B (cells_lt hc') hR (Or.inr fun cur fr e => by rw [hc] at e; cases e; exact ht rfl)]; exact hc
theorem Frm.kids {R B : Nat} {w w' : World} {kv : Value} {ks : List Int} (h : Frm R w w') (hk : KidsAt w B kv ks) (hB : R < B) : KidsAt w' B kv ks :=
  owns_grown hk (fun k hlt hv => h.block k hlt (by have := (hk.lt k hv).1; omega) (Or.inr fun cur fr e => by
    obtain ⟨c, hc⟩ := owns_type hk hv
    rw [hc] at e
    cases e))
abbrev rdT : TypeId := 82
abbrev rtT : TypeId := 71
abbrev tkT : TypeId := 116
/-- A row of nodes, none of its kids in one of some blocks. -/
def NodeRowX (X : Nat → Prop) (T : TypeId) (w : World) (B : Nat) (v : Value) (nds : List Nd) : Prop :=
  ∃ ps : List Np, ps.map (·.1) = nds ∧ w.ownsRow B T 19 v ps.length (flatN ps) ∧ ∀ p ∈ ps, KidsAt w B p.2 p.1.kids ∧ ∀ g, p.2.ownBlock = some g → ¬ X g
theorem nodesX_of {X : Nat → Prop} {T : TypeId} {w : World} {B : Nat} {v : Value} {nds : List Nd} (h : NodeRowX X T w B v nds) : NodeRow T w B v nds := by
  obtain ⟨ps, h1, h2, h3⟩ := h
  exact ⟨ps, h1, h2, fun p hp => (h3 p hp).1⟩
theorem nodesX_below {X : Nat → Prop} {T : TypeId} {w w' : World} {B : Nat} {v : Value} {nds : List Nd} (h : NodeRowX X T w B v nds) (hb : Below w.heap.size w w') : NodeRowX X T w' B v nds := by
  obtain ⟨ps, h1, h2, h3⟩ := h
  exact ⟨ps, h1, owns_grown h2 (fun k hk _ => hb.block k hk), fun p hp => ⟨kids_below (h3 p hp).1 hb, (h3 p hp).2⟩⟩
/-- One node more. -/
theorem nodes_step {X : Nat → Prop} {T : TypeId} {w w1 : World} {B : Nat} {v v' : Value} {ps : List Np} {p : Np} (hT : 3 ≠ T) (hown : w.ownsRow B T 19 v ps.length (flatN ps)) (hk : ∀ q ∈ ps, KidsAt w B q.2 q.1.kids ∧ ∀ g, q.2.ownBlock = some g → ¬ X g) (hp : KidsAt w B p.2 p.1.kids ∧ ∀ g, p.2.ownBlock = some g → ¬ X g)
    (hown' : w1.ownsRow B T 19 v' (ps.length + 1) (flatN ps ++ (p.1.cells p.2).toList)) (hgrow : w.grownBy w1 v.ownBlock) : NodeRowX X T w1 B v' (ps.map (·.1) ++ [p.1]) := by
  refine ⟨ps ++ [p], by simp, ?_, ?_⟩
  · rw [flatN_snoc, List.length_append, List.length_singleton]; exact hown'
  · intro q hq
    have hkq : KidsAt w B q.2 q.1.kids ∧ ∀ g, q.2.ownBlock = some g → ¬ X g := by
      rcases List.mem_append.1 hq with h | h
      · exact hk q h
      · rw [List.mem_singleton] at h; rw [h]; exact hp
    exact ⟨kids_kept hkq.1 hgrow (owns_apart hkq.1 hown hT), hkq.2⟩
variable {X : Nat → Prop}
/-- The reader: the tokens that are left, the tree so far, how deep, the nesting, the most arguments. -/
structure RdAt (X : Nat → Prop) (R : Nat) (w : World) (tv : Value) (l : List Tk) (nds : List Nd) (d dp m : Nat) : Prop where
  cells : ∃ a cap, CellsAt w R rdT #[.slice a l.length cap, tv, .int .i64 (d : Int), .int .i64 (dp : Int), .int .i64 (m : Int)] ∧ l.length ≤ cap ∧ ToksIn w a l ∧ (∀ p, a = some p → p.block < R)
  row : NodeRowX X ndT w (R + 1) tv nds
  lim : ∀ x, X x → x < w.heap.size
theorem RdAt.lt {R : Nat} {w : World} {tv : Value} {l : List Tk} {nds : List Nd} {d dp m : Nat} (h : RdAt X R w tv l nds d dp m) : R < w.heap.size := by
  obtain ⟨a, cap, h1, _⟩ := h.cells
  exact cells_lt h1
theorem RdAt.nx {R : Nat} {w w' : World} {tv : Value} {l : List Tk} {nds : List Nd} {d dp m : Nat} (h : RdAt X R w tv l nds d dp m) (hb : Below w.heap.size w w') : RdAt X R w' tv l nds d dp m := by
  obtain ⟨a, cap, h1, h2, h3, h4⟩ := h.cells
  exact ⟨⟨a, cap, cells_nx h1 hb, h2, toks_below h3 hb, h4⟩, nodesX_below h.row hb, fun x hx => Nat.lt_of_lt_of_le (h.lim x hx) hb.size⟩
theorem toks_old {w w' : World} {a : Option Addr} {ts : List Tk} {R : Nat} (h : ToksIn w a ts) (ha : ∀ p, a = some p → p.block < R) (hb : ∀ k, k < R → w'.heap[k]? = w.heap[k]?) (hs : w.heap.size ≤ w'.heap.size) : ToksIn w' a ts := by
  rcases h with h | ⟨g, off, rfl, hg, hc⟩
  · exact Or.inl h
  · refine Or.inr ⟨g, off, rfl, Nat.lt_of_lt_of_le hg hs, fun i t hi j u hu => ?_⟩
    rw [World.cell?_of_block (w := w) (hb g (ha _ rfl))]
    exact hc i t hi j u hu
/-- A field of the reader's is written. -/
theorem RdAt.put {R : Nat} {w : World} {tv : Value} {l : List Tk} {nds : List Nd} {d dp m : Nat} (h : RdAt X R w tv l nds d dp m) (i : Nat) (u : Value) (tv' : Value) (l' : List Tk) (d' dp' m' : Nat)
    (hc : ∀ a cap, CellsAt w R rdT #[.slice a l.length cap, tv, .int .i64 (d : Int), .int .i64 (dp : Int), .int .i64 (m : Int)] → ToksIn w a l → l.length ≤ cap → (∀ p, a = some p → p.block < R) →
      ∃ a' cap', (#[.slice a l.length cap, tv, .int .i64 (d : Int), .int .i64 (dp : Int), .int .i64 (m : Int)] : Array Value).setIfInBounds i u = #[.slice a' l'.length cap', tv', .int .i64 (d' : Int), .int .i64 (dp' : Int), .int .i64 (m' : Int)] ∧ l'.length ≤ cap' ∧ ToksIn w a' l' ∧ (∀ p, a' = some p → p.block < R))
    (hr : NodeRowX X ndT w (R + 1) tv' nds) : RdAt X R (w.setCell ⟨R, i, none⟩ u) tv' l' nds d' dp' m' := by
  obtain ⟨a, cap, h1, h2, h3, h4⟩ := h.cells
  obtain ⟨a', cap', e, g2, g3, g4⟩ := hc a cap h1 h3 h2 h4
  have hs : (w.setCell ⟨R, i, none⟩ u).heap.size = w.heap.size := by simp [World.setCell]
  refine ⟨⟨a', cap', ?_, g2, ?_, g4⟩, ?_, fun x hx => by rw [hs]; exact h.lim x hx⟩
  · rw [← e]; exact cells_set h1 i u
  · exact toks_old g3 g4 (fun k hk => heap_setCell_other _ _ _ _ (by show k ≠ R; omega)) (Nat.le_of_eq hs.symm)
  · obtain ⟨ps, p1, p2, p3⟩ := hr
    have hk : ∀ {B T n s : Nat} {v : Value} {xs : List Value}, w.ownsRow (R + 1) T s v n xs → (w.setCell ⟨R, i, none⟩ u).ownsRow (R + 1) T s v n xs := fun {B T n s v xs} h =>
      owns_grown h (fun k hk hv => heap_setCell_other _ _ _ _ (by have := (h.lt k hv).1; show k ≠ R; omega))
    exact ⟨ps, p1, hk (B := 0) p2, fun p hp => ⟨hk (B := 0) (p3 p hp).1, (p3 p hp).2⟩⟩
theorem RdAt.fresh {R : Nat} {w : World} {tv : Value} {l : List Tk} {nds : List Nd} {d dp m : Nat} (h : RdAt X R w tv l nds d dp m) (n c : Nat) : ∀ g, (Value.slice (some ⟨w.heap.size, 0, none⟩) n c).ownBlock = some g → ¬ X g := by
  intro g e hx
  cases e
  exact Nat.lt_irrefl _ (h.lim _ hx)
theorem kidsX_two {R : Nat} {w : World} {tv : Value} {l : List Tk} {nds : List Nd} {d dp m : Nat} (h : RdAt X R w tv l nds d dp m) (x y : Int) :
    KidsAt (w.alloc (.cells #[.int .i64 x, .int .i64 y] 3)) (R + 1) (.slice (some ⟨w.heap.size, 0, none⟩) 2 2) [x, y] ∧ ∀ g, (Value.slice (some ⟨w.heap.size, 0, none⟩) 2 2).ownBlock = some g → ¬ X g :=
  ⟨World.ownsRow_lit w #[.int .i64 x, .int .i64 y] 2 h.lt (by unfold maxLen; omega) rfl, h.fresh 2 2⟩
theorem kidsX_one {R : Nat} {w : World} {tv : Value} {l : List Tk} {nds : List Nd} {d dp m : Nat} (h : RdAt X R w tv l nds d dp m) (x : Int) :
    KidsAt (w.alloc (.cells #[.int .i64 x] 3)) (R + 1) (.slice (some ⟨w.heap.size, 0, none⟩) 1 1) [x] ∧ ∀ g, (Value.slice (some ⟨w.heap.size, 0, none⟩) 1 1).ownBlock = some g → ¬ X g :=
  ⟨World.ownsRow_lit w #[.int .i64 x] 1 h.lt (by unfold maxLen; omega) rfl, h.fresh 1 1⟩
theorem kidsX_nil (w : World) (B : Nat) : KidsAt w B (.slice none 0 0) [] ∧ ∀ g, (Value.slice none 0 0).ownBlock = some g → ¬ X g := ⟨kids_nil w B, fun g e => by cases e⟩
theorem cells5 {w : World} {B : Nat} {t : TypeId} {v0 v1 v2 v3 v4 : Value} (h : CellsAt w B t #[v0, v1, v2, v3, v4]) :
    w.cell? ⟨B, 0, none⟩ = some v0 ∧ w.cell? ⟨B, 1, none⟩ = some v1 ∧ w.cell? ⟨B, 2, none⟩ = some v2 ∧ w.cell? ⟨B, 3, none⟩ = some v3 ∧ w.cell? ⟨B, 4, none⟩ = some v4 := by
  unfold CellsAt at h
  simp [World.cell?, h]
theorem cells_set5 {w : World} {B : Nat} {t : TypeId} {v0 v1 v2 v3 v4 : Value} (h : CellsAt w B t #[v0, v1, v2, v3, v4]) (a b c d e : Value) :
    CellsAt (((((w.setCell ⟨B, 0, none⟩ a).setCell ⟨B, 1, none⟩ b).setCell ⟨B, 2, none⟩ c).setCell ⟨B, 3, none⟩ d).setCell ⟨B, 4, none⟩ e) B t #[a, b, c, d, e] :=
  cells_set (cells_set (cells_set (cells_set (cells_set h 0 a) 1 b) 2 c) 3 d) 4 e
theorem cells5f {w : World} {B : Nat} {t : TypeId} {cs : Array Value} (h : CellsAt w B t cs) :
    w.frozen? ⟨B, 0, none⟩ = false ∧ w.frozen? ⟨B, 1, none⟩ = false ∧ w.frozen? ⟨B, 2, none⟩ = false ∧ w.frozen? ⟨B, 3, none⟩ = false ∧ w.frozen? ⟨B, 4, none⟩ = false := ⟨cells_f h 0, cells_f h 1, cells_f h 2, cells_f h 3, cells_f h 4⟩
end Go.Proofs.YtloamahbghjjgaaGreatDoor
