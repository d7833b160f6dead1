/- Functions of numbers as values: those of one and of two numbers, and what becomes of a code. -/
import Derived.BigQuiet
import Derived.BigRegion
import Derived.Deep.AppendLies
import Derived.Deep.CutBlock
import Derived.Deep.CutRange
import Derived.Deep.DeepFit
import Derived.Deep.QuietTactic
import Derived.Deep.RegionHeld3
import Derived.Deep.RegionWith
import Derived.Deep.WholeRow
import Derived.Laws.Bits64b
import Derived.Laws.BitsAllLaws
import Derived.Laws.CopyOwn
import Derived.Laws.EntriesVeiled
import Derived.Laws.FloatArith
import Derived.Laws.IdiomStrings
import Derived.Laws.Rows
import Derived.Laws.StructEq
import Derived.Laws.Tables
import Derived.Lib.BitFns
import Derived.Lib.IndexBytes
import Derived.Lib.ItoaMem
import Derived.Lib.ItoaNum
import Derived.Lib.TrimByte
import Derived.Lib.Walk
import Derived.OwnWalk
import Derived.Shelf.Abstract
import Derived.Shelf.Bits.Mul64
import Derived.Shelf.LaysM
import Derived.Shelf.Small.Bits
import Derived.Shelf.Small.Strs
import Derived.Shelf.Small.Wraps
import Derived.Shelf.Strconv.Itoa0
import Derived.Shelf.Strconv.Itoa1
import Derived.Shelf.Strconv.Itoa2
import Derived.Shelf.Strings.AsciiSet
import Derived.Shelf.Strings.Cut
import Derived.Shelf.Strings.Prefix
import Derived.Shelf.Strings.Search1
import Derived.Shelf.Strings.Search2
import Derived.Shelf.Strings.Shaped
import Derived.Shelf.Strings.Trim
import Derived.Test.YtbeijnflfmjgfaaGreatDoorProg
import Derived.Test.YtbeijnflfmjgfaaGreatDoorRows
import Derived.WalkKit
import Derived.WalkLawsBesides
import Derived.WalkSmall
import Derived.WalkSpells
import Ieee.Arith
import Derived.Test.YtbeijnflfmjgfaaGreatDoorZnAA
import Derived.Test.YtbeijnflfmjgfaaGreatDoorZnAB
import Derived.Test.YtbeijnflfmjgfaaGreatDoorZnAC
import Derived.Test.YtbeijnflfmjgfaaGreatDoorZnAD
import Derived.Test.YtbeijnflfmjgfaaGreatDoorZnAE
import Derived.Test.YtbeijnflfmjgfaaGreatDoorZnAF
import Derived.Test.YtbeijnflfmjgfaaGreatDoorZnAG
import Derived.Test.YtbeijnflfmjgfaaGreatDoorZnAH
import Derived.Test.YtbeijnflfmjgfaaGreatDoorZnAI
import Derived.Test.YtbeijnflfmjgfaaGreatDoorZnAJ
import Derived.Test.YtbeijnflfmjgfaaGreatDoorZnAK
import Derived.Test.YtbeijnflfmjgfaaGreatDoorZnAL
import Derived.Test.YtbeijnflfmjgfaaGreatDoorZnAM
import Derived.Test.YtbeijnflfmjgfaaGreatDoorZnAN
namespace Go.Proofs.YtbeijnflfmjgfaaGreatDoor
open Go.RowKit

set_option maxHeartbeats 1000000 in
theorem told_val (n c : Int) (w : World) :
    Calls Tryz.prog 87 #[.int .i64 n, .int .i64 c] w fun e w' => e = .returned (.agg (toldV (n, c)).cells) ∧ Below w.heap.size w w' := by
  by_cases h0 : c = 0
  · subst h0
    have HC := hide (fun w => n_val n w)
    rw [told_ok]
    generalize vN n = V at HC ⊢
    go_enter Tryz.func87, Tryz.ntmps87
    go_wp2_with fail
    refine (unhide HC _).mono ?_
    rintro e wz ⟨rfl, bz⟩
    have hf := five_below (five_new w 28 _ _ _ _ _) bz (five_lt (five_new w 28 _ _ _ _ _))
    obtain ⟨⟨⟨x0, c0⟩, ⟨x1, c1⟩, ⟨x2, c2⟩, ⟨x3, c3⟩, x4, c4⟩, f0, f1, f2, f3, f4⟩ := five_all hf
    have HF := hide hf
    have HB := hide (below_nx (below_al w _) bz)
    clear hf bz
    unfold Vl.cells
    go_wp2
    refine bodyPost_ret (results_cell_row rfl _ _ _ _ _ _ _ rfl (five_set (unhide HF) _ _ _ _ _).1 Tryz.underlying28 rfl infoVal) rfl ?_
    exact ⟨rfl, below_five (unhide HB) (Nat.le_refl _) _ _ _ _ _⟩
  · have h0b : (c == 0) = false := by rw [beq_eq_false_iff_ne]; exact h0
    by_cases h6 : c = 6
    · subst h6
      have HC := hide (fun w => e_val 1 w)
      rw [show toldV (n, 6) = vE 1 from rfl]
      generalize vE 1 = V at HC ⊢
      clear h0
      go_enter Tryz.func87, Tryz.ntmps87
      go_wp2_with fail
      refine (unhide HC _).mono ?_
      rintro e wz ⟨rfl, bz⟩
      have hf := five_below (five_new w 28 _ _ _ _ _) bz (five_lt (five_new w 28 _ _ _ _ _))
      obtain ⟨⟨⟨x0, c0⟩, ⟨x1, c1⟩, ⟨x2, c2⟩, ⟨x3, c3⟩, x4, c4⟩, f0, f1, f2, f3, f4⟩ := five_all hf
      have HF := hide hf
      have HB := hide (below_nx (below_al w _) bz)
      clear hf bz
      unfold Vl.cells
      go_wp2
      refine bodyPost_ret (results_cell_row rfl _ _ _ _ _ _ _ rfl (five_set (unhide HF) _ _ _ _ _).1 Tryz.underlying28 rfl infoVal) rfl ?_
      exact ⟨rfl, below_five (unhide HB) (Nat.le_refl _) _ _ _ _ _⟩
    · have h6b : (c == 6) = false := by rw [beq_eq_false_iff_ne]; exact h6
      have HC := hide (fun w => e_val 2 w)
      have e : toldV (n, c) = vE 2 := by unfold toldV; rw [if_neg h6, if_neg h0]
      rw [e]
      generalize vE 2 = V at HC ⊢
      clear e h0 h6
      go_enter Tryz.func87, Tryz.ntmps87
      go_wp2_with fail
      refine (unhide HC _).mono ?_
      rintro e wz ⟨rfl, bz⟩
      have hf := five_below (five_new w 28 _ _ _ _ _) bz (five_lt (five_new w 28 _ _ _ _ _))
      obtain ⟨⟨⟨x0, c0⟩, ⟨x1, c1⟩, ⟨x2, c2⟩, ⟨x3, c3⟩, x4, c4⟩, f0, f1, f2, f3, f4⟩ := five_all hf
      have HF := hide hf
      have HB := hide (below_nx (below_al w _) bz)
      clear hf bz
      unfold Vl.cells
      go_wp2
      refine bodyPost_ret (results_cell_row rfl _ _ _ _ _ _ _ rfl (five_set (unhide HF) _ _ _ _ _).1 Tryz.underlying28 rfl infoVal) rfl ?_
      exact ⟨rfl, below_five (unhide HB) (Nat.le_refl _) _ _ _ _ _⟩

def FnBox (w : World) (B : Nat) (a b : Value) : Prop := w.heap[B]? = some (.cells #[a, b] 63 (0, 0))
theorem fbox_c0 {w : World} {B : Nat} {a b : Value} (h : FnBox w B a b) : w.cell? ⟨B, 0, none⟩ = some a := by
  unfold FnBox at h; simp [World.cell?, h]
theorem fbox_c1 {w : World} {B : Nat} {a b : Value} (h : FnBox w B a b) : w.cell? ⟨B, 1, none⟩ = some b := by
  unfold FnBox at h; simp [World.cell?, h]
theorem fbox_f {w : World} {B : Nat} {a b : Value} (h : FnBox w B a b) (i : Nat) : w.frozen? ⟨B, i, none⟩ = false := by
  unfold FnBox at h; simp [World.frozen?, h]
theorem fbox_set {w : World} {B : Nat} {a b : Value} (h : FnBox w B a b) (x y : Value) : FnBox ((w.setCell ⟨B, 0, none⟩ x).setCell ⟨B, 1, none⟩ y) B x y := by
  unfold FnBox at h ⊢
  rw [heap_setCell_same _ B 1 #[x, b] 63 y (by rw [heap_setCell_same w B 0 #[a, b] 63 x h]; rfl)]; rfl
theorem fbox_lt {w : World} {B : Nat} {a b : Value} (h : FnBox w B a b) : B < w.heap.size := by
  unfold FnBox at h
  rcases Nat.lt_or_ge B w.heap.size with h1 | h1
  · exact h1
  · rw [Array.getElem?_eq_none h1] at h; cases h
theorem fbox_below {w w' : World} {B : Nat} {a b : Value} (h : FnBox w B a b) (hb : Below w.heap.size w w') : FnBox w' B a b := by
  have l := fbox_lt h
  unfold FnBox at h ⊢; rw [hb.block B l]; exact h
theorem fbox_new (w : World) (a b : Value) : FnBox (w.alloc (.cells #[a, b] 63)) w.heap.size a b := heap_alloc_new _ _
theorem fbox_put {w w' : World} {B N : Nat} (hb : Below N w w') (hB : N ≤ B) (x y : Value) : Below N w ((w'.setCell ⟨B, 0, none⟩ x).setCell ⟨B, 1, none⟩ y) :=
  (hb.setCell (p := ⟨B, 0, none⟩) hB _).setCell (p := ⟨B, 1, none⟩) hB _
def Do1 (k : Nat) (f : Int → Int × Int) : Prop := Enters Tryz.prog k ∧ ∀ (a : Int) (w : World), -9000000000000000000 ≤ a → a ≤ 9000000000000000000 →
  Calls Tryz.prog k #[.int .i64 a] w fun e w' => e = .returned (.tuple #[.int .i64 (f a).1, .int .i64 (f a).2]) ∧ Below w.heap.size w w'
def Do2 (k : Nat) (f : Int → Int → Int × Int) : Prop := Enters Tryz.prog k ∧ ∀ (a b : Int) (w : World), -9000000000000000000 ≤ a → a ≤ 9000000000000000000 → -9000000000000000000 ≤ b → b ≤ 9000000000000000000 →
  Calls Tryz.prog k #[.int .i64 a, .int .i64 b] w fun e w' => e = .returned (.tuple #[.int .i64 (f a b).1, .int .i64 (f a b).2]) ∧ Below w.heap.size w w'
def FnAt (w : World) (fv : Value) (n : Nat) (t : List Int → Vl) : Prop :=
  ∃ (k : Nat) (cp : Array Value), fv = .func (.func k) #[] cp ∧ Enters Tryz.prog k ∧ ∀ (zs : List Int) (g cap : Nat) (w' : World), zs.length = n → (∀ z ∈ zs, -9000000000000000000 ≤ z ∧ z ≤ 9000000000000000000) →
    (∀ i z, zs[i]? = some z → w'.cell? ⟨g, i, none⟩ = some (.int .i64 z)) → g < w'.heap.size → Below w.heap.size w w' →
    Calls Tryz.prog k (#[.slice (some ⟨g, 0, none⟩) n cap] ++ cp) w' fun e w'' => e = .returned (.agg (t zs).cells) ∧ Below w'.heap.size w' w''
theorem fn_below {w w' : World} {fv : Value} {n : Nat} {t : List Int → Vl} (h : FnAt w fv n t) (hb : Below w.heap.size w w') : FnAt w' fv n t := by
  obtain ⟨k, cp, e, he, hk⟩ := h
  exact ⟨k, cp, e, he, fun zs g cap w2 h1 h2 h3 h4 h5 => hk zs g cap w2 h1 h2 h3 h4 (below_nx hb h5)⟩

set_option maxRecDepth 100000 in
set_option maxHeartbeats 1000000 in
theorem fn2_val (k : Nat) (f : Int → Int → Int × Int) (hd : Do2 k f) (a b : Int) (B g cap : Nat) (w : World) (a1 : -9000000000000000000 ≤ a) (a2 : a ≤ 9000000000000000000) (b1 : -9000000000000000000 ≤ b) (b2 : b ≤ 9000000000000000000)
    (hB : w.cell? ⟨B, 0, none⟩ = some (.func (.func k) #[] #[])) (lB : B < w.heap.size) (h0 : w.cell? ⟨g, 0, none⟩ = some (.int .i64 a)) (h1 : w.cell? ⟨g, 1, none⟩ = some (.int .i64 b)) (lg : g < w.heap.size) :
    Calls Tryz.prog 86 #[.slice (some ⟨g, 0, none⟩) 2 cap, .pointer (some ⟨B, 0, none⟩)] w fun e w' => e = .returned (.agg (toldV (f a b)).cells) ∧ Below w.heap.size w w' := by
  have hcf : ∀ (args : Array Value) (w : World), (callFunc k args).run Tryz.prog w = .ok (.enter k args) w := hd.1
  have HD := hide (fun w => hd.2 a b w a1 a2 b1 b2)
  have HT := hide (fun w => told_val (f a b).1 (f a b).2 w)
  rw [show toldV ((f a b).1, (f a b).2) = toldV (f a b) from rfl] at HT
  generalize toldV (f a b) = V at HT ⊢
  generalize f a b = r at HD HT
  clear hd a1 a2 b1 b2
  have qB : (w.alloc (.cells #[.int .i64 0, .int .i64 0, .string ⟨#[]⟩, .bool false, .int .i64 0] 28)).cell? ⟨B, 0, none⟩ = some (.func (.func k) #[] #[]) := by rw [World.cell?_alloc_past _ _ _ lB]; exact hB
  have q0 : (w.alloc (.cells #[.int .i64 0, .int .i64 0, .string ⟨#[]⟩, .bool false, .int .i64 0] 28)).cell? ⟨g, 0, none⟩ = some (.int .i64 a) := by rw [World.cell?_alloc_past _ _ _ lg]; exact h0
  have q1 : (w.alloc (.cells #[.int .i64 0, .int .i64 0, .string ⟨#[]⟩, .bool false, .int .i64 0] 28)).cell? ⟨g, 1, none⟩ = some (.int .i64 b) := by rw [World.cell?_alloc_past _ _ _ lg]; exact h1
  have n0 := World.new_ne w ⟨B, 0, none⟩ hB
  have n1 := World.new_ne w ⟨g, 0, none⟩ h0
  have n2 := World.new_ne w ⟨g, 1, none⟩ h1
  have l0 := Nat.lt_of_lt_of_le lB (below_al w (.cells #[.int .i64 0, .int .i64 0, .string ⟨#[]⟩, .bool false, .int .i64 0] 28)).size
  have l1 := Nat.lt_of_lt_of_le lg (below_al w (.cells #[.int .i64 0, .int .i64 0, .string ⟨#[]⟩, .bool false, .int .i64 0] 28)).size
  clear hB h0 h1 lg lB
  go_enter Tryz.func86, Tryz.ntmps86
  go_upto_region 1 with fail
  have HX := hide (five_new w 28 (.int .i64 0) (.int .i64 0) (.string ⟨#[]⟩) (.bool false) (.int .i64 0))
  have HB := hide (below_al w (.cells #[.int .i64 0, .int .i64 0, .string ⟨#[]⟩, .bool false, .int .i64 0] 28))
  generalize hW : w.alloc (.cells #[.int .i64 0, .int .i64 0, .string ⟨#[]⟩, .bool false, .int .i64 0] 28) = w1 at HX HB qB q0 q1 l0 l1 ⊢
  clear hW
  have L0 := hide l0
  have L1 := hide l1
  clear l0 l1
  replace HX := hide (five_drew (unhide HX))
  replace HB := hide (unhide HB).drew
  go_region_held3 (fun w' => w'.cell? ⟨B, 0, none⟩ = some (.func (.func k) #[] #[]) ∧ w'.cell? ⟨g, 0, none⟩ = some (.int .i64 a) ∧ w'.cell? ⟨g, 1, none⟩ = some (.int .i64 b)) (go_keep)
    (first
      | (go_at_call 87; refine (unhide HT _).mono ?_; rintro e yy ⟨rfl, zz⟩; have hf := five_below (unhide HX) zz (five_lt (unhide HX)); obtain ⟨⟨⟨x0, c0⟩, ⟨x1, c1⟩, ⟨x2, c2⟩, ⟨x3, c3⟩, x4, c4⟩, f0, f1, f2, f3, f4⟩ := five_all hf; have HF := hide hf; have HBZ := hide (below_nx (unhide HB) zz); have d0 := (zz.cell (p := ⟨B, 0, none⟩) (unhide L0)).trans qB; have d1 := (zz.cell (p := ⟨g, 0, none⟩) (unhide L1)).trans q0; have d2 := (zz.cell (p := ⟨g, 1, none⟩) (unhide L1)).trans q1; clear hf zz qB q0 q1; have qB := d0; have q0 := d1; have q1 := d2; clear d0 d1 d2; unfold Vl.cells)
      | (refine (unhide HD _).mono ?_; rintro e yy ⟨rfl, zz⟩; replace HX := hide (five_below (unhide HX) zz (five_lt (unhide HX))); replace HB := hide (below_nx (unhide HB) zz); have c0 := (zz.cell (p := ⟨B, 0, none⟩) (unhide L0)).trans qB; have c1 := (zz.cell (p := ⟨g, 0, none⟩) (unhide L1)).trans q0; have c2 := (zz.cell (p := ⟨g, 1, none⟩) (unhide L1)).trans q1; replace L0 := hide (Nat.lt_of_lt_of_le (unhide L0) zz.size); replace L1 := hide (Nat.lt_of_lt_of_le (unhide L1) zz.size); clear qB q0 q1 zz; have qB := c0; have q0 := c1; have q1 := c2; clear c0 c1 c2))
  all_goals (try go_wp2)
  all_goals refine bodyPost_ret (results_cell_row rfl _ _ _ _ _ _ _ rfl (five_set (unhide HF) _ _ _ _ _).1 Tryz.underlying28 rfl infoVal) rfl ?_
  all_goals exact ⟨rfl, below_five (unhide HBZ) (Nat.le_refl _) _ _ _ _ _⟩

set_option maxRecDepth 100000 in
set_option maxHeartbeats 1000000 in
theorem fn1_val (k : Nat) (f : Int → Int × Int) (hd : Do1 k f) (a : Int) (B g cap : Nat) (w : World) (a1 : -9000000000000000000 ≤ a) (a2 : a ≤ 9000000000000000000)
    (hB : w.cell? ⟨B, 0, none⟩ = some (.func (.func k) #[] #[])) (lB : B < w.heap.size) (h0 : w.cell? ⟨g, 0, none⟩ = some (.int .i64 a)) (lg : g < w.heap.size) :
    Calls Tryz.prog 134 #[.slice (some ⟨g, 0, none⟩) 1 cap, .pointer (some ⟨B, 0, none⟩)] w fun e w' => e = .returned (.agg (toldV (f a)).cells) ∧ Below w.heap.size w w' := by
  have hcf : ∀ (args : Array Value) (w : World), (callFunc k args).run Tryz.prog w = .ok (.enter k args) w := hd.1
  have HD := hide (fun w => hd.2 a w a1 a2)
  have HT := hide (fun w => told_val (f a).1 (f a).2 w)
  rw [show toldV ((f a).1, (f a).2) = toldV (f a) from rfl] at HT
  generalize toldV (f a) = V at HT ⊢
  generalize f a = r at HD HT
  clear hd a1 a2
  have qB : (w.alloc (.cells #[.int .i64 0, .int .i64 0, .string ⟨#[]⟩, .bool false, .int .i64 0] 28)).cell? ⟨B, 0, none⟩ = some (.func (.func k) #[] #[]) := by rw [World.cell?_alloc_past _ _ _ lB]; exact hB
  have q0 : (w.alloc (.cells #[.int .i64 0, .int .i64 0, .string ⟨#[]⟩, .bool false, .int .i64 0] 28)).cell? ⟨g, 0, none⟩ = some (.int .i64 a) := by rw [World.cell?_alloc_past _ _ _ lg]; exact h0
  have n0 := World.new_ne w ⟨B, 0, none⟩ hB
  have n1 := World.new_ne w ⟨g, 0, none⟩ h0
  have l0 := Nat.lt_of_lt_of_le lB (below_al w (.cells #[.int .i64 0, .int .i64 0, .string ⟨#[]⟩, .bool false, .int .i64 0] 28)).size
  have l1 := Nat.lt_of_lt_of_le lg (below_al w (.cells #[.int .i64 0, .int .i64 0, .string ⟨#[]⟩, .bool false, .int .i64 0] 28)).size
  clear hB h0 lg lB
  go_enter Tryz.func134, Tryz.ntmps134
  go_upto_region 1 with fail
  have HX := hide (five_new w 28 (.int .i64 0) (.int .i64 0) (.string ⟨#[]⟩) (.bool false) (.int .i64 0))
  have HB := hide (below_al w (.cells #[.int .i64 0, .int .i64 0, .string ⟨#[]⟩, .bool false, .int .i64 0] 28))
  generalize hW : w.alloc (.cells #[.int .i64 0, .int .i64 0, .string ⟨#[]⟩, .bool false, .int .i64 0] 28) = w1 at HX HB qB q0 l0 l1 ⊢
  clear hW
  have L0 := hide l0
  have L1 := hide l1
  clear l0 l1
  replace HX := hide (five_drew (unhide HX))
  replace HB := hide (unhide HB).drew
  go_region_held3 (fun w' => w'.cell? ⟨B, 0, none⟩ = some (.func (.func k) #[] #[]) ∧ w'.cell? ⟨g, 0, none⟩ = some (.int .i64 a)) (go_keep)
    (first
      | (go_at_call 87; refine (unhide HT _).mono ?_; rintro e yy ⟨rfl, zz⟩; have hf := five_below (unhide HX) zz (five_lt (unhide HX)); obtain ⟨⟨⟨x0, c0⟩, ⟨x1, c1⟩, ⟨x2, c2⟩, ⟨x3, c3⟩, x4, c4⟩, f0, f1, f2, f3, f4⟩ := five_all hf; have HF := hide hf; have HBZ := hide (below_nx (unhide HB) zz); have d0 := (zz.cell (p := ⟨B, 0, none⟩) (unhide L0)).trans qB; have d1 := (zz.cell (p := ⟨g, 0, none⟩) (unhide L1)).trans q0; clear hf zz qB q0; have qB := d0; have q0 := d1; clear d0 d1; unfold Vl.cells)
      | (refine (unhide HD _).mono ?_; rintro e yy ⟨rfl, zz⟩; replace HX := hide (five_below (unhide HX) zz (five_lt (unhide HX))); replace HB := hide (below_nx (unhide HB) zz); have c0 := (zz.cell (p := ⟨B, 0, none⟩) (unhide L0)).trans qB; have c1 := (zz.cell (p := ⟨g, 0, none⟩) (unhide L1)).trans q0; replace L0 := hide (Nat.lt_of_lt_of_le (unhide L0) zz.size); replace L1 := hide (Nat.lt_of_lt_of_le (unhide L1) zz.size); clear qB q0 zz; have qB := c0; have q0 := c1; clear c0 c1))
  all_goals (try go_wp2)
  all_goals refine bodyPost_ret (results_cell_row rfl _ _ _ _ _ _ _ rfl (five_set (unhide HF) _ _ _ _ _).1 Tryz.underlying28 rfl infoVal) rfl ?_
  all_goals exact ⟨rfl, below_five (unhide HBZ) (Nat.le_refl _) _ _ _ _ _⟩
end Go.Proofs.YtbeijnflfmjgfaaGreatDoor

namespace Go.Proofs.YtbeijnflfmjgfaaGreatDoor
open Go.RowKit

def ofV (n : Nat) (t : List Int → Vl) (vs : List Vl) : Vl := if vs.length ≠ n then vE 3 else if (numsV vs).1 ≠ 0 then vE (numsV vs).1 else t (numsV vs).2
theorem infoF : (Tryz.prog.info? 25).map (fun i => (i.zero, i.size, i.bytes)) = some (some (.int .i64 0), 1, 8) := by kernel_rfl
theorem owns_cells {w : World} {B g N : Nat} {T : TypeId} {zs : List Int} (h : w.ownsRow B T 1 (.slice (some ⟨g, 0, none⟩) zs.length N) zs.length (zs.map (Value.int .i64))) :
    ∀ i z, zs[i]? = some z → w.cell? ⟨g, i, none⟩ = some (.int .i64 z) := by
  intro i z hz
  obtain ⟨hi, e⟩ := List.getElem?_eq_some_iff.1 hz
  have := h.cellAt i (by simpa using hi)
  simpa [hz] using this

set_option maxRecDepth 100000 in
set_option maxHeartbeats 8000000 in
theorem of_val (n : Nat) (fv : Value) (t : List Int → Vl) (va : Value) (vs : List Vl) (w : World) (hn : n ≤ 1000) (hl : vs.length ≤ 1000) (hv : ∀ x ∈ vs, x.text.size ≤ 1000) (hva : ValsAt w va vs) (hf : FnAt w fv n t) (he : Env3 w) :
    Calls Tryz.prog 31 #[.agg #[.int .i64 (n : Int), fv], va] w fun e w' => e = .returned (.agg (ofV n t vs).cells) ∧ Below w.heap.size w w' := by
  have HE := hide he
  obtain ⟨k, cp, rfl, hen, hfn⟩ := hf
  have HFN := hide hfn
  obtain ⟨ad, cap, rfl, hrow⟩ := hva
  have HROW := hide hrow
  have HTX := hide hv
  clear hrow hv hfn he
  unfold ofV
  obtain ⟨L, hL⟩ : ∃ L, vs.length = L := ⟨_, rfl⟩
  rw [hL] at hl HROW ⊢
  have HL := hide hL
  clear hL
  by_cases hlk : L = n
  rotate_left
  · rw [if_pos hlk]
    have hlki : ((L : Int) == (n : Int)) = false := by rw [beq_eq_false_iff_ne]; omega
    have HC := hide (fun w => e_val 3 w)
    generalize vE 3 = V at HC ⊢
    go_enter Tryz.func31, Tryz.ntmps31
    go_upto_region 1 with fail
    have HX := hide (five_new2 w (.cells #[.int .i64 (n : Int), .func (.func k) #[] cp] 63) 28 (.int .i64 0) (.int .i64 0) (.string ⟨#[]⟩) (.bool false) (.int .i64 0))
    have HF := hide (fbox_below (fbox_new w (.int .i64 (n : Int)) (.func (.func k) #[] cp)) (below_al _ (.cells #[.int .i64 0, .int .i64 0, .string ⟨#[]⟩, .bool false, .int .i64 0] 28)))
    have HB := hide (below_al2 w (.cells #[.int .i64 (n : Int), .func (.func k) #[] cp] 63) (.cells #[.int .i64 0, .int .i64 0, .string ⟨#[]⟩, .bool false, .int .i64 0] 28))
    generalize hW : (w.alloc (.cells #[.int .i64 (n : Int), .func (.func k) #[] cp] 63)).alloc (.cells #[.int .i64 0, .int .i64 0, .string ⟨#[]⟩, .bool false, .int .i64 0] 28) = w1 at HX HF HB ⊢
    clear hW
    have f_0 := fbox_c0 (unhide HF)
    go_wp2_with fail
    refine (unhide HC _).mono ?_
    rintro e wz ⟨rfl, bz⟩
    have hf := five_below (unhide HX) bz (five_lt (unhide HX))
    obtain ⟨⟨⟨x0, c0⟩, ⟨x1, c1⟩, ⟨x2, c2⟩, ⟨x3, c3⟩, x4, c4⟩, f0, f1, f2, f3, f4⟩ := five_all hf
    have HF5 := hide hf
    have HB5 := hide (below_nx (unhide HB) bz)
    clear hf bz f_0
    unfold Vl.cells
    go_wp2
    refine bodyPost_ret (results_cell_row rfl _ _ _ _ _ _ _ rfl (five_set (unhide HF5) _ _ _ _ _).1 Tryz.underlying28 rfl infoVal) rfl ?_
    exact ⟨rfl, below_five (unhide HB5) (by omega) _ _ _ _ _⟩
  subst hlk
  rw [if_neg (by omega)]
  obtain ⟨V, hV⟩ : ∃ V, (if (numsV vs).1 ≠ 0 then vE (numsV vs).1 else t (numsV vs).2) = V := ⟨_, rfl⟩
  rw [hV]
  have HV := hide hV
  clear hV
  obtain ⟨i0, hi, hz0, hz1, hz2⟩ := info_parts infoF
  go_enter Tryz.func31, Tryz.ntmps31
  go_upto_region 1 with fail
  have HX := hide (five_new2 w (.cells #[.int .i64 (L : Int), .func (.func k) #[] cp] 63) 28 (.int .i64 0) (.int .i64 0) (.string ⟨#[]⟩) (.bool false) (.int .i64 0))
  have HF := hide (fbox_below (fbox_new w (.int .i64 (L : Int)) (.func (.func k) #[] cp)) (below_al _ (.cells #[.int .i64 0, .int .i64 0, .string ⟨#[]⟩, .bool false, .int .i64 0] 28)))
  have HB := hide (below_al2 w (.cells #[.int .i64 (L : Int), .func (.func k) #[] cp] 63) (.cells #[.int .i64 0, .int .i64 0, .string ⟨#[]⟩, .bool false, .int .i64 0] 28))
  generalize hW : (w.alloc (.cells #[.int .i64 (L : Int), .func (.func k) #[] cp] 63)).alloc (.cells #[.int .i64 0, .int .i64 0, .string ⟨#[]⟩, .bool false, .int .i64 0] 28) = w1 at HX HF HB ⊢
  clear hW
  have f_0 := fbox_c0 (unhide HF)
  go_wp2_with (at_make; refine wpList_make_own _ rfl _ _ 59 rfl w1.heap.size 25 i0 (.int .i64 0) 1 Tryz.underlying59 hi hz0 hz1 _ _ _ L rfl rfl rfl (by rw [hz2]; omega) (by unfold maxLen; omega) (Nat.le_refl _) ?_)
  intro w0 hown0 hgrow0
  have bl0 : Below w1.heap.size w1 w0 := (Below.refl _ _).grown hgrow0 (Nat.le_refl _) (fun k h => by cases h)
  have HO := hide hown0
  have HR := hide bl0
  clear bl0 hown0 hgrow0 f_0
  go_wp2
  go_loopw [5, 8, 9, 21] (fun v _ _ u wr => ∃ zs : List Int, v = .slice (some ⟨w1.heap.size, 0, none⟩) zs.length L ∧ u = .int .i64 (zs.length : Int) ∧ zs.length ≤ L ∧ Hid (wr.ownsRow w1.heap.size 25 1 (.slice (some ⟨w1.heap.size, 0, none⟩) zs.length L) zs.length (zs.map (Value.int .i64))) ∧ Hid (Below w1.heap.size w1 wr) ∧ Hid (NumsIn vs zs)) (fun _ _ _ u _ => (L - intOf u).toNat)
  case atStart => exact ⟨[], rfl, rfl, Nat.zero_le _, HO, HR, hide (nums_start vs)⟩
  case round =>
    clear HO HR
    obtain ⟨zs, rfl, rfl, hj, HO, HR, HI⟩ := hrel
    by_cases hlt : (zs.length : Int) < (L : Int)
    · obtain ⟨x, hx⟩ : ∃ x, vs[zs.length]? = some x := ⟨_, List.getElem?_eq_getElem (by rw [unhide HL]; omega)⟩
      obtain ⟨b, o, rfl, hb, hc⟩ := unhide HROW (by omega)
      have hbel : Below w.heap.size w wr := below_nx (unhide HB) (unhide HR)
      obtain ⟨c0, c1, c2, c3, c4⟩ := hc _ x hx
      rw [← hbel.cell (p := ⟨b, o + zs.length * 5, none⟩) hb] at c0
      rw [← hbel.cell (p := ⟨b, o + zs.length * 5 + 1, none⟩) hb] at c1
      rw [← hbel.cell (p := ⟨b, o + zs.length * 5 + 2, none⟩) hb] at c2
      rw [← hbel.cell (p := ⟨b, o + zs.length * 5 + 3, none⟩) hb] at c3
      rw [← hbel.cell (p := ⟨b, o + zs.length * 5 + 4, none⟩) hb] at c4
      have HN := hide (fun w he => asnum_val x w (unhide HTX x (List.mem_of_getElem? hx)) he)
      have NB := hide (fun h => nums_bad (unhide HI) hx h)
      have NM := hide (fun h => nums_more (unhide HI) hx h)
      have hr := num_range x
      obtain ⟨r, er⟩ : ∃ r, asNumV (vSound x) = r := ⟨_, rfl⟩
      rw [er] at HN NB NM hr
      clear er hx hc hbel
      obtain ⟨hr, r1, r2⟩ := hr
      unfold Vl.cells at HN
      go_upto_region 7 with fail
      have HV5 := hide (five_new wr 28 (.int .i64 x.kind) (.int .i64 x.num) (.string x.text) (.bool x.tr) (.int .i64 x.fail))
      have HO1 := hide ((unhide HO).alloc (.cells #[.int .i64 x.kind, .int .i64 x.num, .string x.text, .bool x.tr, .int .i64 x.fail] 28))
      have HR1 := hide (below_nx (unhide HR) (below_al wr (.cells #[.int .i64 x.kind, .int .i64 x.num, .string x.text, .bool x.tr, .int .i64 x.fail] 28)))
      generalize hW : wr.alloc (.cells #[.int .i64 x.kind, .int .i64 x.num, .string x.text, .bool x.tr, .int .i64 x.fail] 28) = W1 at HV5 HO1 HR1 ⊢
      clear hW c0 c1 c2 c3 c4 hb HO HR
      obtain ⟨c0, c1, c2, c3, c4⟩ := five_cells (unhide HV5)
      go_wp2_with fail
      refine (unhide HN _ ((unhide HE).below (below_nx (unhide HB) (unhide HR1)))).mono ?_
      rintro e wk ⟨rfl, bk⟩
      have HR2 := hide (below_nx (unhide HR1) bk)
      have HO2 := hide (own_belowT (unhide HO1) bk)
      clear bk c0 c1 c2 c3 c4 HV5 HO1 HR1 HN
      by_cases h0 : r.2 = 0
      · have NN := hide (unhide NM h0)
        clear hr NB NM
        go_wp2_with (at_builtin; go_must (refine wpList_append_fits _ rfl _ _ 59 rfl w1.heap.size 25 i0 1 Tryz.underlying59 hi hz1 w1.heap.size zs.length L _ rfl ((unhide HO2).alloc _) ⟨wk.heap.size, 0, none⟩ 1 1 [.int .i64 r.1] rfl rfl (World.news_of_block (heap_alloc_new _ _)) ?c2 ?c3 ?_))
        case c2 => intro u hu; simp at hu; subst hu; rfl
        case c3 => omega
        intro w2 hown2 hgrow2
        have HR3 := hide (((unhide HR2).alloc (unhide HR2).size _).grown hgrow2 (by have := (unhide HR2).size; simp; omega) (fun k hk => by cases hk; exact Nat.le_refl _))
        have HO3 := hide hown2
        rw [show zs.map (Value.int .i64) ++ [Value.int .i64 r.1] = (zs ++ [r.1]).map (Value.int .i64) by simp, show zs.length + 1 = (zs ++ [r.1]).length by simp] at HO3
        clear hown2 hgrow2 HO2 HR2
        go_wp2
        go_roundw
        case rel => exact ⟨zs ++ [r.1], by simp, int_eqv (by simp), by simp; omega, HO3, HR3, NN⟩
        case measure => simp [intOf]; omega
      · have h0b : (r.2 != 0) = true := by simp [h0]
        have hE := unhide HV
        rw [unhide NB h0, if_pos h0] at hE
        have HC := hide (fun w => e_val r.2 w)
        rw [hE] at HC
        have HX3 := hide (five_below (unhide HX) (unhide HR2) (five_lt (unhide HX)))
        have HB3 := hide (below_nx (unhide HB) (unhide HR2))
        clear hE hr NB NM
        go_wp2_with fail
        refine (unhide HC _).mono ?_
        rintro e wz ⟨rfl, bz⟩
        have hf := five_below (unhide HX3) bz (five_lt (unhide HX3))
        obtain ⟨⟨⟨x0, c0⟩, ⟨x1, c1⟩, ⟨x2, c2⟩, ⟨x3, c3⟩, x4, c4⟩, f0, f1, f2, f3, f4⟩ := five_all hf
        have HF5 := hide hf
        have HB5 := hide (below_nx (unhide HB3) bz)
        clear hf bz
        unfold Vl.cells
        go_wp2
        try simp only [Exit.inBlock, Exit.then]
        refine bodyPost_ret (results_cell_row rfl _ _ _ _ _ _ _ rfl (five_set (unhide HF5) _ _ _ _ _).1 Tryz.underlying28 rfl infoVal) rfl ?_
        exact ⟨rfl, below_five (unhide HB5) (by omega) _ _ _ _ _⟩
    · have hzl : zs.length = L := by omega
      have hE := nums_end (unhide HI) (by rw [unhide HL]; exact hzl)
      have hV := unhide HV
      rw [hE.1, if_neg (by omega), hE.2] at hV
      have hzr := (unhide HI).1
      have HX3 := hide (five_below (unhide HX) (unhide HR) (five_lt (unhide HX)))
      have HB3 := hide (below_nx (unhide HB) (unhide HR))
      have HF3 := hide (fbox_below (unhide HF) (unhide HR))
      have HC := hide (fun w' hc hg hb => unhide HFN zs w1.heap.size L w' hzl hzr hc hg hb)
      rw [hV] at HC
      have f_0 := fbox_c0 (unhide HF3)
      have f_1 := fbox_c1 (unhide HF3)
      have HOZ := hide (owns_cells (unhide HO))
      have HG : Hid (w1.heap.size < wr.heap.size) := hide (by
        rcases (unhide HO).2 with ⟨h, _⟩ | ⟨g, cap', cur, hv', hb', hh, _⟩
        · cases h
        · cases hv'
          rcases Nat.lt_or_ge w1.heap.size wr.heap.size with h' | h'
          · exact h'
          · rw [Array.getElem?_eq_none h'] at hh; cases hh)
      clear hV hE hzr HI HV HROW HTX HL HO HX HF
      have hcf : ∀ (args : Array Value) (w : World), (callFunc k args).run Tryz.prog w = .ok (.enter k args) w := hen
      go_wp2_with fail
      refine (unhide HC _ (unhide HOZ) (unhide HG) (unhide HB3)).mono ?_
      rintro e wz ⟨rfl, bz⟩
      have hf := five_below (unhide HX3) bz (five_lt (unhide HX3))
      obtain ⟨⟨⟨x0, c0⟩, ⟨x1, c1⟩, ⟨x2, c2⟩, ⟨x3, c3⟩, x4, c4⟩, f0, f1, f2, f3, f4⟩ := five_all hf
      have HF5 := hide hf
      have HB5 := hide (below_nx (unhide HB3) bz)
      clear hf bz f_0 f_1
      unfold Vl.cells
      go_wp2
      try simp only [Exit.inBlock, Exit.then]
      refine bodyPost_ret (results_cell_row rfl _ _ _ _ _ _ _ rfl (five_set (unhide HF5) _ _ _ _ _).1 Tryz.underlying28 rfl infoVal) rfl ?_
      exact ⟨rfl, below_five (unhide HB5) (by omega) _ _ _ _ _⟩
end Go.Proofs.YtbeijnflfmjgfaaGreatDoor

namespace Go.Proofs.YtbeijnflfmjgfaaGreatDoor
open Go.RowKit

theorem pair_drew {w : World} {B : Nat} {a b : Value} (h : PairAt w B a b) : PairAt w.drew B a b := h
theorem pair_lt {w : World} {B : Nat} {a b : Value} (h : PairAt w B a b) : B < w.heap.size := by
  unfold PairAt at h
  rcases Nat.lt_or_ge B w.heap.size with h1 | h1
  · exact h1
  · rw [Array.getElem?_eq_none h1] at h; cases h

theorem bool_eqv {a b : Bool} (h : a = b) : Value.bool a = Value.bool b := by rw [h]
theorem ordV_neg (n m : Nat) : ordV n m < 0 ↔ n < m := by
  unfold ordV
  by_cases h : n = m
  · rw [if_pos h]; omega
  · rw [if_neg h]
    by_cases h2 : n < m
    · rw [if_pos h2]; omega
    · rw [if_neg h2]; omega

structure RootIn (sq i r : Nat) : Prop where
  top : r + 2 ^ (39 - i) ≤ 549755813888
  low : r = 0 ∨ r * (r - 1) < sq
  high : sq ≤ (r + 2 ^ (39 - i)) * (r + 2 ^ (39 - i) - 1)
theorem root_yes {sq i r : Nat} (hi : i < 39) (h : RootIn sq i r) (hc : (r + 2 ^ (38 - i)) * (r + 2 ^ (38 - i) - 1) < sq) : RootIn sq (i + 1) (r + 2 ^ (38 - i)) := by
  obtain ⟨h1, h2, h3⟩ := h
  have e : 2 ^ (39 - i) = 2 ^ (38 - i) + 2 ^ (38 - i) := by rw [show 39 - i = 38 - i + 1 by omega, Nat.pow_succ]; omega
  rw [e] at h1 h3
  rw [← Nat.add_assoc] at h1 h3
  refine ⟨?_, Or.inr hc, ?_⟩
  · rw [show 39 - (i + 1) = 38 - i by omega]; exact h1
  · rw [show 39 - (i + 1) = 38 - i by omega]; exact h3
theorem root_no {sq i r : Nat} (hi : i < 39) (h : RootIn sq i r) (hc : ¬ (r + 2 ^ (38 - i)) * (r + 2 ^ (38 - i) - 1) < sq) : RootIn sq (i + 1) r := by
  obtain ⟨h1, h2, h3⟩ := h
  have e : 2 ^ (39 - i) = 2 ^ (38 - i) + 2 ^ (38 - i) := by rw [show 39 - i = 38 - i + 1 by omega, Nat.pow_succ]; omega
  refine ⟨?_, h2, ?_⟩
  · rw [show 39 - (i + 1) = 38 - i by omega]; have : 0 < 2 ^ (38 - i) := Nat.two_pow_pos _; omega
  · rw [show 39 - (i + 1) = 38 - i by omega]; exact Nat.le_of_not_lt hc
theorem root_start (sq : Nat) (h : sq ≤ 90000000000000000000000) : RootIn sq 0 0 := ⟨by decide, Or.inl rfl, by
  have : (0 + 2 ^ (39 - 0)) * (0 + 2 ^ (39 - 0) - 1) = 302231454903107537862656 := by decide
  omega⟩

set_option maxHeartbeats 1000000 in
theorem sqrt_bad (a : Int) (w : World) (h : goodB a = false ∨ a < 0) :
    Calls Tryz.prog 100 #[.int .i64 a] w fun e w' => e = .returned (.tuple #[.int .i64 0, .int .i64 5]) ∧ Below w.heap.size w w' := by
  cases hg : goodB a
  · have HG := hide hg
    clear h hg
    go_enter Tryz.func100, Tryz.ntmps100
    go_wp2_with fail
    refine (fl_raw_no a _ (unhide HG)).mono ?_
    rintro e w1 ⟨rfl, b1⟩
    go_wp2
    go_ret2
    exact ⟨rfl, b1⟩
  · have HG := hide hg
    have hn : a < 0 := by
      rcases h with h | h
      · rw [hg] at h; cases h
      · exact h
    clear h hg
    go_enter Tryz.func100, Tryz.ntmps100
    go_wp2_with fail
    refine (fl_raw_yes a _ (unhide HG)).mono ?_
    rintro e w1 ⟨rfl, b1⟩
    go_wp2
    go_ret2
    exact ⟨rfl, b1⟩

set_option maxRecDepth 100000 in
set_option maxHeartbeats 2000000 in
theorem sqrt_good (a : Nat) (w : World) (h : a ≤ 9000000000000000000) :
    Calls Tryz.prog 100 #[.int .i64 (a : Int)] w fun e w' => (∃ r : Nat, e = .returned (.tuple #[.int .i64 (r : Int), .int .i64 0]) ∧ RootIn (a * 10000) 39 r) ∧ Below w.heap.size w w' := by
  have HG : Hid (goodB (a : Int) = true) := hide (by rw [goodB_iff]; omega)
  go_enter Tryz.func100, Tryz.ntmps100
  go_wp2_with fail
  refine (fl_raw_yes (a : Int) _ (unhide HG)).mono ?_
  rintro e w1 ⟨rfl, b1⟩
  go_wp2_with fail
  refine (product_two a 10000 _ _ _ rfl rfl (by omega) (by omega)).mono ?_
  rintro e w2 ⟨⟨h1, l1, rfl, T1⟩, b2⟩
  have HB : Hid (Below w.heap.size w (w2.alloc (.cells #[.int .u64 h1, .int .u64 l1] 146))) := hide (by
    have c := fl_below_then b1 b2
    exact c.alloc c.size _)
  have HP := hide (pair_new w2 (.int .u64 h1) (.int .u64 l1))
  have HL : Hid (w.heap.size ≤ w2.heap.size) := hide (fl_below_then b1 b2).size
  clear b1 b2
  go_wp2_with fail
  go_loopw [7, 24] (fun f p wr => ∃ r i : Nat, f = .int .u64 (r : Int) ∧ p = .int .i64 (i : Int) ∧ i ≤ 39 ∧ Hid (RootIn (a * 10000) i r) ∧ Hid (PairAt wr w2.heap.size (.int .u64 h1) (.int .u64 l1)) ∧ Hid (Below w.heap.size w wr)) (fun _ p _ => 39 - (intOf p).toNat)
  case atStart => exact ⟨0, 0, rfl, rfl, by omega, hide (root_start _ (by omega)), HP, HB⟩
  case round =>
    clear HP HB
    obtain ⟨r, i, rfl, rfl, hi, HR, HP, HB⟩ := hrel
    by_cases hlt : i < 39
    · have hr : r + 2 ^ (39 - i) ≤ 549755813888 := (unhide HR).top
      obtain ⟨d, hd⟩ : ∃ d : Nat, 2 ^ (38 - i) = d := ⟨_, rfl⟩
      have hd2 : 2 ^ (39 - i) = d + d := by rw [← hd, show 39 - i = 38 - i + 1 by omega, Nat.pow_succ]; omega
      have hd0 : 0 < d := by rw [← hd]; exact Nat.two_pow_pos _
      rw [hd2] at hr
      obtain ⟨m, hm⟩ : ∃ m : Nat, r + d = m := ⟨_, rfl⟩
      have e1 : IntKind.u64.wrap ((2 : Int) ^ (38 - i)) = (d : Int) := by
        rw [IntKind.wrap_u64, show (2 : Int) ^ (38 - i) = (d : Int) from by rw [← hd]; norm_cast]; omega
      have e2 : IntKind.u64.wrap ((r : Int) + (d : Int)) = (m : Int) := by
        rw [IntKind.wrap_u64]; omega
      have hm1 : 1 ≤ m := by omega
      have hm2 : m ≤ 549755813888 := by omega
      have HY : Hid (m * (m - 1) < a * 10000 → RootIn (a * 10000) (i + 1) m) := hide (fun hc => by
        have := root_yes hlt (unhide HR) (by rw [hd, hm]; exact hc)
        rw [hd, hm] at this; exact this)
      have HN : Hid (¬ m * (m - 1) < a * 10000 → RootIn (a * 10000) (i + 1) r) := hide (fun hc => root_no hlt (unhide HR) (by rw [hd, hm]; exact hc))
      have HM := hide (And.intro hd hm)
      obtain ⟨m1, hm3⟩ : ∃ m1 : Nat, m1 + 1 = m := ⟨m - 1, by omega⟩
      have e3 : IntKind.u64.wrap ((m : Int) - 1) = (m1 : Int) := by rw [IntKind.wrap_u64]; omega
      have HM1 : Hid (m - 1 = m1 ∧ m1 < 18446744073709551616) := hide (by omega)
      have hr2 : r ≤ 549755813888 := by omega
      clear hd hm hd2 hr hd0 hm3
      go_upto_region 9 with fail
      clear e1 e2
      obtain ⟨c, hcc⟩ : ∃ c : Bool, decide (m * (m - 1) < a * 10000) = c := ⟨_, rfl⟩
      have HC : Hid (decide (ordV (m * m1) (a * 10000) < 0) = c) := hide (by rw [← hcc, (unhide HM1).1]; exact decide_eq_decide.2 (ordV_neg _ _))
      have HCC := hide hcc
      clear hcc
      go_cut [24, 38] from 24 to 40 (fun p v wx => p = .int .i64 (i : Int) ∧ v = .bool c ∧ Hid (PairAt wx w2.heap.size (.int .u64 h1) (.int .u64 l1)) ∧ Hid (Below w.heap.size w wx))
      case first =>
        have c0 := pair_c0 (unhide HP)
        have c1 := pair_c1 (unhide HP)
        go_region_with (first
          | (go_at_call 139; refine (product_two m m1 _ _ _ rfl rfl (by omega) (unhide HM1).2).mono ?_; rintro e w3 ⟨⟨h2, l2, rfl, T2⟩, b2⟩; have HP3 := hide (pair_below (pair_drew (unhide HP)) b2 (pair_lt (unhide HP))); have d0 := pair_c0 (unhide HP3); have d1 := pair_c1 (unhide HP3); have HB3 := hide (fl_below_then (unhide HB).drew b2); clear b2)
          | (go_at_call 140; refine (order_two (m * m1) (a * 10000) _ _ _ _ _ (unhide T2) (unhide T1)).mono ?_; rintro e w4 ⟨rfl, b4⟩; have HP4 := hide (pair_below (unhide HP3) b4 (pair_lt (unhide HP3))); have HB4 := hide (fl_below_then (unhide HB3) b4); clear b4))
        all_goals (try go_wp2_with fail)
        all_goals go_meet
        all_goals exact ⟨rfl, bool_eqv (unhide HC), HP4, HB4⟩
      case rest =>
        clear HP HB
        obtain ⟨rfl, rfl, HP, HB⟩ := hcut
        cases c
        · have hc := unhide HCC
          rw [decide_eq_false_iff_not] at hc
          have HR' := hide (unhide HN hc)
          clear hc
          go_wp2_with fail
          go_roundw
          case rel => exact ⟨r, i + 1, rfl, by go_num, by omega, HR', HP, HB⟩
          case measure => simp [intOf]; omega
        · have hc := unhide HCC
          rw [decide_eq_true_iff] at hc
          have HR' := hide (unhide HY hc)
          clear hc
          go_wp2_with fail
          go_roundw
          case rel => exact ⟨m, i + 1, rfl, by go_num, by omega, HR', HP, HB⟩
          case measure => simp [intOf]; omega
    · have hi9 : i = 39 := by omega
      subst hi9
      have hr := (unhide HR).top
      rw [Nat.sub_self, Nat.pow_zero] at hr
      have HG' : Hid (goodB (r : Int) = true) := hide (by rw [goodB_iff]; omega)
      go_wp2_with fail
      refine (fl_raw_yes (r : Int) _ (unhide HG')).mono ?_
      rintro e w5 ⟨rfl, b5⟩
      go_wp2
      go_ret2
      exact ⟨⟨r, rfl, unhide HR⟩, fl_below_then (unhide HB) b5⟩
end Go.Proofs.YtbeijnflfmjgfaaGreatDoor

namespace Go.Proofs.YtbeijnflfmjgfaaGreatDoor
open Go.RowKit

theorem pow_ten (p : Int) (h1 : -15 ≤ p) (h2 : p ≤ 3) : powG 100000 (-(p * 10000)) = (if p = -15 then ((0 : Int), (5 : Int)) else (((10 ^ (4 - p).toNat : Nat) : Int), (0 : Int))) := by
  rcases (show p = -15 ∨ p = -14 ∨ p = -13 ∨ p = -12 ∨ p = -11 ∨ p = -10 ∨ p = -9 ∨ p = -8 ∨ p = -7 ∨ p = -6 ∨ p = -5 ∨ p = -4 ∨ p = -3 ∨ p = -2 ∨ p = -1 ∨ p = 0 ∨ p = 1 ∨ p = 2 ∨ p = 3 by omega) with
    rfl | rfl | rfl | rfl | rfl | rfl | rfl | rfl | rfl | rfl | rfl | rfl | rfl | rfl | rfl | rfl | rfl | rfl | rfl <;> kernel_rfl
theorem up_exact {a p : Int} {s : Nat} (hs : 10 ^ (4 - p).toNat = s) (h0 : 0 < s) (hp : p ≤ 3) (h1 : -9000000000000000000 ≤ a) (h2 : a ≤ 9000000000000000000) (h : a.tmod (s : Int) = 0) : upQ a p = (a, 0) := by
  unfold upQ upP
  have e : a.natAbs % s = 0 := by have := Int.natAbs_tmod a (s : Int); rw [h] at this; simpa using this.symm
  have d := Nat.div_add_mod' a.natAbs s
  rw [if_neg (by omega), hs, up_none a.natAbs (a.natAbs / s) s h0 (by omega), show a.natAbs / s * s = a.natAbs by omega]
  unfold sgnN sgnE
  have hs9 : ¬ (9000000000000000000 : Int) < (a.natAbs : Nat) := by omega
  rw [if_neg hs9, if_neg hs9]
  by_cases ha : a < 0
  · rw [decide_eq_true ha, if_pos rfl, show -(a.natAbs : Int) = a by omega]
  · rw [decide_eq_false ha, if_neg (by simp), show (a.natAbs : Int) = a by omega]
theorem up_more {a p : Int} {s : Nat} (hs : 10 ^ (4 - p).toNat = s) (h0 : 0 < s) (hl : s ≤ 1000000000000000000) (hp : p ≤ 3) (h1 : -9000000000000000000 ≤ a) (h2 : a ≤ 9000000000000000000) (h : a.tmod (s : Int) ≠ 0) :
    upQ a p = (addN (a - a.tmod (s : Int)) (if a < 0 then -(s : Int) else (s : Int)), addE (a - a.tmod (s : Int)) (if a < 0 then -(s : Int) else (s : Int))) := by
  unfold upQ upP
  have e := Int.natAbs_tmod a (s : Int)
  have e1 : (s : Int).natAbs = s := by omega
  rw [e1] at e
  have hm := Nat.mod_lt a.natAbs h0
  have d := Nat.div_add_mod' a.natAbs s
  rw [if_neg (by omega), hs, up_some a.natAbs (a.natAbs / s) (a.natAbs % s) s (by omega) (by omega) hm]
  have d2 : (a.natAbs / s + 1) * s = a.natAbs - a.natAbs % s + s := by rw [Nat.add_mul]; omega
  rw [d2]
  have ht : a < 0 ∧ a.tmod (s : Int) = -((a.natAbs % s : Nat) : Int) ∨ ¬ a < 0 ∧ a.tmod (s : Int) = ((a.natAbs % s : Nat) : Int) := by
    rcases Int.lt_or_le a 0 with ha | ha
    · left
      have h3 := Int.tmod_nonneg (s : Int) (show 0 ≤ -a by omega)
      rw [Int.neg_tmod] at h3
      exact ⟨ha, by omega⟩
    · right
      have h3 := Int.tmod_nonneg (s : Int) ha
      exact ⟨by omega, by omega⟩
  generalize a.natAbs % s = r at *
  generalize a.tmod (s : Int) = t at *
  unfold sgnN sgnE addN addE
  rcases ht with ⟨ha, rfl⟩ | ⟨ha, rfl⟩
  · rw [if_pos ha, decide_eq_true ha, if_pos rfl]
    by_cases hk : okAdd (a - -(r : Int)) (-(s : Int)) = true
    · rw [if_pos hk, if_pos hk]
      rw [okAdd_iff] at hk
      have hn : ¬ (9000000000000000000 : Int) < ((a.natAbs - r + s : Nat) : Int) := by omega
      rw [if_neg hn, if_neg hn, Prod.mk.injEq]
      exact ⟨by omega, rfl⟩
    · rw [if_neg hk, if_neg hk]
      rw [okAdd_iff] at hk
      rw [if_pos (by omega), if_pos (by omega)]
  · rw [if_neg ha, decide_eq_false ha]
    by_cases hk : okAdd (a - (r : Int)) (s : Int) = true
    · rw [if_pos hk, if_pos hk]
      rw [okAdd_iff] at hk
      have hn : ¬ (9000000000000000000 : Int) < ((a.natAbs - r + s : Nat) : Int) := by omega
      rw [if_neg hn, if_neg hn, if_neg (by simp), Prod.mk.injEq]
      exact ⟨by omega, rfl⟩
    · rw [if_neg hk, if_neg hk]
      rw [okAdd_iff] at hk
      rw [if_pos (by omega), if_pos (by omega)]
theorem up_great {a : Int} (h : a ≠ 0) : upQ a (-15) = (0, 5) := by
  unfold upQ upP
  rw [if_neg (by decide), show (4 - (-15 : Int)).toNat = 19 by decide]
  have hq : 1 ≤ (a.natAbs + (10 ^ 19 - 1)) / 10 ^ 19 := by omega
  have : 10 ^ 19 ≤ (a.natAbs + (10 ^ 19 - 1)) / 10 ^ 19 * 10 ^ 19 := Nat.le_mul_of_pos_left _ hq
  unfold sgnN sgnE
  rw [if_pos (by omega), if_pos (by omega)]
theorem up_far {a p : Int} (h : 3 < p) : upQ a p = (a, 0) := by unfold upQ; rw [if_pos h]
theorem up_nil {p : Int} (h : -15 ≤ p) : upQ 0 p = (0, 0) := by
  by_cases h3 : 3 < p
  · exact up_far h3
  · obtain ⟨s, hs⟩ : ∃ s, 10 ^ (4 - p).toNat = s := ⟨_, rfl⟩
    have h0 : 0 < s := by rw [← hs]; exact Nat.pow_pos (by omega)
    exact up_exact hs h0 (by omega) (by omega) (by omega) (by simp)
theorem step_le {p : Int} {s : Nat} (hs : 10 ^ (4 - p).toNat = s) (h : -14 ≤ p) : 0 < s ∧ s ≤ 1000000000000000000 := by
  have h1 : 10 ^ (4 - p).toNat ≤ 10 ^ 18 := Nat.pow_le_pow_right (by omega) (by omega)
  have h2 : 0 < 10 ^ (4 - p).toNat := Nat.pow_pos (by omega)
  omega
theorem pow_bad {a b : Int} (h : b.tmod 10000 ≠ 0 ∨ b < -10000000 ∨ 10000000 < b) : powG a b = (0, 5) := by unfold powG; rw [if_pos h]
theorem pow_good {a b : Int} (h : ¬ (b.tmod 10000 ≠ 0 ∨ b < -10000000 ∨ 10000000 < b)) : powG a b = powP a b := by unfold powG; rw [if_neg h]
theorem powL_zero (a : Int) (p : Int) : powL a 0 p = (p, 0) := rfl
theorem powL_more {a : Int} {n : Nat} {p : Int} (h : (mulR p a).2 = 0) : powL a (n + 1) p = powL a n (mulR p a).1 := by rw [powL, if_pos h]
theorem powL_stop {a : Int} {n : Nat} {p : Int} (h : (mulR p a).2 ≠ 0) : powL a (n + 1) p = (0, (mulR p a).2) := by rw [powL, if_neg h]
theorem factL_more {n : Nat} {k p : Int} (h : (mulR p k).2 = 0) : factL (n + 1) k p = factL n (k + 10000) (mulR p k).1 := by rw [factL, if_pos h]
theorem factL_stop {n : Nat} {k p : Int} (h : (mulR p k).2 ≠ 0) : factL (n + 1) k p = (0, (mulR p k).2) := by rw [factL, if_neg h]
theorem root_of {a r : Nat} (h : RootIn (a * 10000) 39 r) : rootV (a : Int) = (r : Int) := by
  obtain ⟨h1, h2, h3⟩ := h
  refine rootV_eq ⟨a, r, rfl, rfl, by simp at h1; omega, h2, ?_⟩
  simp at h3
  exact h3
theorem neg_told {n : Int} (h : goodB n = true) : toldV (addN 0 (-n), addE 0 (-n)) = vN (-n) := by
  rw [goodB_iff] at h
  unfold addN addE
  have hk : okAdd 0 (-n) = true := by rw [okAdd_iff]; omega
  rw [if_pos hk, if_pos hk, told_ok, Int.zero_add]
end Go.Proofs.YtbeijnflfmjgfaaGreatDoor

namespace Go.Proofs.YtbeijnflfmjgfaaGreatDoor
open Go.RowKit

theorem whole_val (a : Int) (w : World) (h1 : -9000000000000000000 ≤ a) (h2 : a ≤ 9000000000000000000) :
    Calls Tryz.prog 113 #[.int .i64 a] w fun e w' => e = .returned (.bool (decide (a.tmod 10000 = 0))) ∧ Below w.heap.size w w' := by
  rw [← floor_whole a h1 h2]
  clear h1 h2
  have HF := hide (fun w => floor_any a w)
  generalize floorV a = f at HF ⊢
  go_enter Tryz.func113, Tryz.ntmps113
  go_wp2_with fail
  refine (unhide HF _).mono ?_
  rintro e w1 ⟨rfl, b1⟩
  go_wp2
  go_ret
  exact ⟨rfl, b1⟩
def plB (p : Int) : Bool := !decide (p.tmod 10000 ≠ 0 ∨ p < -150000 ∨ 150000 < p)
set_option maxHeartbeats 1000000 in
theorem placed_val (p : Int) (w : World) (h1 : -9000000000000000000 ≤ p) (h2 : p ≤ 9000000000000000000) :
    Calls Tryz.prog 137 #[.int .i64 p] w fun e w' => e = .returned (.bool (plB p)) ∧ Below w.heap.size w w' := by
  have HW := hide (fun w => whole_val p w h1 h2)
  clear h1 h2
  obtain ⟨q, hq⟩ : ∃ q, decide (p.tmod 10000 = 0) = q := ⟨_, rfl⟩
  have e : plB p = (q && (decide (-150000 ≤ p) && decide (p ≤ 150000))) := by
    rw [← hq]
    unfold plB
    rw [Bool.eq_iff_iff]
    simp
  rw [hq] at HW
  rw [e]
  clear hq e
  cases q
  · go_enter Tryz.func137, Tryz.ntmps137
    go_wp2_with fail
    refine (unhide HW _).mono ?_
    rintro e w1 ⟨rfl, b1⟩
    go_wp2
    go_ret
    exact ⟨rfl, b1⟩
  · rw [Bool.true_and]
    by_cases h3 : -150000 ≤ p
    · rw [decide_eq_true h3, Bool.true_and]
      go_enter Tryz.func137, Tryz.ntmps137
      go_wp2_with fail
      refine (unhide HW _).mono ?_
      rintro e w1 ⟨rfl, b1⟩
      go_wp2
      go_ret
      exact ⟨rfl, b1⟩
    · rw [decide_eq_false h3, Bool.false_and]
      have h3' : ¬ p ≥ -150000 := h3
      go_enter Tryz.func137, Tryz.ntmps137
      go_wp2_with fail
      refine (unhide HW _).mono ?_
      rintro e w1 ⟨rfl, b1⟩
      go_wp2
      go_ret
      exact ⟨rfl, b1⟩
theorem abs_val (a : Int) (w : World) (h1 : -9000000000000000000 ≤ a) (h2 : a ≤ 9000000000000000000) :
    Calls Tryz.prog 92 #[.int .i64 a] w fun e w' => e = .returned (.tuple #[.int .i64 (absG a).1, .int .i64 (absG a).2]) ∧ Below w.heap.size w w' := by
  unfold absG
  go_enter Tryz.func92, Tryz.ntmps92
  go_wp2
  go_ret2
  exact ⟨ret_ne (by omega) rfl, Below.refl _ _⟩
theorem sgn9_val (a : Int) (w : World) (_h1 : -9000000000000000000 ≤ a) (_h2 : a ≤ 9000000000000000000) :
    Calls Tryz.prog 93 #[.int .i64 a] w fun e w' => e = .returned (.tuple #[.int .i64 (signG a).1, .int .i64 (signG a).2]) ∧ Below w.heap.size w w' := by
  obtain ⟨c, hc⟩ : ∃ c : Int, (if a < 0 then -1 else if 0 < a then 1 else 0) = c := ⟨_, rfl⟩
  have HC := hide (fun w => cmp_num a 0 w)
  unfold cmpV at HC
  have hO := fun w => of_any c w
  have hr : -1 ≤ c ∧ c ≤ 1 := by
    rw [← hc]
    repeat' split
    all_goals omega
  have hw : wholeB c = true := by rw [wholeB_iff]; omega
  rw [hw, if_pos rfl, if_pos rfl] at hO
  have HO := hide hO
  have hs : (if a < 0 then -10000 else if 0 < a then 10000 else 0) = c * 10000 := by
    rw [← hc]
    repeat' split
    all_goals omega
  unfold signG
  rw [hc] at HC
  rw [hs]
  clear hc hO hr hw hs
  go_enter Tryz.func93, Tryz.ntmps93
  go_wp2_with fail
  refine (unhide HC _).mono ?_
  rintro e w1 ⟨rfl, rfl⟩
  go_wp2_with fail
  refine (unhide HO _).mono ?_
  rintro e w2 ⟨rfl, rfl⟩
  go_wp2
  go_ret2
  exact ⟨rfl, Below.refl _ _⟩
theorem int_val (a : Int) (w : World) (_h1 : -9000000000000000000 ≤ a) (_h2 : a ≤ 9000000000000000000) :
    Calls Tryz.prog 94 #[.int .i64 a] w fun e w' => e = .returned (.tuple #[.int .i64 (floorG a).1, .int .i64 (floorG a).2]) ∧ Below w.heap.size w w' := by
  unfold floorG
  go_enter Tryz.func94, Tryz.ntmps94
  go_wp2_with fail
  refine (floor_any a _).mono ?_
  rintro e w1 ⟨rfl, b1⟩
  go_wp2
  go_ret2
  exact ⟨rfl, b1⟩
theorem trunc_val (a : Int) (w : World) (h1 : -9000000000000000000 ≤ a) (h2 : a ≤ 9000000000000000000) :
    Calls Tryz.prog 95 #[.int .i64 a] w fun e w' => e = .returned (.tuple #[.int .i64 (truncG a).1, .int .i64 (truncG a).2]) ∧ Below w.heap.size w w' := by
  have hO := fun w => of_any (a.tdiv 10000) w
  have hw : wholeB (a.tdiv 10000) = true := (wholeB_iff _).2 (tdiv_range a h1 h2)
  rw [hw, if_pos rfl, if_pos rfl] at hO
  have HO := hide hO
  have HW := hide (fun w => whole_any a w)
  rw [whole_is a h1 h2] at HW
  unfold truncG
  clear hO hw h1 h2
  generalize a.tdiv 10000 = q at HO HW ⊢
  go_enter Tryz.func95, Tryz.ntmps95
  go_wp2_with fail
  refine (unhide HW _).mono ?_
  rintro e w1 ⟨rfl, b1⟩
  go_wp2_with fail
  refine (unhide HO _).mono ?_
  rintro e w2 ⟨rfl, rfl⟩
  go_wp2
  go_ret2
  exact ⟨rfl, b1⟩
theorem round9_val (a p : Int) (w : World) (_a1 : -9000000000000000000 ≤ a) (_a2 : a ≤ 9000000000000000000) (h1 : -9000000000000000000 ≤ p) (h2 : p ≤ 9000000000000000000) :
    Calls Tryz.prog 96 #[.int .i64 a, .int .i64 p] w fun e w' => e = .returned (.tuple #[.int .i64 (rndG a p).1, .int .i64 (rndG a p).2]) ∧ Below w.heap.size w w' := by
  have HP := hide (fun w => placed_val p w h1 h2)
  have HW := hide (fun w => whole_any p w)
  rw [whole_is p h1 h2] at HW
  unfold rndG
  clear h1 h2
  by_cases h : p.tmod 10000 ≠ 0 ∨ p < -150000 ∨ 150000 < p
  · rw [if_pos h]
    have hb : plB p = false := by unfold plB; rw [decide_eq_true h]; rfl
    rw [hb] at HP
    clear h hb
    go_enter Tryz.func96, Tryz.ntmps96
    go_wp2_with fail
    refine (unhide HP _).mono ?_
    rintro e w1 ⟨rfl, b1⟩
    go_wp2
    go_ret2
    exact ⟨rfl, b1⟩
  · rw [if_neg h]
    have hb : plB p = true := by unfold plB; rw [decide_eq_false h]; rfl
    rw [hb] at HP
    have HR := hide (fun w => round_any a (p.tdiv 10000) w)
    clear h hb
    generalize p.tdiv 10000 = q at HW HR ⊢
    go_enter Tryz.func96, Tryz.ntmps96
    go_wp2_with fail
    refine (unhide HP _).mono ?_
    rintro e w1 ⟨rfl, b1⟩
    go_wp2_with fail
    refine (unhide HW _).mono ?_
    rintro e w2 ⟨rfl, b2⟩
    go_wp2_with fail
    refine (unhide HR _).mono ?_
    rintro e w3 ⟨rfl, b3⟩
    go_wp2
    go_ret2
    exact ⟨rfl, below_nx (below_nx b1 b2) b3⟩
theorem quo_val (a b : Int) (w : World) (_a1 : -9000000000000000000 ≤ a) (_a2 : a ≤ 9000000000000000000) (_h1 : -9000000000000000000 ≤ b) (_h2 : b ≤ 9000000000000000000) :
    Calls Tryz.prog 99 #[.int .i64 a, .int .i64 b] w fun e w' => e = .returned (.tuple #[.int .i64 (quoG a b).1, .int .i64 (quoG a b).2]) ∧ Below w.heap.size w w' := by
  unfold quoG
  by_cases h0 : b = 0
  · subst h0
    rw [if_pos rfl]
    go_enter Tryz.func99, Tryz.ntmps99
    go_wp2
    go_ret2
    exact ⟨rfl, Below.refl _ _⟩
  · rw [if_neg h0]
    have h0b : (b == 0) = false := by rw [beq_eq_false_iff_ne]; exact h0
    have HO := hide (fun w => of_any (a.tdiv b) w)
    have hd : wrap64 (a.tdiv b) = a.tdiv b := by
      have e := Int.natAbs_tdiv a b
      have l : a.natAbs / b.natAbs ≤ a.natAbs := Nat.div_le_self _ _
      have l2 : (a.tdiv b).natAbs ≤ a.natAbs := by rw [e]; exact l
      exact wrap64_id (by omega) (by omega)
    have HD := hide hd
    clear hd
    obtain ⟨N, hN⟩ : ∃ N : Int, (if wholeB (a.tdiv b) = true then a.tdiv b * 10000 else 0) = N := ⟨_, rfl⟩
    obtain ⟨E, hE⟩ : ∃ E : Int, (if wholeB (a.tdiv b) = true then 0 else 5) = E := ⟨_, rfl⟩
    rw [hN, hE] at HO ⊢
    clear hN hE
    go_enter Tryz.func99, Tryz.ntmps99
    go_wp2_with fail
    rw [unhide HD]
    refine (unhide HO _).mono ?_
    rintro e w1 ⟨rfl, rfl⟩
    go_wp2
    go_ret2
    exact ⟨rfl, Below.refl _ _⟩
end Go.Proofs.YtbeijnflfmjgfaaGreatDoor

namespace Go.Proofs.YtbeijnflfmjgfaaGreatDoor
open Go.RowKit

theorem infoFn : (Tryz.prog.info? 63).map (·.size) = some 2 := by kernel_rfl
def two2 (f : Int → Int → Int × Int) (zs : List Int) : Vl := toldV (f (zs.getD 0 0) (zs.getD 1 0))
def one1 (f : Int → Int × Int) (zs : List Int) : Vl := toldV (f (zs.getD 0 0))
theorem list_two {zs : List Int} (h : zs.length = 2) : ∃ a b, zs = [a, b] := by
  match zs, h with
  | [a, b], _ => exact ⟨a, b, rfl⟩
def FnFrom (w : World) (N : Nat) (fv : Value) (n : Nat) (t : List Int → Vl) : Prop :=
  ∃ (k : Nat) (cp : Array Value), fv = .func (.func k) #[] cp ∧ Enters Tryz.prog k ∧ ∀ (zs : List Int) (g cap : Nat) (w' : World), zs.length = n → (∀ z ∈ zs, -9000000000000000000 ≤ z ∧ z ≤ 9000000000000000000) →
    (∀ i z, zs[i]? = some z → w'.cell? ⟨g, i, none⟩ = some (.int .i64 z)) → g < w'.heap.size → (∀ B, N ≤ B → B < w.heap.size → w'.heap[B]? = w.heap[B]?) → w.heap.size ≤ w'.heap.size →
    Calls Tryz.prog k (#[.slice (some ⟨g, 0, none⟩) n cap] ++ cp) w' fun e w'' => e = .returned (.agg (t zs).cells) ∧ Below w'.heap.size w' w''
theorem fn_from {w : World} {N n : Nat} {fv : Value} {t : List Int → Vl} (h : FnFrom w N fv n t) : FnAt w fv n t := by
  obtain ⟨k, cp, e, he, hk⟩ := h
  exact ⟨k, cp, e, he, fun zs g cap w' h1 h2 h3 h4 h5 => hk zs g cap w' h1 h2 h3 h4 (fun B _ l => h5.block B l) h5.size⟩
theorem fn_put {w : World} {N n B : Nat} {fv : Value} {t : List Int → Vl} (h : FnFrom w N fv n t) (hN : B < N) (x y : Value) : FnAt ((w.setCell ⟨B, 0, none⟩ x).setCell ⟨B, 1, none⟩ y) fv n t := by
  obtain ⟨k, cp, e, he, hk⟩ := h
  have hs : ((w.setCell ⟨B, 0, none⟩ x).setCell ⟨B, 1, none⟩ y).heap.size = w.heap.size := by simp
  refine ⟨k, cp, e, he, fun zs g cap w' h1 h2 h3 h4 h5 => hk zs g cap w' h1 h2 h3 h4 (fun C hC l => ?_) ?_⟩
  · rw [h5.block C (by rw [hs]; exact l), heap_setCell_other _ _ _ _ (show C ≠ B by omega), heap_setCell_other _ _ _ _ (show C ≠ B by omega)]
  · have := h5.size
    rw [hs] at this
    exact this
theorem box_cell {w w' : World} {v : Value} {t : TypeId} {o : Obj} (hb : w'.heap[w.heap.size]? = ((w.alloc (.cells #[v] t)).alloc o).heap[w.heap.size]?) : w'.cell? ⟨w.heap.size, 0, none⟩ = some v ∧ w.heap.size < w'.heap.size := by
  rw [heap_alloc2_old] at hb
  refine ⟨by simp [World.cell?, hb], ?_⟩
  rcases Nat.lt_or_ge w.heap.size w'.heap.size with h' | h'
  · exact h'
  · rw [Array.getElem?_eq_none h'] at hb; cases hb
set_option maxHeartbeats 2000000 in
theorem of2_val (k : Nat) (f : Int → Int → Int × Int) (hd : Do2 k f) (w : World) :
    Calls Tryz.prog 49 #[.func (.func k) #[] #[]] w fun e w' => (∃ fv, e = .returned (.agg #[.int .i64 2, fv]) ∧ FnFrom w' w.heap.size fv 2 (two2 f)) ∧ Below w.heap.size w w' := by
  have hmf : ∀ (fn : Fn) (first cap : Array Value) (w : World), (Instr.makeFunc fn first cap).run Tryz.prog w = .ok (.func fn first cap) w := fun _ _ _ _ => rfl
  go_enter Tryz.func49, Tryz.ntmps49
  go_wp2
  refine bodyPost_ret (results_cell_row rfl _ _ _ _ _ _ _ rfl (heap_alloc2_new _ _ _) Tryz.underlying63 rfl infoFn) rfl ?_
  refine ⟨⟨_, rfl, 86, _, rfl, enters_of Tryz.func86 (by kernel_rfl) rfl, ?_⟩, below_al2 _ _ _⟩
  intro zs g cap w' hz hr hc hg hb _
  obtain ⟨a, b, rfl⟩ := list_two hz
  obtain ⟨h1, h2⟩ := box_cell (hb w.heap.size (Nat.le_refl _) (by simp; omega))
  exact fn2_val k f hd a b _ g cap w' (hr a (by simp)).1 (hr a (by simp)).2 (hr b (by simp)).1 (hr b (by simp)).2 h1 h2 (hc 0 a rfl) (hc 1 b rfl) hg
set_option maxHeartbeats 2000000 in
theorem of1_val (k : Nat) (f : Int → Int × Int) (hd : Do1 k f) (w : World) :
    Calls Tryz.prog 91 #[.func (.func k) #[] #[]] w fun e w' => (∃ fv, e = .returned (.agg #[.int .i64 1, fv]) ∧ FnFrom w' w.heap.size fv 1 (one1 f)) ∧ Below w.heap.size w w' := by
  have hmf : ∀ (fn : Fn) (first cap : Array Value) (w : World), (Instr.makeFunc fn first cap).run Tryz.prog w = .ok (.func fn first cap) w := fun _ _ _ _ => rfl
  go_enter Tryz.func91, Tryz.ntmps91
  go_wp2
  refine bodyPost_ret (results_cell_row rfl _ _ _ _ _ _ _ rfl (heap_alloc2_new _ _ _) Tryz.underlying63 rfl infoFn) rfl ?_
  refine ⟨⟨_, rfl, 134, _, rfl, enters_of Tryz.func134 (by kernel_rfl) rfl, ?_⟩, below_al2 _ _ _⟩
  intro zs g cap w' hz hr hc hg hb _
  obtain ⟨a, rfl⟩ := List.length_eq_one_iff.1 hz
  obtain ⟨h1, h2⟩ := box_cell (hb w.heap.size (Nat.le_refl _) (by simp; omega))
  exact fn1_val k f hd a _ g cap w' (hr a (by simp)).1 (hr a (by simp)).2 h1 h2 (hc 0 a rfl) hg
set_option maxHeartbeats 2000000 in
theorem there_val (n : Nat) (fv : Value) (w : World) (hf : fv = .nilFunc ∨ ∃ t, FnAt w fv n t) (hn : n ≤ 1000) :
    Calls Tryz.prog 30 #[.agg #[.int .i64 (n : Int), fv]] w fun e w' => e = .returned (.bool (decide (n ≠ 0))) ∧ Below w.heap.size w w' := by
  have hb : decide (0 < n) = decide (n ≠ 0) := by
    rw [decide_eq_decide]; omega
  rw [← hb]
  clear hb
  have HB := hide (below_al w (.cells #[.int .i64 (n : Int), fv] 63))
  have f_0 := fbox_c0 (fbox_new w (.int .i64 (n : Int)) fv)
  rcases hf with rfl | ⟨t, k, cp, rfl, _⟩
  · go_enter Tryz.func30, Tryz.ntmps30
    go_wp2
    go_ret
    exact ⟨rfl, unhide HB⟩
  · go_enter Tryz.func30, Tryz.ntmps30
    go_wp2
    go_ret
    exact ⟨rfl, unhide HB⟩
set_option maxRecDepth 100000 in
set_option maxHeartbeats 4000000 in
theorem even_val (a : Int) (g cap : Nat) (w : World) (a1 : -9000000000000000000 ≤ a) (a2 : a ≤ 9000000000000000000) (h0 : w.cell? ⟨g, 0, none⟩ = some (.int .i64 a)) (lg : g < w.heap.size) :
    Calls Tryz.prog 103 #[.slice (some ⟨g, 0, none⟩) 1 cap] w fun e w' => e = .returned (.agg (evenV a).cells) ∧ Below w.heap.size w w' := by
  have HW := hide (fun w => whole_val a w a1 a2)
  have q0 : (w.alloc (.cells #[.int .i64 0, .int .i64 0, .string ⟨#[]⟩, .bool false, .int .i64 0] 28)).cell? ⟨g, 0, none⟩ = some (.int .i64 a) := by rw [World.cell?_alloc_past _ _ _ lg]; exact h0
  have L1 := hide (Nat.lt_of_lt_of_le lg (below_al w (.cells #[.int .i64 0, .int .i64 0, .string ⟨#[]⟩, .bool false, .int .i64 0] 28)).size)
  clear h0 lg a1 a2
  unfold evenV
  obtain ⟨q, hq⟩ : ∃ q, decide (a.tmod 10000 = 0) = q := ⟨_, rfl⟩
  rw [hq] at HW
  cases q
  · rw [if_pos (by simpa using hq)]
    have HC := hide (fun w => e_val 2 w)
    generalize vE 2 = V at HC ⊢
    clear hq
    go_enter Tryz.func103, Tryz.ntmps103
    go_upto_region 1 with fail
    have HX := hide (five_new w 28 (.int .i64 0) (.int .i64 0) (.string ⟨#[]⟩) (.bool false) (.int .i64 0))
    have HB := hide (below_al w (.cells #[.int .i64 0, .int .i64 0, .string ⟨#[]⟩, .bool false, .int .i64 0] 28))
    generalize hW : w.alloc (.cells #[.int .i64 0, .int .i64 0, .string ⟨#[]⟩, .bool false, .int .i64 0] 28) = w1 at HX HB q0 L1 ⊢
    clear hW
    go_wp2_with fail
    refine (unhide HW _).mono ?_
    rintro e w2 ⟨rfl, b2⟩
    replace HX := hide (five_below (unhide HX) b2 (five_lt (unhide HX)))
    replace HB := hide (below_nx (unhide HB) b2)
    clear b2 q0
    go_wp2_with fail
    refine (unhide HC _).mono ?_
    rintro e wz ⟨rfl, bz⟩
    have hf := five_below (unhide HX) bz (five_lt (unhide HX))
    obtain ⟨⟨⟨x0, c0⟩, ⟨x1, c1⟩, ⟨x2, c2⟩, ⟨x3, c3⟩, x4, c4⟩, f0, f1, f2, f3, f4⟩ := five_all hf
    have HF5 := hide hf
    have HB5 := hide (below_nx (unhide HB) bz)
    clear hf bz
    unfold Vl.cells
    go_wp2
    refine bodyPost_ret (results_cell_row rfl _ _ _ _ _ _ _ rfl (five_set (unhide HF5) _ _ _ _ _).1 Tryz.underlying28 rfl infoVal) rfl ?_
    exact ⟨rfl, below_five (unhide HB5) (by omega) _ _ _ _ _⟩
  · rw [if_neg (by simpa using hq)]
    have HC := hide (fun w => b_val (a.tmod 20000 == 0) w)
    have eb : (a.tmod 20000 == 0) = decide (a.tmod 20000 = 0) := rfl
    rw [show vB (decide (a.tmod 20000 = 0)) = vB (a.tmod 20000 == 0) from rfl]
    clear hq eb
    generalize vB (a.tmod 20000 == 0) = V at HC ⊢
    go_enter Tryz.func103, Tryz.ntmps103
    go_upto_region 1 with fail
    have HX := hide (five_new w 28 (.int .i64 0) (.int .i64 0) (.string ⟨#[]⟩) (.bool false) (.int .i64 0))
    have HB := hide (below_al w (.cells #[.int .i64 0, .int .i64 0, .string ⟨#[]⟩, .bool false, .int .i64 0] 28))
    generalize hW : w.alloc (.cells #[.int .i64 0, .int .i64 0, .string ⟨#[]⟩, .bool false, .int .i64 0] 28) = w1 at HX HB q0 L1 ⊢
    clear hW
    go_wp2_with fail
    refine (unhide HW _).mono ?_
    rintro e w2 ⟨rfl, b2⟩
    have q2 := (b2.cell (p := ⟨g, 0, none⟩) (unhide L1)).trans q0
    replace HX := hide (five_below (unhide HX) b2 (five_lt (unhide HX)))
    replace HB := hide (below_nx (unhide HB) b2)
    clear b2 q0
    go_wp2_with fail
    refine (unhide HC _).mono ?_
    rintro e wz ⟨rfl, bz⟩
    have hf := five_below (unhide HX) bz (five_lt (unhide HX))
    obtain ⟨⟨⟨x0, c0⟩, ⟨x1, c1⟩, ⟨x2, c2⟩, ⟨x3, c3⟩, x4, c4⟩, f0, f1, f2, f3, f4⟩ := five_all hf
    have HF5 := hide hf
    have HB5 := hide (below_nx (unhide HB) bz)
    clear hf bz q2
    unfold Vl.cells
    go_wp2
    refine bodyPost_ret (results_cell_row rfl _ _ _ _ _ _ _ rfl (five_set (unhide HF5) _ _ _ _ _).1 Tryz.underlying28 rfl infoVal) rfl ?_
    exact ⟨rfl, below_five (unhide HB5) (by omega) _ _ _ _ _⟩
theorem even_fn (w : World) : FnAt w (.func (.func 103) #[] #[]) 1 (fun zs => evenV (zs.getD 0 0)) := by
  refine ⟨103, _, rfl, enters_of Tryz.func103 (by kernel_rfl) rfl, ?_⟩
  intro zs g cap w' hz hr hc hg _
  obtain ⟨a, rfl⟩ := List.length_eq_one_iff.1 hz
  exact even_val a g cap w' (hr a (by simp)).1 (hr a (by simp)).2 (hc 0 a rfl) hg
end Go.Proofs.YtbeijnflfmjgfaaGreatDoor
