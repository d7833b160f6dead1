/- The contract of a tree's nesting: its loop from the last node on. -/
import Derived.BigQuiet
import Derived.BigRegion
import Derived.ChangeAlike
import Derived.Deep.AppendLies
import Derived.Deep.CutBlock
import Derived.Deep.CutRange
import Derived.Deep.DeepFit
import Derived.Deep.MidRow
import Derived.Deep.QuietTactic
import Derived.Deep.RegionHeld3
import Derived.Deep.RegionLaw
import Derived.Deep.RegionWith
import Derived.Deep.WholeRow
import Derived.Defers
import Derived.Great.BuildSlice
import Derived.Laws.Bits64b
import Derived.Laws.CopyOwn
import Derived.Laws.IdiomStrings
import Derived.Laws.OwnMore
import Derived.Laws.Rows
import Derived.Laws.StructEq
import Derived.Laws.Tables
import Derived.Lib.Atoi
import Derived.Lib.AtoiErrMem
import Derived.Lib.BitFns
import Derived.Lib.CutLaws
import Derived.Lib.IndexMore
import Derived.Lib.ItoaMem
import Derived.Lib.ItoaNum
import Derived.Lib.Join
import Derived.Lib.Replace
import Derived.Lib.Walk
import Derived.LoopIn
import Derived.LoopNIn
import Derived.OwnWalkIn
import Derived.RangeFuncBound
import Derived.RangeFuncCalls
import Derived.RangeFuncLeaves
import Derived.RangeFuncNested
import Derived.Recover
import Derived.RegionTactic
import Derived.Shelf.Abstract
import Derived.Shelf.Bits.Mul64
import Derived.Shelf.LaysM
import Derived.Shelf.RegionOpen
import Derived.Shelf.Small.Bits
import Derived.Shelf.Small.Strs
import Derived.Shelf.Small.Utf8
import Derived.Shelf.Small.Wraps
import Derived.Shelf.Strconv.Atoi
import Derived.Shelf.Strconv.Itoa0
import Derived.Shelf.Strconv.Itoa1
import Derived.Shelf.Strconv.Itoa2
import Derived.Shelf.Strconv.Itoa3
import Derived.Shelf.Strings.AsciiSet
import Derived.Shelf.Strings.Builder1
import Derived.Shelf.Strings.Builder2
import Derived.Shelf.Strings.Count
import Derived.Shelf.Strings.Cut
import Derived.Shelf.Strings.OnBuilder
import Derived.Shelf.Strings.Prefix
import Derived.Shelf.Strings.Replace
import Derived.Shelf.Strings.Runes
import Derived.Shelf.Strings.Search1
import Derived.Shelf.Strings.Search2
import Derived.Shelf.Strings.Search3
import Derived.Shelf.Strings.Shaped
import Derived.Shelf.Strings.Split
import Derived.Shelf.Strings.SplitShaped
import Derived.Shelf.Strings.Trim
import Derived.Shelf.Unicode.DecodeSlow
import Derived.TacticsInMore
import Derived.Test.YtloamahbghjjgaaGreatDoorProg
import Derived.Test.YtloamahbghjjgaaGreatDoorRows
import Derived.WalkKit
import Derived.WalkLawsBesides
import Derived.WalkSmall
import Derived.WalkSpells
import Derived.Test.YtloamahbghjjgaaGreatDoorZeAA
import Derived.Test.YtloamahbghjjgaaGreatDoorZeAB
import Derived.Test.YtloamahbghjjgaaGreatDoorZeAC
import Derived.Test.YtloamahbghjjgaaGreatDoorZeAD
import Derived.Test.YtloamahbghjjgaaGreatDoorZeAE
import Derived.Test.YtloamahbghjjgaaGreatDoorZeAF
import Derived.Test.YtloamahbghjjgaaGreatDoorZeAG
import Derived.Test.YtloamahbghjjgaaGreatDoorZeAH
import Derived.Test.YtloamahbghjjgaaGreatDoorZeAI
import Derived.Test.YtloamahbghjjgaaGreatDoorZeAJ
import Derived.Test.YtloamahbghjjgaaGreatDoorZeAK
import Derived.Test.YtloamahbghjjgaaGreatDoorZeAL
import Derived.Test.YtloamahbghjjgaaGreatDoorZeAM
import Derived.Test.YtloamahbghjjgaaGreatDoorZeAN
import Derived.Test.YtloamahbghjjgaaGreatDoorZeAO
import Derived.Test.YtloamahbghjjgaaGreatDoorZeAP
import Derived.Test.YtloamahbghjjgaaGreatDoorZeAQ
import Derived.Test.YtloamahbghjjgaaGreatDoorZeAR
import Derived.Test.YtloamahbghjjgaaGreatDoorZeAS
import Derived.Test.YtloamahbghjjgaaGreatDoorZeAU
import Derived.Test.YtloamahbghjjgaaGreatDoorZeAT
namespace Go.Proofs.YtloamahbghjjgaaGreatDoor
open Go.RowKit Go.Shelf
attribute [local go_sem] Oper.semAt_some

def innC (nds : List Nd) (p : Nat) : Nat := ((nds[p]?).map fun n => if n.kind = 2 ∨ n.kind = 5 then 1 else 0).getD 0
theorem runN_dnl (t : List (List Int)) (c : Nat → Nat) : ∀ (n : Nat) (arr : List Nat), runN t c n arr = (dnl n).foldl (stepN t c) arr
  | 0, _ => rfl
  | n + 1, _ => runN_dnl t c n _
def ArrRow (W : World) (g : Nat) (arr : List Nat) : Prop := W.heap[g]? = some (.cells (arr.map fun (x : Nat) => Value.int .i64 (x : Int)).toArray 3 (0, 0))
theorem arrRow_lt {W : World} {g : Nat} {arr : List Nat} (h : ArrRow W g arr) : g < W.heap.size := (Array.getElem?_eq_some_iff.1 h).1
theorem arrRow_kept {W W' : World} {row : Option Nat} {g : Nat} {arr : List Nat} (h : ArrRow W g arr) (hg : W.grownBy W' row) (hne : some g ≠ row) : ArrRow W' g arr := (hg.block g (arrRow_lt h) hne).trans h
theorem arrRow_own {β : Type} (g : Nat) (f : β → List Nat) : Own (fun s W => ArrRow W g (f s)) := fun s X Y row hs hg hrow =>
  arrRow_kept hs hg (fun e' => by obtain ⟨o, ho, hc⟩ := hrow g e'.symm; rw [show X.heap[g]? = _ from hs] at ho; cases ho; cases hc)
theorem arrRow_alloc {W : World} {g : Nat} {arr : List Nat} (h : ArrRow W g arr) (o : Obj) : ArrRow (W.alloc o) g arr := arrRow_kept h (World.grownBy_alloc W o none) (by simp)
theorem arrRow_frozen {W : World} {g : Nat} {arr : List Nat} (h : ArrRow W g arr) (j : Nat) : W.frozen? ⟨g, j, none⟩ = false := by
  simp [World.frozen?, show W.heap[g]? = _ from h]
theorem arrRow_cell {W : World} {g : Nat} {arr : List Nat} (h : ArrRow W g arr) (j : Nat) (hj : j < arr.length) : W.cell? ⟨g, j, none⟩ = some (.int .i64 ((arr.getD j 0 : Nat) : Int)) := by
  rw [cell_of_row W g j _ _ (0, 0) h, Array.getElem?_eq_some_iff.2 ⟨by simpa using hj, rfl⟩]
  simp [List.getD_eq_getElem?_getD, List.getElem?_eq_getElem hj]
theorem arrRow_set {W : World} {g : Nat} {arr : List Nat} (h : ArrRow W g arr) (j v : Nat) (_hj : j < arr.length) : ArrRow (W.setCell ⟨g, j, none⟩ (.int .i64 (v : Int))) g (arr.set j v) := by
  obtain ⟨hlt, hk⟩ := Array.getElem?_eq_some_iff.1 h
  show (W.heap.modify g _)[g]? = _
  rw [Array.getElem?_eq_getElem (by rw [Array.size_modify]; exact hlt), Array.getElem_modify_self, hk]
  simp [List.map_set]
theorem arrRow_set' {W : World} {g : Nat} {arr : List Nat} (h : ArrRow W g arr) (j v : Nat) (u : Int) (hj : j < arr.length) (hu : u = (v : Int)) : ArrRow (W.setCell ⟨g, j, none⟩ (.int .i64 u)) g (arr.set j v) := by
  rw [hu]; exact arrRow_set h j v hj
theorem kpB_b {n₀ Bs : Nat} {t : TypeId} {w : World} (hn : n₀ ≤ w.heap.size) (W : World) (l : Nat) (o o' : Obj) (hl : w.heap.size ≤ l) (hW : W.heap[l]? = some o) (hc : o.isCells = false) (hk : o.isWalk = false) : KpB n₀ Bs t W (W.putObj l o') :=
  ⟨belowK_b hn W l o o' hl hW hc hk, fun v h => h.kept (grownBy_putObj' W l o') (fun e => by cases e; rw [show W.heap[Bs]? = _ from h] at hW; cases hW; cases hc)⟩
theorem steps_len (t : List (List Int)) (c : Nat → Nat) : ∀ (ps : List Nat) (arr : List Nat), (ps.foldl (stepN t c) arr).length = arr.length
  | [], _ => rfl
  | p :: ps, arr => by rw [List.foldl_cons, steps_len t c ps]; exact setK_len _ _ _
theorem arrRow_other {W : World} {B g j : Nat} {t : TypeId} {v u : Value} (h : Boxed W B t v) (hne : B ≠ g) : Boxed (W.setCell ⟨g, j, none⟩ u) B t v := by
  have h1 : (W.setCell ⟨g, j, none⟩ u).heap[B]? = W.heap[B]? := by
    show (W.heap.modify g _)[B]? = _
    rw [Array.getElem?_modify, if_neg (fun e => hne e.symm)]
  show (W.setCell ⟨g, j, none⟩ u).heap[B]? = _
  rw [h1]; exact h
theorem arrRow_made (W : World) (n : Nat) : ArrRow (W.alloc (.cells (madeCells #[.int .i64 0] n) 3)) W.heap.size (List.replicate n 0) := by
  show (W.alloc _).heap[W.heap.size]? = _
  rw [World.alloc_heap_new]
  congr 2
  unfold madeCells
  apply Array.ext
  · simp
  · intro i h1 h2
    simp [Nat.mod_one]
theorem setK_le : ∀ (ks : List Int) (arr : List Nat) (v B : Nat), (∀ x ∈ arr, x ≤ B) → v ≤ B → ∀ x ∈ setK arr ks v, x ≤ B
  | [], arr, v, B, h, _, x, hx => h x hx
  | k :: ks, arr, v, B, h, hv, x, hx => setK_le ks (arr.set k.toNat v) v B (fun y hy => by
      rcases List.mem_or_eq_of_mem_set hy with h1 | h1
      · exact h y h1
      · rw [h1]; exact hv) hv x hx
theorem setK_snoc (arr : List Nat) (ks : List Int) (k : Int) (v : Nat) : setK arr (ks ++ [k]) v = (setK arr ks v).set k.toNat v := by unfold setK; simp
theorem steps_le (t : List (List Int)) (c : Nat → Nat) (hc : ∀ p, c p ≤ 1) : ∀ (ps : List Nat) (arr : List Nat) (B : Nat), (∀ x ∈ arr, x ≤ B) → ∀ x ∈ ps.foldl (stepN t c) arr, x ≤ B + ps.length
  | [], _, _, h, x, hx => h x hx
  | p :: ps, arr, B, h, x, hx => by
    have h1 : ∀ y ∈ stepN t c arr p, y ≤ B + 1 := by
      refine setK_le _ _ _ _ (fun y hy => by have := h y hy; omega) ?_
      have h2 := hc p
      have h3 : arr.getD p 0 ≤ B := by
        rw [List.getD_eq_getElem?_getD]
        cases hq : arr[p]? with
        | none => simp
        | some y => exact h y (List.mem_of_getElem? hq)
      omega
    have := steps_le t c hc ps _ (B + 1) h1 x hx
    rw [List.length_cons]; omega
theorem innC_le (nds : List Nd) (p : Nat) : innC nds p ≤ 1 := by
  unfold innC
  cases nds[p]? with
  | none => simp
  | some n => simp only [Option.map_some, Option.getD_some]; split <;> omega
structure KidsFit (nds : List Nd) : Prop where
  pos : 0 < nds.length
  len : nds.length ≤ 1000
  kids : ∀ n ∈ nds, n.kids.length ≤ 1000 ∧ ∀ k ∈ n.kids, 0 ≤ k ∧ k < (nds.length : Int)
set_option maxRecDepth 100000 in
set_option maxHeartbeats 4000000 in
theorem nesting_val (a : Option Addr) (cap : Nat) (nds : List Nd) (w : World) (hn : NodesIn w a nds) (hf : KidsFit nds) :
    Calls Tryz.prog 42 #[.slice a nds.length cap] w fun e w' => e = .returned (.int .i64 (topI ((runN (nds.map (·.kids)) (innC nds) nds.length (List.replicate nds.length 0)).map fun x => ((x : Nat) : Int)))) ∧ Below w.heap.size w w' := by
  have H : ∀ p, p < nds.length → ∃ (nd : Nd) (ka : Option Addr) (kcap : Nat) (g off : Nat) (cs : List Value), a = some ⟨g, off, none⟩ ∧ nds[p]? = some nd ∧ cs = (nd.cells (.slice ka nd.kids.length kcap)).toList ∧ g < w.heap.size ∧ IntsIn w ka nd.kids ∧ w.rangeAt g (off + p * 19) cs := by
    intro p hp
    obtain ⟨g, off, ka, kcap, e, hg, _, hki, hcells⟩ := node_at hn p _ (List.getElem?_eq_getElem hp)
    exact ⟨_, ka, kcap, g, off, _, e, List.getElem?_eq_getElem hp, rfl, hg, hki, nd_range hcells⟩
  obtain ⟨_, _, _, b, off, _, rfl, _, _, hb, _, _⟩ := H 0 hf.pos
  obtain ⟨cf, hcf⟩ : ∃ cf : Nat → List Value, ∀ p, p < nds.length → ∃ (nd : Nd) (ka : Option Addr) (kcap : Nat), nds[p]? = some nd ∧ cf p = (nd.cells (.slice ka nd.kids.length kcap)).toList ∧ IntsIn w ka nd.kids ∧ w.rangeAt b (off + p * 19) (cf p) := by
    have H2 : ∀ p, ∃ cs : List Value, p < nds.length → ∃ (nd : Nd) (ka : Option Addr) (kcap : Nat), nds[p]? = some nd ∧ cs = (nd.cells (.slice ka nd.kids.length kcap)).toList ∧ IntsIn w ka nd.kids ∧ w.rangeAt b (off + p * 19) cs := by
      intro p
      by_cases hp : p < nds.length
      · obtain ⟨nd, ka, kcap, g, off', cs, e, h1, h2, _, h3, h4⟩ := H p hp
        cases e
        exact ⟨cs, fun _ => ⟨nd, ka, kcap, h1, h2, h3, h4⟩⟩
      · exact ⟨[], fun h => absurd h hp⟩
    exact ⟨fun p => Classical.choose (H2 p), fun p hp => Classical.choose_spec (H2 p) hp⟩
  clear H
  have HCF := hide hcf
  have HF := hide hf
  have hl0 := hf.pos
  have hl1 := hf.len
  clear hn hcf hf
  obtain ⟨n, hnl⟩ : ∃ n, nds.length = n := ⟨_, rfl⟩
  have HNL := hide hnl
  rw [hnl] at hl0 hl1 ⊢
  rw [hnl] at HCF
  clear hnl
  obtain ⟨res, hres⟩ : ∃ r, topI ((runN (nds.map (·.kids)) (innC nds) n (List.replicate n 0)).map fun x => ((x : Nat) : Int)) = r := ⟨_, rfl⟩
  rw [hres]
  have HRES := hide hres
  clear hres
  refine (callsIn_wide (n := 5)).1 ?_
  refine callsIn_of_wp_marks Tryz.func42 rfl trivial ?_ rfl
  simp only [Tryz.ntmps42, List.size_toArray, List.length_cons, List.length_nil, Nat.reduceAdd, Nat.reduceSub, Array.replicate_succ, Array.replicate_zero, List.push_toArray, List.append_toArray, List.nil_append, List.cons_append]
  obtain ⟨i0, hi, hz0, hz1, hz2⟩ := info_parts infoInt
  have hmk := run_make (P := Tryz.prog) w 53 3 i0 (.int .i64 0) Tryz.underlying53 hi hz0 .i64 .i64 (n : Int) (n : Int) (by omega) (Int.le_refl _) (by rw [hz2]; omega) (by omega)
  rw [hz1, Nat.mul_one, Int.toNat_natCast] at hmk
  gi_wp2_with (refine ⟨trivial, ?_⟩; gi_at_call 75; refine (back_in _ _ trivial rfl _ _ _ _).mono ?_; rintro e w' ⟨rfl, rfl⟩)
  have bA := arrRow_made w n
  have bB := Boxed.new (w.alloc (.cells (madeCells #[.int .i64 0] n) 3)) 53 (.slice (some ⟨w.heap.size, 0, none⟩) n n)
  have bT := Boxed.new ((w.alloc (.cells (madeCells #[.int .i64 0] n) 3)).alloc (.cells #[.slice (some ⟨w.heap.size, 0, none⟩) n n] 53)) 23 (.slice (some ⟨b, off, none⟩) n cap)
  have hsz : (((w.alloc (.cells (madeCells #[.int .i64 0] n) 3)).alloc (.cells #[.slice (some ⟨w.heap.size, 0, none⟩) n n] 53)).alloc (.cells #[.slice (some ⟨b, off, none⟩) n cap] 23)).heap.size = w.heap.size + 3 := by simp
  have hB0 : Below w.heap.size w (((w.alloc (.cells (madeCells #[.int .i64 0] n) 3)).alloc (.cells #[.slice (some ⟨w.heap.size, 0, none⟩) n n] 53)).alloc (.cells #[.slice (some ⟨b, off, none⟩) n cap] 23)) := (((Below.refl _ w).alloc (Nat.le_refl _) _).alloc (by simp) _).alloc (by simp; omega) _
  replace bA := arrRow_alloc (arrRow_alloc bA (.cells #[.slice (some ⟨w.heap.size, 0, none⟩) n n] 53)) (.cells #[.slice (some ⟨b, off, none⟩) n cap] 23)
  replace bB := bB.alloc (.cells #[.slice (some ⟨b, off, none⟩) n cap] 23)
  rw [World.size_alloc] at bB
  rw [World.size_alloc, World.size_alloc] at bT
  generalize hW0 : (((w.alloc (.cells (madeCells #[.int .i64 0] n) 3)).alloc (.cells #[.slice (some ⟨w.heap.size, 0, none⟩) n n] 53)).alloc (.cells #[.slice (some ⟨b, off, none⟩) n cap] 23)) = W0 at bA bB bT hsz hB0 ⊢
  clear hW0 hmk
  have hcl : ∀ p, p < n → (cf p).length = 19 := fun p hp => by
    obtain ⟨nd, ka, kcap, _, h2, _, _⟩ := unhide HCF p hp
    rw [h2]; rfl
  have hc0 : ∀ p, p < n → W0.rangeAt b (off + p * 19) (cf p) := fun p hp j v hj => by
    obtain ⟨nd, ka, kcap, _, _, _, h4⟩ := unhide HCF p hp
    exact (hB0.cell (p := ⟨b, off + p * 19 + j, none⟩) hb).trans (h4 j v hj)
  refine wpIn_rangeFunc_ownH rfl (by omega) (gf := 122) (lb := #[.pointer (some ⟨w.heap.size + 1 + 1, 0, none⟩)]) rfl trivial (enters_of Tryz.func122 (by kernel_rfl) rfl)
    (back_stops Fence.wide (5 - 1) trivial rfl (by omega) (w.heap.size + 1 + 1) w.heap.size b off n cap cf (by omega) hb hcl W0 (by omega) bT hc0) kpB_t (kpB_b (by omega)) (Below.refl _ _) (fun _ => rfl)
    (fun pre W => (ArrRow W w.heap.size ((pre.map (·.1)).foldl (stepN (nds.map (·.kids)) (innC nds)) (List.replicate n 0)) ∧ Boxed W (w.heap.size + 1) 53 (.slice (some ⟨w.heap.size, 0, none⟩) n n)) ∧ Below w.heap.size w W)
    (fun _ _ _ => False)
    (OwnFrom.and (OwnFrom.and (Own.from (arrRow_own _ _) _) (Own.from (boxed_own _ _ (fun _ => _)) _)) (ownFrom_below (Nat.le_refl _) (by omega)))
    (fun _ _ _ _ _ hs _ _ => hs)
    ⟨⟨bA, bB⟩, hB0⟩
    (fun x a' W => ∃ (Bx : Nat) (nd : Nd) (ka : Option Addr) (kcap : Nat), nds[x.1]? = some nd ∧ IntsIn w ka nd.kids ∧
      a' = { tmps := #[.slice (some ⟨b, off, none⟩) n cap, undef, .int .i64 0, .pointer (some ⟨w.heap.size + 1, 0, none⟩), .int .i64 (x.1 : Int), .pointer (some ⟨Bx, 0, none⟩), undef, undef, undef, .slice (some ⟨b, off, none⟩) n cap, .int .i64 (n : Int), .slice (some ⟨w.heap.size, 0, none⟩) n n, .slice (some ⟨b, off, none⟩) n cap, .func (.func 122) #[] #[.pointer (some ⟨w.heap.size + 1 + 1, 0, none⟩)], .int .i64 (x.1 : Int), .agg (cf x.1).toArray, undef, undef, undef, undef, undef, undef, undef, undef, undef, undef, undef, undef, undef, undef, undef, undef, undef, undef, undef, undef, undef, undef, undef, undef, undef, undef, undef, undef], defers := [] } ∧
      W.cell? ⟨Bx, 0, none⟩ = some (.int .i64 nd.kind) ∧ W.cell? ⟨Bx, 18, none⟩ = some (.slice ka nd.kids.length kcap))
    ?hAx ?assign ?body ?done ?stop
  case hAx =>
    rintro x a' s A B row ⟨Bx, nd, ka, kcap, h1, h2, h4, h5, h6⟩ hg hr
    exact ⟨Bx, nd, ka, kcap, h1, h2, h4, cell_kept h5 hg (fun r e => (hr r e).2), cell_kept h6 hg (fun r e => (hr r e).2)⟩
  case assign =>
    rintro l pre x W K ⟨⟨hA, hBo⟩, hB⟩ hK
    obtain ⟨nd, ka, kcap, h1, h2, h3, h4⟩ := unhide HCF x.1 x.2
    have st := nd_new W nd (.slice ka nd.kids.length kcap) rfl
    have C5 := cells_new W ndT (nd.cells (.slice ka nd.kids.length kcap))
    have c0 := cells_c C5 0 (.int .i64 nd.kind) rfl
    have c18 := cells_c C5 18 (.slice ka nd.kids.length kcap) rfl
    rw [← h2] at st
    have h5 : nd.cells (.slice ka nd.kids.length kcap) = (cf x.1).toArray := by rw [h2, Array.toArray_toList]
    rw [h5] at st C5 c0 c18
    have h2' := h2
    clear h5 h2 hcl hc0 C5
    have zN : (cf x.1).length = 19 := by rw [h2']; rfl
    clear h2'
    generalize hcs : cf x.1 = cs at st c0 c18 zN ⊢
    have HCS := hide hcs
    clear hcs
    gi_wp2
    obtain rfl := unhide HCS
    exact hK _ _ ((KeepsOthers.alloc _ _).from _) ⟨(Below.refl _ W).alloc hB.size _, fun v h => h.alloc _⟩ ⟨⟨arrRow_alloc hA _, hBo.alloc _⟩, hB.alloc hB.size _⟩ ⟨W.heap.size, nd, ka, kcap, h1, h3, rfl, c0, c18⟩
  case body =>
    rintro l pre x a' W hl ⟨r, hr⟩ ⟨⟨hA, hBo⟩, hB⟩ ⟨Bx, nd, ka, kcap, hnd, hki, rfl, hc0, hc18⟩ hlt
    have HB := hide hB
    have HND := hide hnd
    have HKI := hide hki
    obtain ⟨arr, harr⟩ : ∃ arr, (pre.map (·.1)).foldl (stepN (nds.map (·.kids)) (innC nds)) (List.replicate n 0) = arr := ⟨_, rfl⟩
    have HL : Hid (arr.length = n) := hide (by rw [← harr, steps_len]; simp)
    have HLE : Hid (∀ y ∈ arr, y ≤ pre.length) := hide (by
      rw [← harr]
      intro y hy
      have := steps_le _ _ (innC_le nds) _ _ 0 (by simp) y hy
      simpa using this)
    have HS : Hid (((pre ++ [x]).map (·.1)).foldl (stepN (nds.map (·.kids)) (innC nds)) (List.replicate n 0) = setK arr ((nds.map (·.kids)).getD x.1 []) (arr.getD x.1 0 + innC nds x.1)) := hide (by
      rw [List.map_append, List.foldl_append, harr]; rfl)
    have HTK : Hid ((nds.map (·.kids)).getD x.1 [] = nd.kids) := hide (by
      rw [List.getD_eq_getElem?_getD, List.getElem?_map, hnd]; rfl)
    rw [harr] at hA
    have hxn := x.2
    have ca := arrRow_cell hA x.1 (by rw [unhide HL]; exact x.2)
    obtain ⟨v0, hv0⟩ : ∃ v0, arr.getD x.1 0 = v0 := ⟨_, rfl⟩
    have hv1 : v0 ≤ 1000 := by
      have h1 := unhide HLE (arr.getD x.1 0) (by
        rw [List.getD_eq_getElem?_getD, List.getElem?_eq_getElem (by rw [unhide HL]; exact x.2)]
        exact List.getElem_mem _)
      rw [hv0] at h1; omega
    have HV := hide hv0
    rw [hv0] at ca
    have hmem := List.mem_of_getElem? hnd
    obtain ⟨hk1, hk2⟩ := (unhide HF).kids nd hmem
    rw [unhide HNL] at hk2
    have HK2 := hide hk2
    obtain ⟨kl, hkl⟩ : ∃ kl, nd.kids.length = kl := ⟨_, rfl⟩
    have HKL := hide hkl
    rw [hkl] at hk1 hc18
    have cB := hBo.cell
    clear hv0 harr hkl hk2 hnd hki hB hmem hcl
    obtain ⟨kd, hkd⟩ : ∃ kd, nd.kind = kd := ⟨_, rfl⟩
    have HKD := hide hkd
    rw [hkd] at hc0
    clear hkd
    by_cases k2 : kd = 2
    · subst k2
      have harr' : Hid (setK arr nd.kids (v0 + 1) = ((pre ++ [x]).map (·.1)).foldl (stepN (nds.map (·.kids)) (innC nds)) (List.replicate n 0)) := hide (by
        rw [unhide HS, unhide HTK]
        have hc : innC nds x.1 = 1 := by
          unfold innC
          rw [unhide HND]
          simp [unhide HKD]
        rw [hc, unhide HV])
      gi_wp2
      gi_loopw [33] (fun i wr => ∃ j : Nat, i = .int .i64 (j : Int) ∧ j ≤ kl ∧ ArrRow wr w.heap.size (setK arr (nd.kids.take j) (v0 + 1)) ∧ Boxed wr (w.heap.size + 1) 53 (.slice (some ⟨w.heap.size, 0, none⟩) n n) ∧ Hid (Below w.heap.size W wr ∧ KeepsFrom W0.heap.size W wr ∧ ∀ v, Boxed W (w.heap.size + 1 + 1) 23 v → Boxed wr (w.heap.size + 1 + 1) 23 v))
        (fun i _ => kl - (intOf i).toNat)
      case atStart => exact ⟨0, rfl, by omega, by simpa [setK] using hA, hBo, hide ⟨Below.refl _ _, KeepsFrom.refl _ _, fun v h => h⟩⟩
      case round =>
        obtain ⟨j, rfl, hj, hA2, hBo2, HW⟩ := hrel
        have cB2 := hBo2.cell
        have fB2 := hBo2.frozen
        by_cases hlt2 : j < kl
        · have hlti : (j : Int) < (kl : Int) := by omega
          obtain ⟨g2, o2, rfl, x2⟩ := ints_at (ints_below (unhide HKI) ((unhide HB).trans (unhide HW).1)) j (by rw [unhide HKL]; exact hlt2)
          have hkk := unhide HK2 (nd.kids.getD j 0) (by
            rw [List.getD_eq_getElem?_getD, List.getElem?_eq_getElem (by rw [unhide HKL]; exact hlt2)]
            exact List.getElem_mem _)
          obtain ⟨kk, hkk0⟩ : ∃ kk : Nat, nd.kids.getD j 0 = (kk : Int) := ⟨_, (Int.toNat_of_nonneg hkk.1).symm⟩
          have HT : Hid (nd.kids.take (j + 1) = nd.kids.take j ++ [(kk : Int)]) := hide (by
            rw [← hkk0, List.take_succ_eq_append_getElem (by rw [unhide HKL]; exact hlt2), List.getD_eq_getElem?_getD, List.getElem?_eq_getElem (by rw [unhide HKL]; exact hlt2)]; rfl)
          rw [hkk0] at hkk x2
          have hkn : kk < n := by omega
          have hkni : (kk : Int) < (n : Int) := by omega
          have cg := arrRow_cell hA2 kk (by rw [setK_len, unhide HL]; exact hkn)
          have fg := arrRow_frozen hA2 kk
          have HA3 := hide (arrRow_set' hA2 kk (v0 + 1) ((v0 : Int) + 1) (by rw [setK_len, unhide HL]; exact hkn) (by omega))
          generalize (setK arr (nd.kids.take j) (v0 + 1)).getD kk 0 = z at cg
          clear hkk0 hkk
          gi_wp2
          go_roundw
          case rel => exact ⟨j + 1, by go_num, by omega, by rw [unhide HT, setK_snoc, Int.toNat_natCast]; exact unhide HA3, arrRow_other hBo2 (by omega), hide ⟨(unhide HW).1.setCell (p := ⟨w.heap.size, kk, none⟩) (Nat.le_refl _) _, (unhide HW).2.1.trans ((KeepsOthers.setCell _ _ _).from _), fun v h => arrRow_other ((unhide HW).2.2 v h) (by omega)⟩⟩
          case measure => simp [intOf]; omega
        · have hlti : ¬ (j : Int) < (kl : Int) := by omega
          have hA3 : ArrRow wr w.heap.size (((pre ++ [x]).map (·.1)).foldl (stepN (nds.map (·.kids)) (innC nds)) (List.replicate n 0)) := by
            rw [List.take_of_length_le (by rw [unhide HKL]; omega), unhide harr'] at hA2
            exact hA2
          gi_wp2
          exact ⟨by rw [← hsz]; exact (unhide HW).2.1, ⟨(unhide HW).1, (unhide HW).2.2⟩, ⟨⟨hA3, hBo2⟩, (unhide HB).trans (unhide HW).1⟩⟩
    · by_cases k5 : kd = 5
      · subst k5
        have harr' : Hid (setK arr nd.kids (v0 + 1) = ((pre ++ [x]).map (·.1)).foldl (stepN (nds.map (·.kids)) (innC nds)) (List.replicate n 0)) := hide (by
          rw [unhide HS, unhide HTK]
          have hc : innC nds x.1 = 1 := by
            unfold innC
            rw [unhide HND]
            simp [unhide HKD]
          rw [hc, unhide HV])
        gi_wp2
        gi_loopw [33] (fun i wr => ∃ j : Nat, i = .int .i64 (j : Int) ∧ j ≤ kl ∧ ArrRow wr w.heap.size (setK arr (nd.kids.take j) (v0 + 1)) ∧ Boxed wr (w.heap.size + 1) 53 (.slice (some ⟨w.heap.size, 0, none⟩) n n) ∧ Hid (Below w.heap.size W wr ∧ KeepsFrom W0.heap.size W wr ∧ ∀ v, Boxed W (w.heap.size + 1 + 1) 23 v → Boxed wr (w.heap.size + 1 + 1) 23 v))
          (fun i _ => kl - (intOf i).toNat)
        case atStart => exact ⟨0, rfl, by omega, by simpa [setK] using hA, hBo, hide ⟨Below.refl _ _, KeepsFrom.refl _ _, fun v h => h⟩⟩
        case round =>
          obtain ⟨j, rfl, hj, hA2, hBo2, HW⟩ := hrel
          have cB2 := hBo2.cell
          have fB2 := hBo2.frozen
          by_cases hlt2 : j < kl
          · have hlti : (j : Int) < (kl : Int) := by omega
            obtain ⟨g2, o2, rfl, x2⟩ := ints_at (ints_below (unhide HKI) ((unhide HB).trans (unhide HW).1)) j (by rw [unhide HKL]; exact hlt2)
            have hkk := unhide HK2 (nd.kids.getD j 0) (by
              rw [List.getD_eq_getElem?_getD, List.getElem?_eq_getElem (by rw [unhide HKL]; exact hlt2)]
              exact List.getElem_mem _)
            obtain ⟨kk, hkk0⟩ : ∃ kk : Nat, nd.kids.getD j 0 = (kk : Int) := ⟨_, (Int.toNat_of_nonneg hkk.1).symm⟩
            have HT : Hid (nd.kids.take (j + 1) = nd.kids.take j ++ [(kk : Int)]) := hide (by
              rw [← hkk0, List.take_succ_eq_append_getElem (by rw [unhide HKL]; exact hlt2), List.getD_eq_getElem?_getD, List.getElem?_eq_getElem (by rw [unhide HKL]; exact hlt2)]; rfl)
            rw [hkk0] at hkk x2
            have hkn : kk < n := by omega
            have hkni : (kk : Int) < (n : Int) := by omega
            have cg := arrRow_cell hA2 kk (by rw [setK_len, unhide HL]; exact hkn)
            have fg := arrRow_frozen hA2 kk
            have HA3 := hide (arrRow_set' hA2 kk (v0 + 1) ((v0 : Int) + 1) (by rw [setK_len, unhide HL]; exact hkn) (by omega))
            generalize (setK arr (nd.kids.take j) (v0 + 1)).getD kk 0 = z at cg
            clear hkk0 hkk
            gi_wp2
            go_roundw
            case rel => exact ⟨j + 1, by go_num, by omega, by rw [unhide HT, setK_snoc, Int.toNat_natCast]; exact unhide HA3, arrRow_other hBo2 (by omega), hide ⟨(unhide HW).1.setCell (p := ⟨w.heap.size, kk, none⟩) (Nat.le_refl _) _, (unhide HW).2.1.trans ((KeepsOthers.setCell _ _ _).from _), fun v h => arrRow_other ((unhide HW).2.2 v h) (by omega)⟩⟩
            case measure => simp [intOf]; omega
          · have hlti : ¬ (j : Int) < (kl : Int) := by omega
            have hA3 : ArrRow wr w.heap.size (((pre ++ [x]).map (·.1)).foldl (stepN (nds.map (·.kids)) (innC nds)) (List.replicate n 0)) := by
              rw [List.take_of_length_le (by rw [unhide HKL]; omega), unhide harr'] at hA2
              exact hA2
            gi_wp2
            exact ⟨by rw [← hsz]; exact (unhide HW).2.1, ⟨(unhide HW).1, (unhide HW).2.2⟩, ⟨⟨hA3, hBo2⟩, (unhide HB).trans (unhide HW).1⟩⟩
      · have HK25 : Hid (kd ≠ 2 ∧ kd ≠ 5) := hide ⟨k2, k5⟩
        have q2 : (kd == 2) = false := by simpa using k2
        have q5 : (kd == 5) = false := by simpa using k5
        have harr' : Hid (setK arr nd.kids (v0) = ((pre ++ [x]).map (·.1)).foldl (stepN (nds.map (·.kids)) (innC nds)) (List.replicate n 0)) := hide (by
          rw [unhide HS, unhide HTK]
          have hc : innC nds x.1 = 0 := by
            unfold innC
            rw [unhide HND]
            simp [unhide HKD, (unhide HK25).1, (unhide HK25).2]
          rw [hc, unhide HV, Nat.add_zero])
        gi_wp2
        gi_loopw [33] (fun i wr => ∃ j : Nat, i = .int .i64 (j : Int) ∧ j ≤ kl ∧ ArrRow wr w.heap.size (setK arr (nd.kids.take j) (v0)) ∧ Boxed wr (w.heap.size + 1) 53 (.slice (some ⟨w.heap.size, 0, none⟩) n n) ∧ Hid (Below w.heap.size W wr ∧ KeepsFrom W0.heap.size W wr ∧ ∀ v, Boxed W (w.heap.size + 1 + 1) 23 v → Boxed wr (w.heap.size + 1 + 1) 23 v))
          (fun i _ => kl - (intOf i).toNat)
        case atStart => exact ⟨0, rfl, by omega, by simpa [setK] using hA, hBo, hide ⟨Below.refl _ _, KeepsFrom.refl _ _, fun v h => h⟩⟩
        case round =>
          obtain ⟨j, rfl, hj, hA2, hBo2, HW⟩ := hrel
          have cB2 := hBo2.cell
          have fB2 := hBo2.frozen
          by_cases hlt2 : j < kl
          · have hlti : (j : Int) < (kl : Int) := by omega
            obtain ⟨g2, o2, rfl, x2⟩ := ints_at (ints_below (unhide HKI) ((unhide HB).trans (unhide HW).1)) j (by rw [unhide HKL]; exact hlt2)
            have hkk := unhide HK2 (nd.kids.getD j 0) (by
              rw [List.getD_eq_getElem?_getD, List.getElem?_eq_getElem (by rw [unhide HKL]; exact hlt2)]
              exact List.getElem_mem _)
            obtain ⟨kk, hkk0⟩ : ∃ kk : Nat, nd.kids.getD j 0 = (kk : Int) := ⟨_, (Int.toNat_of_nonneg hkk.1).symm⟩
            have HT : Hid (nd.kids.take (j + 1) = nd.kids.take j ++ [(kk : Int)]) := hide (by
              rw [← hkk0, List.take_succ_eq_append_getElem (by rw [unhide HKL]; exact hlt2), List.getD_eq_getElem?_getD, List.getElem?_eq_getElem (by rw [unhide HKL]; exact hlt2)]; rfl)
            rw [hkk0] at hkk x2
            have hkn : kk < n := by omega
            have hkni : (kk : Int) < (n : Int) := by omega
            have cg := arrRow_cell hA2 kk (by rw [setK_len, unhide HL]; exact hkn)
            have fg := arrRow_frozen hA2 kk
            have HA3 := hide (arrRow_set' hA2 kk (v0) ((v0 : Int)) (by rw [setK_len, unhide HL]; exact hkn) (by omega))
            generalize (setK arr (nd.kids.take j) (v0)).getD kk 0 = z at cg
            clear hkk0 hkk
            gi_wp2
            go_roundw
            case rel => exact ⟨j + 1, by go_num, by omega, by rw [unhide HT, setK_snoc, Int.toNat_natCast]; exact unhide HA3, arrRow_other hBo2 (by omega), hide ⟨(unhide HW).1.setCell (p := ⟨w.heap.size, kk, none⟩) (Nat.le_refl _) _, (unhide HW).2.1.trans ((KeepsOthers.setCell _ _ _).from _), fun v h => arrRow_other ((unhide HW).2.2 v h) (by omega)⟩⟩
            case measure => simp [intOf]; omega
          · have hlti : ¬ (j : Int) < (kl : Int) := by omega
            have hA3 : ArrRow wr w.heap.size (((pre ++ [x]).map (·.1)).foldl (stepN (nds.map (·.kids)) (innC nds)) (List.replicate n 0)) := by
              rw [List.take_of_length_le (by rw [unhide HKL]; omega), unhide harr'] at hA2
              exact hA2
            gi_wp2
            exact ⟨by rw [← hsz]; exact (unhide HW).2.1, ⟨(unhide HW).1, (unhide HW).2.2⟩, ⟨⟨hA3, hBo2⟩, (unhide HB).trans (unhide HW).1⟩⟩
  case done =>
    rintro D ys W hD hS ⟨⟨hA, hBo⟩, hB⟩ hK
    rw [hS, ← runN_dnl] at hA
    have HLN : Hid ((runN (nds.map (·.kids)) (innC nds) n (List.replicate n 0)).length = n) := hide (by rw [runN_dnl, steps_len]; simp)
    obtain ⟨rr, hrr⟩ : ∃ rr, runN (nds.map (·.kids)) (innC nds) n (List.replicate n 0) = rr := ⟨_, rfl⟩
    rw [hrr] at hA HLN
    have HR2 : Hid (topI (rr.map fun x => ((x : Nat) : Int)) = res) := hide (by rw [← hrr]; exact unhide HRES)
    have HI : Hid (IntsIn W (some ⟨w.heap.size, 0, none⟩) (rr.map fun (x : Nat) => (x : Int))) := hide (Or.inr ⟨_, _, rfl, arrRow_lt hA, fun i k hi => by
      rw [List.getElem?_map] at hi
      cases hq : rr[i]? with
      | none => rw [hq] at hi; cases hi
      | some y =>
        rw [hq] at hi
        simp only [Option.map_some, Option.some.injEq] at hi
        rw [Nat.zero_add, cell_of_row W w.heap.size i _ _ (0, 0) hA, ← hi]
        simp [hq]⟩)
    have HM := hide (smax_val (some ⟨w.heap.size, 0, none⟩) n (rr.map fun (x : Nat) => (x : Int)) W (unhide HI) (by rw [List.length_map, unhide HLN]; omega) (by rw [List.length_map, unhide HLN]; omega))
    rw [List.length_map, unhide HLN, unhide HR2] at HM
    have cB := hBo.cell
    have HB := hide hB
    have HD := hide hK
    clear hrr hS hB hcl hc0
    gi_wp2_with (refine ⟨trivial, ?_⟩; gi_at_call 76; refine (callsIn_wide.2 (unhide HM)).mono ?_; rintro e w2 ⟨rfl, b2⟩)
    have hD2 : D < W.heap.size := (Array.getElem?_eq_some_iff.1 (unhide HD)).1
    have hK2 : w2.heap[D]? = some (.deferred (some [])) := (b2.block D hD2).trans (unhide HD)
    refine ⟨by simp, .inl ⟨_, _, rfl, run_takeDeferred hK2, ?_⟩⟩
    exact ⟨_, results_tmp rfl _ _ _, rfl, ((unhide HB).trans (b2.mono (unhide HB).size)).trans (belowK_b (w := w) (Nat.le_refl _) w2 D _ _ (by omega) hK2 rfl rfl)⟩
  case stop =>
    rintro D c pre W _ _ h _
    exact h.elim
end Go.Proofs.YtloamahbghjjgaaGreatDoor

namespace Go.Proofs.YtloamahbghjjgaaGreatDoor
open Go.RowKit

theorem stk_range : ∀ (t : List (List Int)) (p : Nat) (free f : List Int), (∀ k ∈ free, 0 ≤ k ∧ k < (p : Int)) → stkF t p free = some f → ∀ ks ∈ t, ∀ k ∈ ks, 0 ≤ k ∧ k < (p : Int) + (t.length : Int)
  | [], _, _, _, _, _, ks, hks => by cases hks
  | kids :: rest, p, free, f, hfr, h, ks, hks => by
    rw [stkF] at h
    split at h
    · cases h
    split at h
    · rename_i hd
      have hfr2 : ∀ k ∈ free.take (free.length - kids.length) ++ [(p : Int)], 0 ≤ k ∧ k < ((p + 1 : Nat) : Int) := by
        intro k hk
        rcases List.mem_append.1 hk with hk | hk
        · have := hfr k (List.mem_of_mem_take hk)
          omega
        · have : k = (p : Int) := by simpa using hk
          omega
      rcases List.mem_cons.1 hks with rfl | hks
      · intro k hk
        rw [← hd] at hk
        have := hfr k (List.mem_of_mem_drop hk)
        rw [List.length_cons]
        omega
      · intro k hk
        have := stk_range rest (p + 1) _ f hfr2 h ks hks k hk
        rw [List.length_cons]
        omega
    · cases h
theorem sound_fit {nds : List Nd} (hf : TreeFit nds) (h : tsoundB nds = true) : KidsFit nds := by
  unfold tsoundB at h
  simp only [Bool.and_eq_true, Bool.not_eq_true'] at h
  obtain ⟨⟨h1, _⟩, _, h4⟩ := h
  refine ⟨List.length_pos_iff.mpr (fun e => by rw [e] at h1; simp at h1), hf.len, fun n hn => ⟨hf.kids n hn, fun k hk => ?_⟩⟩
  unfold standsB at h4
  cases hq : stkF (nds.map (·.kids)) 0 [] with
  | none => rw [hq] at h4; cases h4
  | some f =>
    have := stk_range _ 0 [] f (fun k hk => by cases hk) hq n.kids (List.mem_map.2 ⟨n, hn, rfl⟩) k hk
    rw [List.length_map] at this
    omega
def nestT (nds : List Nd) : Int := topI ((runN (nds.map (·.kids)) (innC nds) nds.length (List.replicate nds.length 0)).map fun x => ((x : Nat) : Int))
def goodT (nds : List Nd) : Bool := tsoundB nds && decide (nestT nds ≤ 32)
def nestingT (nds : List Nd) : Int := if tsoundB nds then nestT nds else 0
set_option maxRecDepth 100000 in
set_option maxHeartbeats 4000000 in
theorem nestingT_val (a : Option Addr) (cap : Nat) (nds : List Nd) (w : World) (hn : NodesIn w a nds) (hf : TreeFit nds) :
    Calls Tryz.prog 36 #[.slice a nds.length cap] w fun e w' => e = .returned (.int .i64 (nestingT nds)) ∧ Below w.heap.size w w' := by
  have HN := hide hn
  have HF := hide hf
  have HS := hide (tsound_val a cap nds w hn hf)
  have HT := hide (fun w2 (h : NodesIn w2 a nds) (h2 : tsoundB nds = true) => nesting_val a cap nds w2 h (sound_fit hf h2))
  have HR : Hid (∀ b, tsoundB nds = b → nestingT nds = if b then nestT nds else 0) := hide (fun b hb => by unfold nestingT; rw [hb])
  obtain ⟨sb, hsb⟩ : ∃ sb, tsoundB nds = sb := ⟨_, rfl⟩
  have HSB := hide hsb
  rw [hsb] at HS
  obtain ⟨n, hnl⟩ : ∃ n, nds.length = n := ⟨_, rfl⟩
  have HNT : Hid (topI ((runN (nds.map (·.kids)) (innC nds) nds.length (List.replicate nds.length 0)).map fun x => ((x : Nat) : Int)) = nestT nds) := hide rfl
  have HT2 := hide (fun w2 h h2 => by
    have := unhide HT w2 h h2
    rw [unhide HNT, hnl] at this
    exact this)
  rw [hnl] at HS ⊢
  obtain ⟨res, hres⟩ : ∃ r, nestingT nds = r := ⟨_, rfl⟩
  have HRES : Hid (res = if sb then nestT nds else 0) := hide (by rw [← hres, unhide HR sb hsb])
  rw [hres]
  clear hn hf hsb hnl hres HT HR
  go_enter Tryz.func36, Tryz.ntmps36
  go_wp2_with fail
  refine (unhide HS).mono ?_
  rintro e w2 ⟨rfl, b2⟩
  have HB := hide b2
  have HN2 := hide (nodesIn_below (unhide HN) b2)
  clear b2
  cases sb with
  | false =>
    have HR0 : Hid (res = 0) := hide (by rw [unhide HRES]; rfl)
    go_wp2
    go_ret
    exact ⟨by rw [unhide HR0]; rfl, unhide HB⟩
  | true =>
    have HC := hide (unhide HT2 w2 (unhide HN2) (unhide HSB))
    have HR0 : Hid (res = nestT nds) := hide (by rw [unhide HRES]; rfl)
    go_wp2_with fail
    refine (unhide HC).mono ?_
    rintro e w3 ⟨rfl, b3⟩
    have HB3 := hide (below_nx (unhide HB) b3)
    clear b3
    go_wp2
    go_ret
    exact ⟨by rw [unhide HR0]; rfl, unhide HB3⟩
set_option maxRecDepth 100000 in
set_option maxHeartbeats 4000000 in
theorem goodT_val (a : Option Addr) (cap : Nat) (nds : List Nd) (w : World) (hn : NodesIn w a nds) (hf : TreeFit nds) :
    Calls Tryz.prog 16 #[.slice a nds.length cap] w fun e w' => e = .returned (.bool (goodT nds)) ∧ Below w.heap.size w w' := by
  have HN := hide hn
  have HS := hide (tsound_val a cap nds w hn hf)
  have HT := hide (fun w2 (h : NodesIn w2 a nds) (h2 : tsoundB nds = true) => nesting_val a cap nds w2 h (sound_fit hf h2))
  obtain ⟨sb, hsb⟩ : ∃ sb, tsoundB nds = sb := ⟨_, rfl⟩
  have HSB := hide hsb
  rw [hsb] at HS
  obtain ⟨n, hnl⟩ : ∃ n, nds.length = n := ⟨_, rfl⟩
  obtain ⟨nt, hnt⟩ : ∃ nt, nestT nds = nt := ⟨_, rfl⟩
  have HNT : Hid (topI ((runN (nds.map (·.kids)) (innC nds) nds.length (List.replicate nds.length 0)).map fun x => ((x : Nat) : Int)) = nt) := hide hnt
  have HT2 := hide (fun w2 h h2 => by
    have := unhide HT w2 h h2
    rw [unhide HNT, hnl] at this
    exact this)
  rw [hnl] at HS ⊢
  obtain ⟨res, hres⟩ : ∃ r, goodT nds = r := ⟨_, rfl⟩
  have HRES : Hid (res = (sb && decide (nt ≤ 32))) := hide (by rw [← hres]; unfold goodT; rw [hsb, hnt])
  rw [hres]
  clear hn hf hsb hnl hres hnt HT HNT
  go_enter Tryz.func16, Tryz.ntmps16
  go_wp2_with fail
  refine (unhide HS).mono ?_
  rintro e w2 ⟨rfl, b2⟩
  have HB := hide b2
  have HN2 := hide (nodesIn_below (unhide HN) b2)
  clear b2
  cases sb with
  | false =>
    have HR0 : Hid (res = false) := hide (by rw [unhide HRES]; rfl)
    go_wp2
    go_ret
    exact ⟨by rw [unhide HR0]; rfl, unhide HB⟩
  | true =>
    have HC := hide (unhide HT2 w2 (unhide HN2) (unhide HSB))
    have HR0 : Hid (decide (nt ≤ 32) = res) := hide (by rw [unhide HRES]; rfl)
    go_wp2_with fail
    refine (unhide HC).mono ?_
    rintro e w3 ⟨rfl, b3⟩
    have HB3 := hide (below_nx (unhide HB) b3)
    clear b3
    go_wp2
    go_ret
    exact ⟨by rw [← unhide HR0]; rfl, unhide HB3⟩
end Go.Proofs.YtloamahbghjjgaaGreatDoor

namespace Go.Proofs.YtloamahbghjjgaaGreatDoor
open Go.RowKit
abbrev zFu : Value := .agg #[.string ⟨#[]⟩, .string ⟨#[]⟩, .int .i64 0, .int .i64 0, .bool false, .bool false, .int .i64 0, .int .i64 0, .bool false, .bool false, .bool false]
theorem infoFu : (Tryz.prog.info? 52).map (fun i => (i.zero, i.size, i.bytes)) = some (some zFu, 11, 88) := by kernel_rfl
def flatF (fs : List Fl) : List Value := fs.flatMap (fun f => f.cells.toList)
theorem flatF_snoc (fs : List Fl) (f : Fl) : flatF (fs ++ [f]) = flatF fs ++ f.cells.toList := by unfold flatF; simp
theorem flatF_get : ∀ (fs : List Fl) (i : Nat) (f : Fl), fs[i]? = some f → ∀ (j : Nat) (u : Value), f.cells[j]? = some u → (flatF fs)[i * 11 + j]? = some u
  | [], i, p, h, _, _, _ => by simp at h
  | x :: fs, 0, p, h, j, u, hu => by
    simp only [List.getElem?_cons_zero, Option.some.injEq] at h
    subst h
    unfold flatF
    rw [List.flatMap_cons, Nat.zero_mul, Nat.zero_add]
    obtain ⟨hlt, _⟩ := Array.getElem?_eq_some_iff.1 hu
    rw [List.getElem?_append_left (by simpa using hlt)]
    simpa using hu
  | x :: fs, i + 1, p, h, j, u, hu => by
    rw [List.getElem?_cons_succ] at h
    have ih := flatF_get fs i p h j u hu
    unfold flatF at ih ⊢
    have hx : x.cells.toList.length = 11 := rfl
    rw [List.flatMap_cons, List.getElem?_append_right (by rw [hx]; omega), hx, show (i + 1) * 11 + j - 11 = i * 11 + j by omega]
    exact ih
abbrev FullRow (w : World) (B : Nat) (v : Value) (fs : List Fl) : Prop := w.ownsRow B fuT 11 v fs.length (flatF fs)
theorem fulls_of_owns {w : World} {B : Nat} {v : Value} {fs : List Fl} (h : FullRow w B v fs) : ∃ a cap, v = .slice a fs.length cap ∧ fs.length ≤ cap ∧ FullsIn w a fs := by
  rcases h.2 with ⟨rfl, h0⟩ | ⟨g, cap, cur, rfl, hg, hh, hc, _, hs, ht⟩
  · exact ⟨none, 0, by rw [h0], by omega, Or.inl (List.eq_nil_of_length_eq_zero h0)⟩
  · refine ⟨_, cap, rfl, hc, Or.inr ⟨g, 0, rfl, (Array.getElem?_eq_some_iff.1 hh).1, fun i f hi j u hu => ?_⟩⟩
    have h1 := flatF_get fs i f hi j u hu
    rw [← ht] at h1
    rw [cell_of_row w g _ cur _ (0, 0) hh, Nat.zero_add]
    rw [List.getElem?_take] at h1
    split at h1
    · simpa using h1
    · cases h1
def onceF (all : List Fl) (n : Nd) : List Fl := if (n.kind == 1) && !hasF all n.ref then all ++ [n.ref] else all
def refsT (nds : List Nd) : List Fl := if tsoundB nds then nds.foldl onceF [] else []
theorem onceF_len : ∀ (l : List Nd) (all : List Fl), (l.foldl onceF all).length ≤ all.length + l.length
  | [], all => Nat.le_refl _
  | n :: l, all => by
    have := onceF_len l (onceF all n)
    have h2 : (onceF all n).length ≤ all.length + 1 := by
      unfold onceF; split <;> simp
    rw [List.foldl_cons, List.length_cons]; omega
set_option maxRecDepth 100000 in
set_option maxHeartbeats 8000000 in
theorem onceF_val (a : Option Addr) (cap : Nat) (nds : List Nd) (w : World) (hn : NodesIn w a nds) (hf : TreeFit nds) :
    Calls Tryz.prog 68 #[.slice a nds.length cap, .func (.func 69) #[] #[]] w fun e w' => (∃ v, e = .returned v ∧ FullRow w' w.heap.size v (refsT nds)) ∧ Below w.heap.size w w' := by
  have HN := hide hn
  have HF := hide hf
  have HS := hide (tsound_val a cap nds w hn hf)
  obtain ⟨res, hres⟩ : ∃ r, refsT nds = r := ⟨_, rfl⟩
  have HRES := hide hres
  rw [hres]
  obtain ⟨sb, hsb⟩ : ∃ sb, tsoundB nds = sb := ⟨_, rfl⟩
  have HSB := hide hsb
  rw [hsb] at HS
  have hl := hf.len
  obtain ⟨n, hnl⟩ : ∃ n, nds.length = n := ⟨_, rfl⟩
  have HNL := hide hnl
  rw [hnl] at HS hl ⊢
  obtain ⟨i0, hi, hz0, hz1, hz2⟩ := info_parts infoFu
  clear hn hf hsb hnl hres
  go_enter Tryz.func68, Tryz.ntmps68
  go_wp2_with fail
  refine (unhide HS).mono ?_
  rintro e w2 ⟨rfl, b2⟩
  have HB := hide b2
  clear b2
  cases sb with
  | false =>
    have HR0 : Hid (res = []) := hide (by rw [← unhide HRES]; unfold refsT; rw [unhide HSB]; rfl)
    go_wp2
    go_ret
    exact ⟨⟨_, rfl, by rw [unhide HR0]; exact World.ownsRow_nil _ _ _ _⟩, unhide HB⟩
  | true =>
    have HR0 : Hid (res = nds.foldl onceF []) := hide (by rw [← unhide HRES]; unfold refsT; rw [unhide HSB]; rfl)
    go_wp2_with fail
    go_loopw [5, 15] (fun v i wr => ∃ (k : Nat) (m : List Fl), i = .int .i64 (k : Int) ∧ k ≤ n ∧ Hid ((nds.take k).foldl onceF [] = m) ∧ Hid (wr.ownsRow w.heap.size fuT 11 v m.length (flatF m)) ∧ Hid (Below w.heap.size w wr)) (fun _ i _ => n - (intOf i).toNat)
    case atStart => exact ⟨0, [], rfl, by omega, hide rfl, hide (World.ownsRow_nil _ _ _ _), HB⟩
    case round =>
      obtain ⟨k, m, rfl, hk, HM, HO, HBW⟩ := hrel
      by_cases hlt : k < n
      · have hlti : (k : Int) < (n : Int) := by omega
        obtain ⟨nd, hnd⟩ : ∃ nd, nds[k]? = some nd := ⟨nds[k]'(by rw [unhide HNL]; exact hlt), List.getElem?_eq_getElem (by rw [unhide HNL]; exact hlt)⟩
        obtain ⟨g, off, ka, kcap, rfl, hg, hkc, hki, hcells⟩ := node_at (nodesIn_below (unhide HN) (unhide HBW)) k nd hnd
        have HTK : Hid ((nds.take (k + 1)).foldl onceF [] = onceF m nd) := hide (by
          rw [List.take_add_one, hnd, List.foldl_append, unhide HM]; rfl)
        have hml : m.length ≤ 1000 := by
          rw [← unhide HM]
          have h1 := onceF_len (nds.take k) []
          rw [List.length_take, unhide HNL, List.length_nil] at h1
          omega
        obtain ⟨va, vcap, rfl, hvc, hvs⟩ := fulls_of_owns (unhide HO)
        have HVS := hide hvs
        have HCR := hide (nd_range hcells)
        have st := nd_new wr nd (.slice ka nd.kids.length kcap) rfl
        have C5 := hide (range_cells0 (cells_new wr ndT (nd.cells (.slice ka nd.kids.length kcap))))
        have zN : (nd.cells (.slice ka nd.kids.length kcap)).size = 19 := rfl
        have HC1 := hide (fun w => refsOne_val nd (.slice ka nd.kids.length kcap) rfl w)
        obtain ⟨cs, hcs⟩ : ∃ cs, nd.cells (.slice ka nd.kids.length kcap) = cs := ⟨_, rfl⟩
        rw [hcs] at HC1 HCR st C5 zN
        have HIN : Hid ((Tryz.prog.info? 55).map (·.size) = some cs.toList.length) := hide (by rw [infoNs, Array.length_toList, zN])
        obtain ⟨b5, hb5⟩ : ∃ b, (nd.kind == 1) = b := ⟨_, rfl⟩
        obtain ⟨x, hx⟩ : ∃ x, nd.ref = x := ⟨_, rfl⟩
        obtain ⟨hc, hhc⟩ : ∃ b, hasF m x = b := ⟨_, rfl⟩
        have HTK2 : Hid (onceF m nd = if b5 && !hc then m ++ [x] else m) := hide (by unfold onceF; rw [hb5, hx, hhc])
        rw [hb5, hx] at HC1
        have HHC := hide hhc
        have HOA := hide ((unhide HO).alloc (.cells cs ndT))
        have HFC := hide (fun w (h : FullsIn w va m) => fcontains_val va vcap m x w h (by omega))
        rw [hhc] at HFC
        clear hb5 hhc hcs hcells hki hnd hvs
        have HXM : Hid (flatF (m ++ [x]) = flatF m ++ x.cells.toList) := hide (flatF_snoc m x)
        obtain ⟨X, hX⟩ : ∃ X, x = X := ⟨_, rfl⟩
        have HX := hide hX
        rw [hX] at HXM
        have HXC : Hid (X.cells.toList = x.cells.toList) := hide (by rw [hX])
        have HTK3 : Hid (onceF m nd = if b5 && !hc then m ++ [X] else m) := hide (by rw [← hX]; exact unhide HTK2)
        clear hX hx HTK2
        obtain ⟨bk, sh, ⟨c1, r1, f1, g1⟩, ⟨c2, r2, f2, g2⟩, wd⟩ := x
        unfold Fl.cells at HC1 HFC HXC
        simp only [] at HC1 HFC HXC
        go_wp2_with (first | (refine wpList_load_mid rfl 55 _ rfl g (off + k * 19) rfl cs.toList _ (unhide HCR) Tryz.underlying55 rfl (unhide HIN) ?_) | (refine wpList_load_mid rfl 55 _ rfl wr.heap.size 0 rfl cs.toList _ (unhide C5) Tryz.underlying55 rfl (unhide HIN) ?_))
        refine (unhide HC1 _).mono ?_
        rintro e w3 ⟨rfl, b3⟩
        have HB3 := hide (below_nx (below_nx (unhide HBW) (below_al wr (.cells cs ndT))) b3)
        have HO3 := hide (owns_grown (unhide HOA) (fun k hk _ => b3.block k hk))
        have HV3 := hide (fulls_below (unhide HVS) (below_nx (below_al wr (.cells cs ndT)) b3))
        clear b3 st
        have HB3a := hide (below_nx (unhide HB3) (below_al w3 (.cells #[.string bk, .string sh, .int .i64 c1, .int .i64 r1, .bool f1, .bool g1, .int .i64 c2, .int .i64 r2, .bool f2, .bool g2, .bool wd] fuT)))
        have HO3a := hide ((unhide HO3).alloc (.cells #[.string bk, .string sh, .int .i64 c1, .int .i64 r1, .bool f1, .bool g1, .int .i64 c2, .int .i64 r2, .bool f2, .bool g2, .bool wd] fuT))
        have HV3a := hide (fulls_below (unhide HV3) (below_al w3 (.cells #[.string bk, .string sh, .int .i64 c1, .int .i64 r1, .bool f1, .bool g1, .int .i64 c2, .int .i64 r2, .bool f2, .bool g2, .bool wd] fuT)))
        have HCN := hide (cells_new w3 fuT #[.string bk, .string sh, .int .i64 c1, .int .i64 r1, .bool f1, .bool g1, .int .i64 c2, .int .i64 r2, .bool f2, .bool g2, .bool wd])
        cases b5 with
        | false =>
          have HR2 : Hid ((nds.take (k + 1)).foldl onceF [] = m) := hide (by rw [unhide HTK, unhide HTK3]; rfl)
          go_wp2
          go_roundw
          case rel => exact ⟨k + 1, m, by go_num, by omega, HR2, HO3a, HB3a⟩
          case measure => simp [intOf]; omega
        | true =>
          go_wp2_with fail
          refine (unhide HFC _ (unhide HV3a)).mono ?_
          rintro e w4 ⟨rfl, b4⟩
          have HB4 := hide (below_nx (unhide HB3a) b4)
          have HO4 := hide (owns_grown (unhide HO3a) (fun k hk _ => b4.block k hk))
          obtain ⟨x0, x1, x2, x3, x4, x5, x6, x7, x8, x9, x10⟩ := cells11x (cells_nx (unhide HCN) b4)
          clear b4
          cases hc with
          | true =>
            have HR2 : Hid ((nds.take (k + 1)).foldl onceF [] = m) := hide (by rw [unhide HTK, unhide HTK3]; rfl)
            clear x0 x1 x2 x3 x4 x5 x6 x7 x8 x9 x10
            go_wp2
            go_roundw
            case rel => exact ⟨k + 1, m, by go_num, by omega, HR2, HO4, HB4⟩
            case measure => simp [intOf]; omega
          | false =>
            have HR2 : Hid ((nds.take (k + 1)).foldl onceF [] = m ++ [X]) := hide (by rw [unhide HTK, unhide HTK3]; rfl)
            have hsz := (unhide HB4).size
            go_wp2_with (at_builtin; refine wpList_append_own _ rfl _ _ 91 rfl w.heap.size fuT i0 zFu 11 88 Tryz.underlying91 hi hz0 hz1 hz2 rfl (by decide) _ _ _ rfl ((unhide HO4).alloc _) ⟨w4.heap.size, 0, none⟩ 1 1 [.string bk, .string sh, .int .i64 c1, .int .i64 r1, .bool f1, .bool g1, .int .i64 c2, .int .i64 r2, .bool f2, .bool g2, .bool wd] rfl rfl (World.news_of_block (heap_alloc_new _ _)) (by simp [Value.oneCell']) (by unfold maxLen; omega) (by omega) (by simp; omega) ?_)
            intro v' w5 hown' hgrow _
            have hlen' : (m ++ [X]).length = m.length + 1 := by rw [List.length_append, List.length_singleton]
            have HO5 : Hid (w5.ownsRow w.heap.size fuT 11 v' (m ++ [X]).length (flatF (m ++ [X]))) := hide (by
              have e : X.cells.toList = [.string bk, .string sh, .int .i64 c1, .int .i64 r1, .bool f1, .bool g1, .int .i64 c2, .int .i64 r2, .bool f2, .bool g2, .bool wd] := unhide HXC
              rw [hlen', unhide HXM, e]
              exact hown')
            have HB5 : Hid (Below w.heap.size w w5) := hide ((below_nx (unhide HB4) (below_al w4 (.cells #[.string bk, .string sh, .int .i64 c1, .int .i64 r1, .bool f1, .bool g1, .int .i64 c2, .int .i64 r2, .bool f2, .bool g2, .bool wd] fuT))).grown hgrow (by simp; omega) (fun j hj => ((unhide HO4).lt j hj).1))
            clear hown' hgrow hlen'
            go_wp2
            go_roundw
            case rel => exact ⟨k + 1, m ++ [X], by go_num, by omega, HR2, HO5, HB5⟩
            case measure => simp [intOf]; omega
      · have hlti : ¬ (k : Int) < (n : Int) := by omega
        have HR1 : Hid (res = m) := hide (by
          have h1 := unhide HM
          rw [List.take_of_length_le (by rw [unhide HNL]; omega)] at h1
          rw [unhide HR0, h1])
        go_wp2
        go_ret
        exact ⟨⟨_, rfl, by rw [unhide HR1]; exact unhide HO⟩, unhide HBW⟩
set_option maxRecDepth 100000 in
set_option maxHeartbeats 2000000 in
theorem refsT_val (a : Option Addr) (cap : Nat) (nds : List Nd) (w : World) (hn : NodesIn w a nds) (hf : TreeFit nds) :
    Calls Tryz.prog 37 #[.slice a nds.length cap] w fun e w' => (∃ v, e = .returned v ∧ FullRow w' w.heap.size v (refsT nds)) ∧ Below w.heap.size w w' := by
  have HS := hide (onceF_val a cap nds w hn hf)
  obtain ⟨n, hnl⟩ : ∃ n, nds.length = n := ⟨_, rfl⟩
  rw [hnl] at HS ⊢
  clear hn hf hnl
  go_enter Tryz.func37, Tryz.ntmps37
  go_wp2_with fail
  refine (unhide HS).mono ?_
  rintro e w2 ⟨⟨v, rfl, ho⟩, b2⟩
  have HO := hide ho
  have HB := hide b2
  clear ho b2
  go_wp2
  go_ret
  exact ⟨⟨_, rfl, unhide HO⟩, unhide HB⟩
end Go.Proofs.YtloamahbghjjgaaGreatDoor

namespace Go.Proofs.YtloamahbghjjgaaGreatDoor
open Go.RowKit
def bs (l : List UInt8) : ByteArray := ⟨l.toArray⟩
theorem bs_size (l : List UInt8) : (bs l).size = l.length := rfl
theorem bs_list (l : List UInt8) : (bs l).data.toList = l := by simp [bs]
def wk6L : List UInt8 := [49, 43, 65, 49, 42, 45, 50]
def wk6N : List Nd := [⟨0, emp, vN 10000, zeroF, []⟩, ⟨1, emp, zVl, zeroF, []⟩, ⟨0, emp, vN 20000, zeroF, []⟩, ⟨2, emp, zVl, zeroF, [2]⟩, ⟨4, ⟨#[42]⟩, zVl, zeroF, [1, 3]⟩, ⟨4, ⟨#[43]⟩, zVl, zeroF, [0, 4]⟩]
theorem wk6_parse : parseL wk6L = (wk6N, 0) := by kernel_rfl
theorem wk6_good : goodT wk6N = true := by kernel_rfl
theorem wk6_nest : nestingT wk6N = 1 := by kernel_rfl
theorem wk6_refs : refsT wk6N = [zeroF] := by kernel_rfl
theorem wk6_text : fullT zeroF = [65, 49] := by kernel_rfl
theorem wk6_fit : TreeFit wk6N := by
  refine ⟨by decide, ?_, ?_, ?_⟩
  all_goals
    intro n hn
    unfold wk6N at hn
    simp only [List.mem_cons, List.not_mem_nil, or_false] at hn
    rcases hn with rfl | rfl | rfl | rfl | rfl | rfl <;> decide
set_option maxRecDepth 100000 in
set_option maxHeartbeats 4000000 in
theorem wakes6 (w : World) (he : Env5 w) :
    Calls Tryz.prog 14 #[] w fun e w' => e = .returned (.bool true) ∧ Below w.heap.size w w' := by
  have HE := hide he
  have HP := hide (parse_val (bs wk6L) w (by decide) he)
  rw [bs_list, wk6_parse] at HP
  unfold PaPost at HP
  simp only [] at HP
  rw [show bs wk6L = (⟨#[49, 43, 65, 49, 42, 45, 50]⟩ : ByteArray) from rfl] at HP
  clear he
  have HG := hide (fun a cap w h => goodT_val a cap wk6N w h wk6_fit)
  have HNS := hide (fun a cap w h => nestingT_val a cap wk6N w h wk6_fit)
  have HRF := hide (fun a cap w h => refsT_val a cap wk6N w h wk6_fit)
  rw [wk6_good] at HG
  rw [wk6_nest] at HNS
  rw [wk6_refs] at HRF
  have HT := hide (fun w (h : Env5 w) => fullText_val zeroF w h.e4)
  rw [wk6_text] at HT
  unfold Fl.cells zeroF at HT
  simp only [] at HT
  go_enter Tryz.func14, Tryz.ntmps14
  go_wp2_with fail
  refine (unhide HP).mono ?_
  rintro e w1 ⟨v, rfl, hrow, bb⟩
  obtain ⟨a, cap, rfl, hcp, hin⟩ := nodes_in hrow
  obtain ⟨g, off, ka3, kc3, rfl, hg, _, _, hc3⟩ := node_at hin 3 _ rfl
  obtain ⟨g', off', ka4, kc4, h4, _, hk4, hi4, hc4⟩ := node_at hin 4 _ rfl
  obtain ⟨rfl, rfl⟩ : g = g' ∧ off = off' := by simpa using h4
  obtain ⟨g', off', ka5, kc5, h5, _, _, _, hc5⟩ := node_at hin 5 _ rfl
  obtain ⟨rfl, rfl⟩ : g = g' ∧ off = off' := by simpa using h5
  have y1 : w1.cell? ⟨g, off + 57, none⟩ = some (.int .i64 2) := hc3 0 _ rfl
  have y2 : w1.cell? ⟨g, off + 77, none⟩ = some (.string ⟨#[42]⟩) := hc4 1 _ rfl
  have y3 : w1.cell? ⟨g, off + 94, none⟩ = some (.slice ka4 2 kc4) := hc4 18 _ rfl
  have y5 : w1.cell? ⟨g, off + 96, none⟩ = some (.string ⟨#[43]⟩) := hc5 1 _ rfl
  obtain ⟨gk, ok, rfl, hgk, hck⟩ : ∃ gk ok, ka4 = some ⟨gk, ok, none⟩ ∧ gk < w1.heap.size ∧ w1.cell? ⟨gk, ok + 1, none⟩ = some (.int .i64 3) := by
    rcases hi4 with h | ⟨gk, ok, rfl, hgk, hck⟩
    · cases h
    · exact ⟨gk, ok, rfl, hgk, hck 1 3 rfl⟩
  have HC := hide (fun w' (b : Below w1.heap.size w1 w') => (⟨(b.cell (p := ⟨g, off + 57, none⟩) hg).trans y1, (b.cell (p := ⟨g, off + 77, none⟩) hg).trans y2, (b.cell (p := ⟨g, off + 94, none⟩) hg).trans y3, (b.cell (p := ⟨g, off + 96, none⟩) hg).trans y5, (b.cell (p := ⟨gk, ok + 1, none⟩) hgk).trans hck⟩ :
    w'.cell? ⟨g, off + 57, none⟩ = some (.int .i64 2) ∧ w'.cell? ⟨g, off + 77, none⟩ = some (.string ⟨#[42]⟩) ∧ w'.cell? ⟨g, off + 94, none⟩ = some (.slice (some ⟨gk, ok, none⟩) 2 kc4) ∧ w'.cell? ⟨g, off + 96, none⟩ = some (.string ⟨#[43]⟩) ∧ w'.cell? ⟨gk, ok + 1, none⟩ = some (.int .i64 3)))
  have HIN := hide hin
  have HB := hide bb
  clear y1 y2 y3 y5 hck hc3 hc4 hc5 h4 h5 hin hrow bb hi4 hg hgk hcp hk4 HP
  rw [show wk6N.length = 6 from rfl] at HG HNS HRF ⊢
  go_wp2_with fail
  refine (unhide HG _ _ _ (unhide HIN)).mono ?_
  rintro e w2 ⟨rfl, b2⟩
  have B2 := hide b2
  clear b2
  go_wp2_with fail
  refine (unhide HNS _ _ _ (nodesIn_below (unhide HIN) (unhide B2))).mono ?_
  rintro e w3 ⟨rfl, b3⟩
  have B3 := hide (below_nx (unhide B2) b3)
  clear b3 B2
  go_wp2_with fail
  refine (unhide HRF _ _ _ (nodesIn_below (unhide HIN) (unhide B3))).mono ?_
  rintro e w4 ⟨⟨v, rfl, ho⟩, b4⟩
  have B4 := hide (below_nx (unhide B3) b4)
  obtain ⟨fa, fcap, rfl, hfc, hfin⟩ := fulls_of_owns ho
  obtain ⟨gf, o, rfl, hgf, z0, z1, z2, z3, z4, z5, z6, z7, z8, z9, z10⟩ := fulls_at hfin 0 zeroF rfl
  rw [Nat.zero_mul, Nat.add_zero] at z0 z1 z2 z3 z4 z5 z6 z7 z8 z9 z10
  unfold zeroF at z0 z1 z2 z3 z4 z5 z6 z7 z8 z9 z10
  simp only [] at z0 z1 z2 z3 z4 z5 z6 z7 z8 z9 z10
  obtain ⟨x1, x2, x3, x5, x4⟩ := unhide HC _ (unhide B4)
  have BX := hide (below_nx (unhide HB) (unhide B4))
  clear ho hfin hgf b4 B3 HC HIN hfc
  rw [show ([zeroF] : List Fl).length = 1 from rfl]
  go_wp2_with fail
  refine (unhide HT _ ((unhide HE).below (unhide BX))).mono ?_
  rintro e w5 ⟨rfl, b5⟩
  have B5 := hide (below_nx (unhide BX) b5)
  clear b5
  go_wp2
  go_ret
  exact ⟨rfl, unhide B5⟩
end Go.Proofs.YtloamahbghjjgaaGreatDoor
