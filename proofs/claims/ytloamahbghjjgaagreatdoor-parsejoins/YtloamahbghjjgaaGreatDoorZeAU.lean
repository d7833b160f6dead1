/- The contracts of the program's isLiteral, isCalled, and of a node's sound. -/
import Derived.BigQuiet
import Derived.BigRegion
import Derived.ChangeAlike
import Derived.Deep.AppendLies
import Derived.Deep.CutBlock
import Derived.Deep.CutRange
import Derived.Deep.DeepFit
import Derived.Deep.MidRow
import Derived.Deep.QuietTactic
import Derived.Deep.RegionHeld3
import Derived.Deep.RegionLaw
import Derived.Deep.RegionWith
import Derived.Deep.WholeRow
import Derived.Defers
import Derived.Great.BuildSlice
import Derived.Laws.Bits64b
import Derived.Laws.CopyOwn
import Derived.Laws.IdiomStrings
import Derived.Laws.OwnMore
import Derived.Laws.Rows
import Derived.Laws.StructEq
import Derived.Laws.Tables
import Derived.Lib.Atoi
import Derived.Lib.AtoiErrMem
import Derived.Lib.BitFns
import Derived.Lib.CutLaws
import Derived.Lib.IndexMore
import Derived.Lib.ItoaMem
import Derived.Lib.ItoaNum
import Derived.Lib.Join
import Derived.Lib.Replace
import Derived.Lib.Walk
import Derived.LoopIn
import Derived.LoopNIn
import Derived.OwnWalkIn
import Derived.RangeFuncBound
import Derived.RangeFuncCalls
import Derived.RangeFuncLeaves
import Derived.RangeFuncNested
import Derived.Recover
import Derived.RegionTactic
import Derived.Shelf.Abstract
import Derived.Shelf.Bits.Mul64
import Derived.Shelf.LaysM
import Derived.Shelf.RegionOpen
import Derived.Shelf.Small.Bits
import Derived.Shelf.Small.Strs
import Derived.Shelf.Small.Utf8
import Derived.Shelf.Small.Wraps
import Derived.Shelf.Strconv.Atoi
import Derived.Shelf.Strconv.Itoa0
import Derived.Shelf.Strconv.Itoa1
import Derived.Shelf.Strconv.Itoa2
import Derived.Shelf.Strconv.Itoa3
import Derived.Shelf.Strings.AsciiSet
import Derived.Shelf.Strings.Builder1
import Derived.Shelf.Strings.Builder2
import Derived.Shelf.Strings.Count
import Derived.Shelf.Strings.Cut
import Derived.Shelf.Strings.OnBuilder
import Derived.Shelf.Strings.Prefix
import Derived.Shelf.Strings.Replace
import Derived.Shelf.Strings.Runes
import Derived.Shelf.Strings.Search1
import Derived.Shelf.Strings.Search2
import Derived.Shelf.Strings.Search3
import Derived.Shelf.Strings.Shaped
import Derived.Shelf.Strings.Split
import Derived.Shelf.Strings.SplitShaped
import Derived.Shelf.Strings.Trim
import Derived.Shelf.Unicode.DecodeSlow
import Derived.TacticsInMore
import Derived.Test.YtloamahbghjjgaaGreatDoorProg
import Derived.Test.YtloamahbghjjgaaGreatDoorRows
import Derived.WalkKit
import Derived.WalkLawsBesides
import Derived.WalkSmall
import Derived.WalkSpells
import Derived.Test.YtloamahbghjjgaaGreatDoorZeAA
import Derived.Test.YtloamahbghjjgaaGreatDoorZeAB
import Derived.Test.YtloamahbghjjgaaGreatDoorZeAC
import Derived.Test.YtloamahbghjjgaaGreatDoorZeAD
import Derived.Test.YtloamahbghjjgaaGreatDoorZeAE
import Derived.Test.YtloamahbghjjgaaGreatDoorZeAF
import Derived.Test.YtloamahbghjjgaaGreatDoorZeAG
import Derived.Test.YtloamahbghjjgaaGreatDoorZeAH
import Derived.Test.YtloamahbghjjgaaGreatDoorZeAI
import Derived.Test.YtloamahbghjjgaaGreatDoorZeAJ
import Derived.Test.YtloamahbghjjgaaGreatDoorZeAK
import Derived.Test.YtloamahbghjjgaaGreatDoorZeAL
import Derived.Test.YtloamahbghjjgaaGreatDoorZeAM
import Derived.Test.YtloamahbghjjgaaGreatDoorZeAN
import Derived.Test.YtloamahbghjjgaaGreatDoorZeAO
import Derived.Test.YtloamahbghjjgaaGreatDoorZeAP
import Derived.Test.YtloamahbghjjgaaGreatDoorZeAQ
import Derived.Test.YtloamahbghjjgaaGreatDoorZeAR
import Derived.Test.YtloamahbghjjgaaGreatDoorZeAS
import Derived.Test.YtloamahbghjjgaaGreatDoorZeAT
namespace Go.Proofs.YtloamahbghjjgaaGreatDoor
open Go.RowKit

def litB (v : Vl) : Bool := vGood v && (v.kind != 0 && decide (0 ≤ v.num))
def calledB (s : ByteArray) : Bool := nameG s.data.toList && ((mapB upC s).toList == s.toList)
set_option maxHeartbeats 2000000 in
theorem isLiteral_val (v : Vl) (w : World) (hs : v.text.size ≤ 1000000) :
    Calls Tryz.prog 118 #[.agg v.cells] w fun e w' => e = .returned (.bool (litB v)) ∧ Below w.heap.size w w' := by
  obtain ⟨V0, V1, V2, V3, V4⟩ := v
  have HG := hide (fun w => good3_val ⟨V0, V1, V2, V3, V4⟩ w hs)
  unfold litB
  obtain ⟨g, hg⟩ : ∃ g, vGood ⟨V0, V1, V2, V3, V4⟩ = g := ⟨_, rfl⟩
  rw [hg] at HG ⊢
  clear hg hs
  unfold Vl.cells at HG ⊢
  simp only [] at HG ⊢
  have HN := hide (cells_new w 46 #[.int .i64 V0, .int .i64 V1, .string V2, .bool V3, .int .i64 V4])
  cases g
  · go_enter Tryz.func118, Tryz.ntmps118
    go_wp2_with fail
    refine (unhide HG _).mono ?_
    rintro e w1 ⟨rfl, b1⟩
    have HB := hide (below_nx (below_al w _) b1)
    obtain ⟨x0, x1, _, _, _⟩ := cells5 (cells_nx (unhide HN) b1)
    clear b1
    go_wp2
    go_ret
    exact ⟨rfl, unhide HB⟩
  by_cases h0 : V0 = 0
  · subst h0
    go_enter Tryz.func118, Tryz.ntmps118
    go_wp2_with fail
    refine (unhide HG _).mono ?_
    rintro e w1 ⟨rfl, b1⟩
    have HB := hide (below_nx (below_al w _) b1)
    obtain ⟨x0, x1, _, _, _⟩ := cells5 (cells_nx (unhide HN) b1)
    clear b1
    go_wp2
    go_ret
    exact ⟨rfl, unhide HB⟩
  have e0 : (V0 != 0) = true := by simpa using h0
  by_cases h1 : 0 ≤ V1
  · have e1 : decide (0 ≤ V1) = true := decide_eq_true h1
    rw [e0, e1]
    go_enter Tryz.func118, Tryz.ntmps118
    go_wp2_with fail
    refine (unhide HG _).mono ?_
    rintro e w1 ⟨rfl, b1⟩
    have HB := hide (below_nx (below_al w _) b1)
    obtain ⟨x0, x1, _, _, _⟩ := cells5 (cells_nx (unhide HN) b1)
    clear b1
    go_wp2
    go_ret
    exact ⟨rfl, unhide HB⟩
  · have e1 : decide (0 ≤ V1) = false := decide_eq_false h1
    rw [e0, e1]
    go_enter Tryz.func118, Tryz.ntmps118
    go_wp2_with fail
    refine (unhide HG _).mono ?_
    rintro e w1 ⟨rfl, b1⟩
    have HB := hide (below_nx (below_al w _) b1)
    obtain ⟨x0, x1, _, _, _⟩ := cells5 (cells_nx (unhide HN) b1)
    clear b1
    go_wp2
    go_ret
    exact ⟨rfl, unhide HB⟩
set_option maxHeartbeats 2000000 in
theorem isCalled_val (s : ByteArray) (w : World) (hs : s.size ≤ 1000000) :
    Calls Tryz.prog 120 #[.string s] w fun e w' => e = .returned (.bool (calledB s)) ∧ Below w.heap.size w w' := by
  have HG := hide (fun w => name_val s w)
  have HU := hide (fun w => upper_val s w hs)
  unfold calledB
  obtain ⟨g, hg⟩ : ∃ g, nameG s.data.toList = g := ⟨_, rfl⟩
  rw [hg] at HG ⊢
  clear hg hs
  cases g
  · go_enter Tryz.func120, Tryz.ntmps120
    go_wp2_with fail
    refine (unhide HG _).mono ?_
    rintro e w1 ⟨rfl, b1⟩
    have HB := hide b1
    clear b1
    go_wp2
    go_ret
    exact ⟨rfl, unhide HB⟩
  · go_enter Tryz.func120, Tryz.ntmps120
    go_wp2_with fail
    refine (unhide HG _).mono ?_
    rintro e w1 ⟨rfl, b1⟩
    have HB := hide b1
    clear b1
    go_wp2_with fail
    refine (unhide HU _).mono ?_
    rintro e w2 ⟨rfl, b2⟩
    replace HB := hide (below_nx (unhide HB) b2)
    clear b2
    go_wp2
    go_ret
    exact ⟨by simp, unhide HB⟩
theorem nd_cells {w : World} {B : Nat} {t : TypeId} {v0 v1 v2 v3 v4 v5 v6 v7 v8 v9 v10 v11 v12 v13 v14 v15 v16 v17 v18 : Value} (h : CellsAt w B t #[v0, v1, v2, v3, v4, v5, v6, v7, v8, v9, v10, v11, v12, v13, v14, v15, v16, v17, v18]) :
    w.cell? ⟨B, 0, none⟩ = some v0 ∧ w.cell? ⟨B, 1, none⟩ = some v1 ∧ w.cell? ⟨B, 2, none⟩ = some v2 ∧ w.cell? ⟨B, 3, none⟩ = some v3 ∧ w.cell? ⟨B, 4, none⟩ = some v4 ∧ w.cell? ⟨B, 5, none⟩ = some v5 ∧ w.cell? ⟨B, 6, none⟩ = some v6 ∧ w.cell? ⟨B, 7, none⟩ = some v7 ∧ w.cell? ⟨B, 8, none⟩ = some v8 ∧ w.cell? ⟨B, 9, none⟩ = some v9 ∧ w.cell? ⟨B, 10, none⟩ = some v10 ∧ w.cell? ⟨B, 11, none⟩ = some v11 ∧ w.cell? ⟨B, 12, none⟩ = some v12 ∧ w.cell? ⟨B, 13, none⟩ = some v13 ∧ w.cell? ⟨B, 14, none⟩ = some v14 ∧ w.cell? ⟨B, 15, none⟩ = some v15 ∧ w.cell? ⟨B, 16, none⟩ = some v16 ∧ w.cell? ⟨B, 17, none⟩ = some v17 ∧ w.cell? ⟨B, 18, none⟩ = some v18 := by
  exact ⟨cells_c h 0 _ rfl, cells_c h 1 _ rfl, cells_c h 2 _ rfl, cells_c h 3 _ rfl, cells_c h 4 _ rfl, cells_c h 5 _ rfl, cells_c h 6 _ rfl, cells_c h 7 _ rfl, cells_c h 8 _ rfl, cells_c h 9 _ rfl, cells_c h 10 _ rfl, cells_c h 11 _ rfl, cells_c h 12 _ rfl, cells_c h 13 _ rfl, cells_c h 14 _ rfl, cells_c h 15 _ rfl, cells_c h 16 _ rfl, cells_c h 17 _ rfl, cells_c h 18 _ rfl⟩
def soundB (n : Nd) : Bool :=
  if n.kind = 0 then hasB n noText n.val zeroF && (decide (n.kids.length = 0) && litB n.val)
  else if n.kind = 1 then hasB n noText zVl n.ref && (decide (n.kids.length = 0) && goodF n.ref)
  else if n.kind = 2 ∨ n.kind = 3 then hasB n noText zVl zeroF && decide (n.kids.length = 1)
  else if n.kind = 4 then hasB n n.op zVl zeroF && (decide (n.kids.length = 2) && (bindL n.op.data.toList != 0))
  else if n.kind = 5 then hasB n n.op zVl zeroF && (decide (n.kids.length ≤ 32) && calledB n.op)
  else false
theorem nd_x {w : World} {B : Nat} {n : Nd} {kv : Value} (h : CellsAt w B ndT (n.cells kv)) :
    w.cell? ⟨B, 0, none⟩ = some (.int .i64 n.kind) ∧ w.cell? ⟨B, 1, none⟩ = some (.string n.op) ∧ w.cell? ⟨B, 18, none⟩ = some kv := ⟨cells_c h 0 _ rfl, cells_c h 1 _ rfl, cells_c h 18 _ rfl⟩
theorem nd_r {w : World} {B : Nat} {n : Nd} {kv : Value} (h : CellsAt w B ndT (n.cells kv)) :
    w.rangeAt B 0 (n.cells kv).toList ∧ w.rangeAt B 2 n.val.cells.toList ∧ w.rangeAt B 7 n.ref.cells.toList := by
  refine ⟨range_cells0 h, fun j v hv => ?_, fun j v hv => ?_⟩
  · match j, hv with
    | 0, hv => cases hv; exact cells_c h 2 _ rfl
    | 1, hv => cases hv; exact cells_c h 3 _ rfl
    | 2, hv => cases hv; exact cells_c h 4 _ rfl
    | 3, hv => cases hv; exact cells_c h 5 _ rfl
    | 4, hv => cases hv; exact cells_c h 6 _ rfl
    | (k + 5), hv => cases hv
  · match j, hv with
    | 0, hv => cases hv; exact cells_c h 7 _ rfl
    | 1, hv => cases hv; exact cells_c h 8 _ rfl
    | 2, hv => cases hv; exact cells_c h 9 _ rfl
    | 3, hv => cases hv; exact cells_c h 10 _ rfl
    | 4, hv => cases hv; exact cells_c h 11 _ rfl
    | 5, hv => cases hv; exact cells_c h 12 _ rfl
    | 6, hv => cases hv; exact cells_c h 13 _ rfl
    | 7, hv => cases hv; exact cells_c h 14 _ rfl
    | 8, hv => cases hv; exact cells_c h 15 _ rfl
    | 9, hv => cases hv; exact cells_c h 16 _ rfl
    | 10, hv => cases hv; exact cells_c h 17 _ rfl
    | (k + 11), hv => cases hv
theorem nd_v {w : World} {B : Nat} {n : Nd} {kv : Value} (h : CellsAt w B ndT (n.cells kv)) :
    w.cell? ⟨B, 2, none⟩ = some (.int .i64 n.val.kind) ∧ w.cell? ⟨B, 3, none⟩ = some (.int .i64 n.val.num) ∧ w.cell? ⟨B, 4, none⟩ = some (.string n.val.text) ∧ w.cell? ⟨B, 5, none⟩ = some (.bool n.val.tr) ∧ w.cell? ⟨B, 6, none⟩ = some (.int .i64 n.val.fail) := ⟨cells_c h 2 _ rfl, cells_c h 3 _ rfl, cells_c h 4 _ rfl, cells_c h 5 _ rfl, cells_c h 6 _ rfl⟩
theorem nd_f {w : World} {B : Nat} {n : Nd} {kv : Value} (h : CellsAt w B ndT (n.cells kv)) :
    w.cell? ⟨B, 7, none⟩ = some (.string n.ref.book) ∧ w.cell? ⟨B, 8, none⟩ = some (.string n.ref.sheet) ∧ w.cell? ⟨B, 9, none⟩ = some (.int .i64 n.ref.a.col) ∧ w.cell? ⟨B, 10, none⟩ = some (.int .i64 n.ref.a.row) ∧ w.cell? ⟨B, 11, none⟩ = some (.bool n.ref.a.fc) ∧ w.cell? ⟨B, 12, none⟩ = some (.bool n.ref.a.fr) ∧ w.cell? ⟨B, 13, none⟩ = some (.int .i64 n.ref.b.col) ∧ w.cell? ⟨B, 14, none⟩ = some (.int .i64 n.ref.b.row) ∧ w.cell? ⟨B, 15, none⟩ = some (.bool n.ref.b.fc) ∧ w.cell? ⟨B, 16, none⟩ = some (.bool n.ref.b.fr) ∧ w.cell? ⟨B, 17, none⟩ = some (.bool n.ref.wide) :=
  ⟨cells_c h 7 _ rfl, cells_c h 8 _ rfl, cells_c h 9 _ rfl, cells_c h 10 _ rfl, cells_c h 11 _ rfl, cells_c h 12 _ rfl, cells_c h 13 _ rfl, cells_c h 14 _ rfl, cells_c h 15 _ rfl, cells_c h 16 _ rfl, cells_c h 17 _ rfl⟩
set_option maxRecDepth 100000 in
set_option maxHeartbeats 8000000 in
theorem nsound0 (n : Nd) (nk : Nat) (a : Option Addr) (cap : Nat) (w : World) (ht : n.val.text.size ≤ 1000000) (hk0 : n.kind = 0) :
    Calls Tryz.prog 73 #[.agg (n.cells (.slice a nk cap))] w fun e w' => e = .returned (.bool (hasB n noText n.val zeroF && (decide (nk = 0) && litB n.val))) ∧ Below w.heap.size w w' := by
  have HH := hide (fun w => nhas_val n (.slice a nk cap) noText n.val zeroF w)
  have HL := hide (fun w => isLiteral_val n.val w ht)
  have HN0 := hide (cells_new w ndT (n.cells (.slice a nk cap)))
  obtain ⟨x0, x1, x18⟩ := nd_x (unhide HN0)
  obtain ⟨rn, rv, rf⟩ := nd_r (unhide HN0)
  have RN := hide rn
  have RV := hide rv
  have RF := hide rf
  clear rn rv rf
  rw [hk0] at x0
  clear hk0
  generalize hb : hasB n noText n.val zeroF = b at HH ⊢
  clear hb
  generalize hl : litB n.val = l at HL ⊢
  clear hl
  rw [show zeroF.cells = #[.string ⟨#[]⟩, .string ⟨#[]⟩, .int .i64 0, .int .i64 0, .bool false, .bool false, .int .i64 0, .int .i64 0, .bool false, .bool false, .bool false] from rfl] at HH
  have zc : (n.cells (.slice a nk cap)).size = 19 := rfl
  have zv : n.val.cells.size = 5 := rfl
  have zf : n.ref.cells.size = 11 := rfl
  have HX : Hid (∀ w', Below (w.alloc (.cells (n.cells (.slice a nk cap)) ndT)).heap.size (w.alloc (.cells (n.cells (.slice a nk cap)) ndT)) w' → w'.cell? ⟨w.heap.size, 1, none⟩ = some (.string n.op) ∧ w'.cell? ⟨w.heap.size, 18, none⟩ = some (.slice a nk cap) ∧ w'.cell? ⟨w.heap.size, 2, none⟩ = some (.int .i64 n.val.kind) ∧ w'.cell? ⟨w.heap.size, 3, none⟩ = some (.int .i64 n.val.num) ∧ w'.cell? ⟨w.heap.size, 4, none⟩ = some (.string n.val.text) ∧ w'.cell? ⟨w.heap.size, 5, none⟩ = some (.bool n.val.tr) ∧ w'.cell? ⟨w.heap.size, 6, none⟩ = some (.int .i64 n.val.fail)) := hide (fun w' hb => by
    have hc := cells_nx (unhide HN0) hb
    exact ⟨(nd_x hc).2.1, (nd_x hc).2.2, nd_v hc⟩)
  obtain ⟨x2, x3, x4, x5, x6⟩ := nd_v (unhide HN0)
  unfold Vl.cells at HH HL
  clear HN0 RV RF
  generalize hcs : n.cells (.slice a nk cap) = cs at *
  clear hcs zv zf
  have IN : Hid ((Tryz.prog.info? 55).map (·.size) = some cs.toList.length) := hide (by rw [infoNs, Array.length_toList, zc])
  cases b
  · go_enter Tryz.func73, Tryz.ntmps73
    go_wp2_with (refine wpList_load_mid rfl 55 _ rfl w.heap.size 0 rfl cs.toList _ (unhide RN) Tryz.underlying55 rfl (unhide IN) ?_)
    refine (unhide HH _).mono ?_
    rintro e w1 ⟨rfl, b1⟩
    have HB := hide (below_nx (below_al w _) b1)
    obtain ⟨y1, y18, y2, y3, y4, y5, y6⟩ := unhide HX w1 b1
    clear b1 x0 x1 x18 x2 x3 x4 x5 x6
    go_wp2
    go_ret
    exact ⟨rfl, unhide HB⟩
  by_cases hk : nk = 0
  · have hki : (nk : Int) = 0 := by omega
    rw [show decide (nk = 0) = true from decide_eq_true hk]
    clear hk
    go_enter Tryz.func73, Tryz.ntmps73
    go_wp2_with (refine wpList_load_mid rfl 55 _ rfl w.heap.size 0 rfl cs.toList _ (unhide RN) Tryz.underlying55 rfl (unhide IN) ?_)
    refine (unhide HH _).mono ?_
    rintro e w1 ⟨rfl, b1⟩
    have HB := hide (below_nx (below_al w _) b1)
    obtain ⟨y1, y18, y2, y3, y4, y5, y6⟩ := unhide HX w1 b1
    clear b1 x0 x1 x18 x2 x3 x4 x5 x6
    go_wp2_with fail
    refine (unhide HL _).mono ?_
    rintro e w2 ⟨rfl, b2⟩
    replace HB := hide (below_nx (unhide HB) b2)
    clear b2
    go_wp2
    go_ret
    exact ⟨by simp, unhide HB⟩
  · have hki : ¬ (nk : Int) = 0 := by omega
    have hkb : ((nk : Int) == 0) = false := by simpa using hki
    rw [show decide (nk = 0) = false from decide_eq_false hk]
    clear hk
    go_enter Tryz.func73, Tryz.ntmps73
    go_wp2_with (refine wpList_load_mid rfl 55 _ rfl w.heap.size 0 rfl cs.toList _ (unhide RN) Tryz.underlying55 rfl (unhide IN) ?_)
    refine (unhide HH _).mono ?_
    rintro e w1 ⟨rfl, b1⟩
    have HB := hide (below_nx (below_al w _) b1)
    obtain ⟨y1, y18, y2, y3, y4, y5, y6⟩ := unhide HX w1 b1
    clear b1 x0 x1 x18 x2 x3 x4 x5 x6
    go_wp2
    go_ret
    exact ⟨rfl, unhide HB⟩
set_option maxRecDepth 100000 in
set_option maxHeartbeats 8000000 in
theorem nsound1 (n : Nd) (nk : Nat) (a : Option Addr) (cap : Nat) (w : World) (hk0 : n.kind = 1) :
    Calls Tryz.prog 73 #[.agg (n.cells (.slice a nk cap))] w fun e w' => e = .returned (.bool (hasB n noText zVl n.ref && (decide (nk = 0) && goodF n.ref))) ∧ Below w.heap.size w w' := by
  have HH := hide (fun w => nhas_val n (.slice a nk cap) noText zVl n.ref w)
  have HL := hide (fun w => fullGood_val n.ref w)
  have HN0 := hide (cells_new w ndT (n.cells (.slice a nk cap)))
  obtain ⟨x0, x1, x18⟩ := nd_x (unhide HN0)
  obtain ⟨rn, rv, rf⟩ := nd_r (unhide HN0)
  have RN := hide rn
  have RV := hide rv
  have RF := hide rf
  clear rn rv rf
  rw [hk0] at x0
  clear hk0
  generalize hb : hasB n noText zVl n.ref = b at HH ⊢
  clear hb
  generalize hl : goodF n.ref = l at HL ⊢
  clear hl
  rw [show zVl.cells = #[.int .i64 0, .int .i64 0, .string ⟨#[]⟩, .bool false, .int .i64 0] from rfl] at HH
  have zc : (n.cells (.slice a nk cap)).size = 19 := rfl
  have zv : n.val.cells.size = 5 := rfl
  have zf : n.ref.cells.size = 11 := rfl
  have HX : Hid (∀ w', Below (w.alloc (.cells (n.cells (.slice a nk cap)) ndT)).heap.size (w.alloc (.cells (n.cells (.slice a nk cap)) ndT)) w' → w'.cell? ⟨w.heap.size, 1, none⟩ = some (.string n.op) ∧ w'.cell? ⟨w.heap.size, 18, none⟩ = some (.slice a nk cap) ∧ w'.cell? ⟨w.heap.size, 7, none⟩ = some (.string n.ref.book) ∧ w'.cell? ⟨w.heap.size, 8, none⟩ = some (.string n.ref.sheet) ∧ w'.cell? ⟨w.heap.size, 9, none⟩ = some (.int .i64 n.ref.a.col) ∧ w'.cell? ⟨w.heap.size, 10, none⟩ = some (.int .i64 n.ref.a.row) ∧ w'.cell? ⟨w.heap.size, 11, none⟩ = some (.bool n.ref.a.fc) ∧ w'.cell? ⟨w.heap.size, 12, none⟩ = some (.bool n.ref.a.fr) ∧ w'.cell? ⟨w.heap.size, 13, none⟩ = some (.int .i64 n.ref.b.col) ∧ w'.cell? ⟨w.heap.size, 14, none⟩ = some (.int .i64 n.ref.b.row) ∧ w'.cell? ⟨w.heap.size, 15, none⟩ = some (.bool n.ref.b.fc) ∧ w'.cell? ⟨w.heap.size, 16, none⟩ = some (.bool n.ref.b.fr) ∧ w'.cell? ⟨w.heap.size, 17, none⟩ = some (.bool n.ref.wide)) := hide (fun w' hb => by
    have hc := cells_nx (unhide HN0) hb
    exact ⟨(nd_x hc).2.1, (nd_x hc).2.2, nd_f hc⟩)
  obtain ⟨x7, x8, x9, x10, x11, x12, x13, x14, x15, x16, x17⟩ := nd_f (unhide HN0)
  unfold Fl.cells at HH HL
  clear HN0 RV RF
  generalize hcs : n.cells (.slice a nk cap) = cs at *
  clear hcs zv zf
  have IN : Hid ((Tryz.prog.info? 55).map (·.size) = some cs.toList.length) := hide (by rw [infoNs, Array.length_toList, zc])
  cases b
  · go_enter Tryz.func73, Tryz.ntmps73
    go_wp2_with (refine wpList_load_mid rfl 55 _ rfl w.heap.size 0 rfl cs.toList _ (unhide RN) Tryz.underlying55 rfl (unhide IN) ?_)
    refine (unhide HH _).mono ?_
    rintro e w1 ⟨rfl, b1⟩
    have HB := hide (below_nx (below_al w _) b1)
    obtain ⟨y1, y18, y7, y8, y9, y10, y11, y12, y13, y14, y15, y16, y17⟩ := unhide HX w1 b1
    clear b1 x0 x1 x18 x7 x8 x9 x10 x11 x12 x13 x14 x15 x16 x17
    go_wp2
    go_ret
    exact ⟨rfl, unhide HB⟩
  by_cases hk : nk = 0
  · have hki : (nk : Int) = 0 := by omega
    rw [show decide (nk = 0) = true from decide_eq_true hk]
    clear hk
    go_enter Tryz.func73, Tryz.ntmps73
    go_wp2_with (refine wpList_load_mid rfl 55 _ rfl w.heap.size 0 rfl cs.toList _ (unhide RN) Tryz.underlying55 rfl (unhide IN) ?_)
    refine (unhide HH _).mono ?_
    rintro e w1 ⟨rfl, b1⟩
    have HB := hide (below_nx (below_al w _) b1)
    obtain ⟨y1, y18, y7, y8, y9, y10, y11, y12, y13, y14, y15, y16, y17⟩ := unhide HX w1 b1
    clear b1 x0 x1 x18 x7 x8 x9 x10 x11 x12 x13 x14 x15 x16 x17
    go_wp2_with fail
    refine (unhide HL _).mono ?_
    rintro e w2 ⟨rfl, b2⟩
    replace HB := hide (below_nx (unhide HB) b2)
    clear b2
    go_wp2
    go_ret
    exact ⟨by simp, unhide HB⟩
  · have hki : ¬ (nk : Int) = 0 := by omega
    have hkb : ((nk : Int) == 0) = false := by simpa using hki
    rw [show decide (nk = 0) = false from decide_eq_false hk]
    clear hk
    go_enter Tryz.func73, Tryz.ntmps73
    go_wp2_with (refine wpList_load_mid rfl 55 _ rfl w.heap.size 0 rfl cs.toList _ (unhide RN) Tryz.underlying55 rfl (unhide IN) ?_)
    refine (unhide HH _).mono ?_
    rintro e w1 ⟨rfl, b1⟩
    have HB := hide (below_nx (below_al w _) b1)
    obtain ⟨y1, y18, y7, y8, y9, y10, y11, y12, y13, y14, y15, y16, y17⟩ := unhide HX w1 b1
    clear b1 x0 x1 x18 x7 x8 x9 x10 x11 x12 x13 x14 x15 x16 x17
    go_wp2
    go_ret
    exact ⟨rfl, unhide HB⟩
set_option maxRecDepth 100000 in
set_option maxHeartbeats 8000000 in
theorem nsound2 (n : Nd) (nk : Nat) (a : Option Addr) (cap : Nat) (w : World) (hk0 : n.kind = 2) :
    Calls Tryz.prog 73 #[.agg (n.cells (.slice a nk cap))] w fun e w' => e = .returned (.bool (hasB n noText zVl zeroF && decide (nk = 1))) ∧ Below w.heap.size w w' := by
  have HH := hide (fun w => nhas_val n (.slice a nk cap) noText zVl zeroF w)
  have HN0 := hide (cells_new w ndT (n.cells (.slice a nk cap)))
  obtain ⟨x0, x1, x18⟩ := nd_x (unhide HN0)
  obtain ⟨rn, rv, rf⟩ := nd_r (unhide HN0)
  have RN := hide rn
  have RV := hide rv
  have RF := hide rf
  clear rn rv rf
  rw [hk0] at x0
  clear hk0
  generalize hb : hasB n noText zVl zeroF = b at HH ⊢
  clear hb
  rw [show zVl.cells = #[.int .i64 0, .int .i64 0, .string ⟨#[]⟩, .bool false, .int .i64 0] from rfl] at HH
  rw [show zeroF.cells = #[.string ⟨#[]⟩, .string ⟨#[]⟩, .int .i64 0, .int .i64 0, .bool false, .bool false, .int .i64 0, .int .i64 0, .bool false, .bool false, .bool false] from rfl] at HH
  have zc : (n.cells (.slice a nk cap)).size = 19 := rfl
  have zv : n.val.cells.size = 5 := rfl
  have zf : n.ref.cells.size = 11 := rfl
  have HX : Hid (∀ w', Below (w.alloc (.cells (n.cells (.slice a nk cap)) ndT)).heap.size (w.alloc (.cells (n.cells (.slice a nk cap)) ndT)) w' → w'.cell? ⟨w.heap.size, 1, none⟩ = some (.string n.op) ∧ w'.cell? ⟨w.heap.size, 18, none⟩ = some (.slice a nk cap)) := hide (fun w' hb => by
    have hc := cells_nx (unhide HN0) hb
    exact ⟨(nd_x hc).2.1, (nd_x hc).2.2⟩)
  clear HN0 RV RF
  generalize hcs : n.cells (.slice a nk cap) = cs at *
  clear hcs zv zf
  have IN : Hid ((Tryz.prog.info? 55).map (·.size) = some cs.toList.length) := hide (by rw [infoNs, Array.length_toList, zc])
  cases b
  · go_enter Tryz.func73, Tryz.ntmps73
    go_wp2_with (refine wpList_load_mid rfl 55 _ rfl w.heap.size 0 rfl cs.toList _ (unhide RN) Tryz.underlying55 rfl (unhide IN) ?_)
    refine (unhide HH _).mono ?_
    rintro e w1 ⟨rfl, b1⟩
    have HB := hide (below_nx (below_al w _) b1)
    obtain ⟨y1, y18⟩ := unhide HX w1 b1
    clear b1 x0 x1 x18
    go_wp2
    go_ret
    exact ⟨rfl, unhide HB⟩
  by_cases hk : nk = 1
  · have hki : (nk : Int) = 1 := by omega
    rw [show decide (nk = 1) = true from decide_eq_true hk]
    clear hk
    go_enter Tryz.func73, Tryz.ntmps73
    go_wp2_with (refine wpList_load_mid rfl 55 _ rfl w.heap.size 0 rfl cs.toList _ (unhide RN) Tryz.underlying55 rfl (unhide IN) ?_)
    refine (unhide HH _).mono ?_
    rintro e w1 ⟨rfl, b1⟩
    have HB := hide (below_nx (below_al w _) b1)
    obtain ⟨y1, y18⟩ := unhide HX w1 b1
    clear b1 x0 x1 x18
    go_wp2
    go_ret
    exact ⟨rfl, unhide HB⟩
  · have hki : ¬ (nk : Int) = 1 := by omega
    have hkb : ((nk : Int) == 1) = false := by simpa using hki
    rw [show decide (nk = 1) = false from decide_eq_false hk]
    clear hk
    go_enter Tryz.func73, Tryz.ntmps73
    go_wp2_with (refine wpList_load_mid rfl 55 _ rfl w.heap.size 0 rfl cs.toList _ (unhide RN) Tryz.underlying55 rfl (unhide IN) ?_)
    refine (unhide HH _).mono ?_
    rintro e w1 ⟨rfl, b1⟩
    have HB := hide (below_nx (below_al w _) b1)
    obtain ⟨y1, y18⟩ := unhide HX w1 b1
    clear b1 x0 x1 x18
    go_wp2
    go_ret
    exact ⟨rfl, unhide HB⟩
set_option maxRecDepth 100000 in
set_option maxHeartbeats 8000000 in
theorem nsound3 (n : Nd) (nk : Nat) (a : Option Addr) (cap : Nat) (w : World) (hk0 : n.kind = 3) :
    Calls Tryz.prog 73 #[.agg (n.cells (.slice a nk cap))] w fun e w' => e = .returned (.bool (hasB n noText zVl zeroF && decide (nk = 1))) ∧ Below w.heap.size w w' := by
  have HH := hide (fun w => nhas_val n (.slice a nk cap) noText zVl zeroF w)
  have HN0 := hide (cells_new w ndT (n.cells (.slice a nk cap)))
  obtain ⟨x0, x1, x18⟩ := nd_x (unhide HN0)
  obtain ⟨rn, rv, rf⟩ := nd_r (unhide HN0)
  have RN := hide rn
  have RV := hide rv
  have RF := hide rf
  clear rn rv rf
  rw [hk0] at x0
  clear hk0
  generalize hb : hasB n noText zVl zeroF = b at HH ⊢
  clear hb
  rw [show zVl.cells = #[.int .i64 0, .int .i64 0, .string ⟨#[]⟩, .bool false, .int .i64 0] from rfl] at HH
  rw [show zeroF.cells = #[.string ⟨#[]⟩, .string ⟨#[]⟩, .int .i64 0, .int .i64 0, .bool false, .bool false, .int .i64 0, .int .i64 0, .bool false, .bool false, .bool false] from rfl] at HH
  have zc : (n.cells (.slice a nk cap)).size = 19 := rfl
  have zv : n.val.cells.size = 5 := rfl
  have zf : n.ref.cells.size = 11 := rfl
  have HX : Hid (∀ w', Below (w.alloc (.cells (n.cells (.slice a nk cap)) ndT)).heap.size (w.alloc (.cells (n.cells (.slice a nk cap)) ndT)) w' → w'.cell? ⟨w.heap.size, 1, none⟩ = some (.string n.op) ∧ w'.cell? ⟨w.heap.size, 18, none⟩ = some (.slice a nk cap)) := hide (fun w' hb => by
    have hc := cells_nx (unhide HN0) hb
    exact ⟨(nd_x hc).2.1, (nd_x hc).2.2⟩)
  clear HN0 RV RF
  generalize hcs : n.cells (.slice a nk cap) = cs at *
  clear hcs zv zf
  have IN : Hid ((Tryz.prog.info? 55).map (·.size) = some cs.toList.length) := hide (by rw [infoNs, Array.length_toList, zc])
  cases b
  · go_enter Tryz.func73, Tryz.ntmps73
    go_wp2_with (refine wpList_load_mid rfl 55 _ rfl w.heap.size 0 rfl cs.toList _ (unhide RN) Tryz.underlying55 rfl (unhide IN) ?_)
    refine (unhide HH _).mono ?_
    rintro e w1 ⟨rfl, b1⟩
    have HB := hide (below_nx (below_al w _) b1)
    obtain ⟨y1, y18⟩ := unhide HX w1 b1
    clear b1 x0 x1 x18
    go_wp2
    go_ret
    exact ⟨rfl, unhide HB⟩
  by_cases hk : nk = 1
  · have hki : (nk : Int) = 1 := by omega
    rw [show decide (nk = 1) = true from decide_eq_true hk]
    clear hk
    go_enter Tryz.func73, Tryz.ntmps73
    go_wp2_with (refine wpList_load_mid rfl 55 _ rfl w.heap.size 0 rfl cs.toList _ (unhide RN) Tryz.underlying55 rfl (unhide IN) ?_)
    refine (unhide HH _).mono ?_
    rintro e w1 ⟨rfl, b1⟩
    have HB := hide (below_nx (below_al w _) b1)
    obtain ⟨y1, y18⟩ := unhide HX w1 b1
    clear b1 x0 x1 x18
    go_wp2
    go_ret
    exact ⟨rfl, unhide HB⟩
  · have hki : ¬ (nk : Int) = 1 := by omega
    have hkb : ((nk : Int) == 1) = false := by simpa using hki
    rw [show decide (nk = 1) = false from decide_eq_false hk]
    clear hk
    go_enter Tryz.func73, Tryz.ntmps73
    go_wp2_with (refine wpList_load_mid rfl 55 _ rfl w.heap.size 0 rfl cs.toList _ (unhide RN) Tryz.underlying55 rfl (unhide IN) ?_)
    refine (unhide HH _).mono ?_
    rintro e w1 ⟨rfl, b1⟩
    have HB := hide (below_nx (below_al w _) b1)
    obtain ⟨y1, y18⟩ := unhide HX w1 b1
    clear b1 x0 x1 x18
    go_wp2
    go_ret
    exact ⟨rfl, unhide HB⟩
set_option maxRecDepth 100000 in
set_option maxHeartbeats 8000000 in
theorem nsound4 (n : Nd) (nk : Nat) (a : Option Addr) (cap : Nat) (w : World) (hk0 : n.kind = 4) :
    Calls Tryz.prog 73 #[.agg (n.cells (.slice a nk cap))] w fun e w' => e = .returned (.bool (hasB n n.op zVl zeroF && (decide (nk = 2) && (bindL n.op.data.toList != 0)))) ∧ Below w.heap.size w w' := by
  have HH := hide (fun w => nhas_val n (.slice a nk cap) n.op zVl zeroF w)
  have HL := hide (fun w => binding_val n.op w)
  have HN0 := hide (cells_new w ndT (n.cells (.slice a nk cap)))
  obtain ⟨x0, x1, x18⟩ := nd_x (unhide HN0)
  obtain ⟨rn, rv, rf⟩ := nd_r (unhide HN0)
  have RN := hide rn
  have RV := hide rv
  have RF := hide rf
  clear rn rv rf
  rw [hk0] at x0
  clear hk0
  generalize hb : hasB n n.op zVl zeroF = b at HH ⊢
  clear hb
  generalize hbd : bindL n.op.data.toList = bd at HL ⊢
  clear hbd
  obtain ⟨l, hq⟩ : ∃ q, (bd != 0) = q := ⟨_, rfl⟩
  have hqi : ((bd : Int) != 0) = l := by
    rw [← hq]
    cases bd with
    | zero => rfl
    | succ m => simp; omega
  rw [hq]
  clear hq
  rw [show zVl.cells = #[.int .i64 0, .int .i64 0, .string ⟨#[]⟩, .bool false, .int .i64 0] from rfl] at HH
  rw [show zeroF.cells = #[.string ⟨#[]⟩, .string ⟨#[]⟩, .int .i64 0, .int .i64 0, .bool false, .bool false, .int .i64 0, .int .i64 0, .bool false, .bool false, .bool false] from rfl] at HH
  have zc : (n.cells (.slice a nk cap)).size = 19 := rfl
  have zv : n.val.cells.size = 5 := rfl
  have zf : n.ref.cells.size = 11 := rfl
  have HX : Hid (∀ w', Below (w.alloc (.cells (n.cells (.slice a nk cap)) ndT)).heap.size (w.alloc (.cells (n.cells (.slice a nk cap)) ndT)) w' → w'.cell? ⟨w.heap.size, 1, none⟩ = some (.string n.op) ∧ w'.cell? ⟨w.heap.size, 18, none⟩ = some (.slice a nk cap)) := hide (fun w' hb => by
    have hc := cells_nx (unhide HN0) hb
    exact ⟨(nd_x hc).2.1, (nd_x hc).2.2⟩)
  clear HN0 RV RF
  generalize hcs : n.cells (.slice a nk cap) = cs at *
  clear hcs zv zf
  have IN : Hid ((Tryz.prog.info? 55).map (·.size) = some cs.toList.length) := hide (by rw [infoNs, Array.length_toList, zc])
  cases b
  · go_enter Tryz.func73, Tryz.ntmps73
    go_wp2_with (refine wpList_load_mid rfl 55 _ rfl w.heap.size 0 rfl cs.toList _ (unhide RN) Tryz.underlying55 rfl (unhide IN) ?_)
    refine (unhide HH _).mono ?_
    rintro e w1 ⟨rfl, b1⟩
    have HB := hide (below_nx (below_al w _) b1)
    obtain ⟨y1, y18⟩ := unhide HX w1 b1
    clear b1 x0 x1 x18
    go_wp2
    go_ret
    exact ⟨rfl, unhide HB⟩
  by_cases hk : nk = 2
  · have hki : (nk : Int) = 2 := by omega
    rw [show decide (nk = 2) = true from decide_eq_true hk]
    clear hk
    go_enter Tryz.func73, Tryz.ntmps73
    go_wp2_with (refine wpList_load_mid rfl 55 _ rfl w.heap.size 0 rfl cs.toList _ (unhide RN) Tryz.underlying55 rfl (unhide IN) ?_)
    refine (unhide HH _).mono ?_
    rintro e w1 ⟨rfl, b1⟩
    have HB := hide (below_nx (below_al w _) b1)
    obtain ⟨y1, y18⟩ := unhide HX w1 b1
    clear b1 x0 x1 x18
    go_wp2_with fail
    refine (unhide HL _).mono ?_
    rintro e w2 ⟨rfl, rfl⟩
    go_wp2
    go_ret
    exact ⟨by simp, unhide HB⟩
  · have hki : ¬ (nk : Int) = 2 := by omega
    have hkb : ((nk : Int) == 2) = false := by simpa using hki
    rw [show decide (nk = 2) = false from decide_eq_false hk]
    clear hk
    go_enter Tryz.func73, Tryz.ntmps73
    go_wp2_with (refine wpList_load_mid rfl 55 _ rfl w.heap.size 0 rfl cs.toList _ (unhide RN) Tryz.underlying55 rfl (unhide IN) ?_)
    refine (unhide HH _).mono ?_
    rintro e w1 ⟨rfl, b1⟩
    have HB := hide (below_nx (below_al w _) b1)
    obtain ⟨y1, y18⟩ := unhide HX w1 b1
    clear b1 x0 x1 x18
    go_wp2
    go_ret
    exact ⟨rfl, unhide HB⟩
set_option maxRecDepth 100000 in
set_option maxHeartbeats 8000000 in
theorem nsound5 (n : Nd) (nk : Nat) (a : Option Addr) (cap : Nat) (w : World) (ho : n.op.size ≤ 1000000) (hk0 : n.kind = 5) :
    Calls Tryz.prog 73 #[.agg (n.cells (.slice a nk cap))] w fun e w' => e = .returned (.bool (hasB n n.op zVl zeroF && (decide (nk ≤ 32) && calledB n.op))) ∧ Below w.heap.size w w' := by
  have HH := hide (fun w => nhas_val n (.slice a nk cap) n.op zVl zeroF w)
  have HL := hide (fun w => isCalled_val n.op w ho)
  have HN0 := hide (cells_new w ndT (n.cells (.slice a nk cap)))
  obtain ⟨x0, x1, x18⟩ := nd_x (unhide HN0)
  obtain ⟨rn, rv, rf⟩ := nd_r (unhide HN0)
  have RN := hide rn
  have RV := hide rv
  have RF := hide rf
  clear rn rv rf
  rw [hk0] at x0
  clear hk0
  generalize hb : hasB n n.op zVl zeroF = b at HH ⊢
  clear hb
  generalize hl : calledB n.op = l at HL ⊢
  clear hl
  rw [show zVl.cells = #[.int .i64 0, .int .i64 0, .string ⟨#[]⟩, .bool false, .int .i64 0] from rfl] at HH
  rw [show zeroF.cells = #[.string ⟨#[]⟩, .string ⟨#[]⟩, .int .i64 0, .int .i64 0, .bool false, .bool false, .int .i64 0, .int .i64 0, .bool false, .bool false, .bool false] from rfl] at HH
  have zc : (n.cells (.slice a nk cap)).size = 19 := rfl
  have zv : n.val.cells.size = 5 := rfl
  have zf : n.ref.cells.size = 11 := rfl
  have HX : Hid (∀ w', Below (w.alloc (.cells (n.cells (.slice a nk cap)) ndT)).heap.size (w.alloc (.cells (n.cells (.slice a nk cap)) ndT)) w' → w'.cell? ⟨w.heap.size, 1, none⟩ = some (.string n.op) ∧ w'.cell? ⟨w.heap.size, 18, none⟩ = some (.slice a nk cap)) := hide (fun w' hb => by
    have hc := cells_nx (unhide HN0) hb
    exact ⟨(nd_x hc).2.1, (nd_x hc).2.2⟩)
  clear HN0 RV RF
  generalize hcs : n.cells (.slice a nk cap) = cs at *
  clear hcs zv zf
  have IN : Hid ((Tryz.prog.info? 55).map (·.size) = some cs.toList.length) := hide (by rw [infoNs, Array.length_toList, zc])
  cases b
  · go_enter Tryz.func73, Tryz.ntmps73
    go_wp2_with (refine wpList_load_mid rfl 55 _ rfl w.heap.size 0 rfl cs.toList _ (unhide RN) Tryz.underlying55 rfl (unhide IN) ?_)
    refine (unhide HH _).mono ?_
    rintro e w1 ⟨rfl, b1⟩
    have HB := hide (below_nx (below_al w _) b1)
    obtain ⟨y1, y18⟩ := unhide HX w1 b1
    clear b1 x0 x1 x18
    go_wp2
    go_ret
    exact ⟨rfl, unhide HB⟩
  by_cases hk : nk ≤ 32
  · have hki : (nk : Int) ≤ 32 := by omega
    rw [show decide (nk ≤ 32) = true from decide_eq_true hk]
    clear hk
    go_enter Tryz.func73, Tryz.ntmps73
    go_wp2_with (refine wpList_load_mid rfl 55 _ rfl w.heap.size 0 rfl cs.toList _ (unhide RN) Tryz.underlying55 rfl (unhide IN) ?_)
    refine (unhide HH _).mono ?_
    rintro e w1 ⟨rfl, b1⟩
    have HB := hide (below_nx (below_al w _) b1)
    obtain ⟨y1, y18⟩ := unhide HX w1 b1
    clear b1 x0 x1 x18
    go_wp2_with fail
    refine (unhide HL _).mono ?_
    rintro e w2 ⟨rfl, b2⟩
    replace HB := hide (below_nx (unhide HB) b2)
    clear b2
    go_wp2
    go_ret
    exact ⟨by simp, unhide HB⟩
  · have hki : ¬ (nk : Int) ≤ 32 := by omega
    rw [show decide (nk ≤ 32) = false from decide_eq_false hk]
    clear hk
    go_enter Tryz.func73, Tryz.ntmps73
    go_wp2_with (refine wpList_load_mid rfl 55 _ rfl w.heap.size 0 rfl cs.toList _ (unhide RN) Tryz.underlying55 rfl (unhide IN) ?_)
    refine (unhide HH _).mono ?_
    rintro e w1 ⟨rfl, b1⟩
    have HB := hide (below_nx (below_al w _) b1)
    obtain ⟨y1, y18⟩ := unhide HX w1 b1
    clear b1 x0 x1 x18
    go_wp2
    go_ret
    exact ⟨rfl, unhide HB⟩
set_option maxRecDepth 100000 in
set_option maxHeartbeats 8000000 in
theorem nsound6 (n : Nd) (nk : Nat) (a : Option Addr) (cap : Nat) (w : World) (hk0 : ¬ (n.kind = 0 ∨ n.kind = 1 ∨ n.kind = 2 ∨ n.kind = 3 ∨ n.kind = 4 ∨ n.kind = 5)) :
    Calls Tryz.prog 73 #[.agg (n.cells (.slice a nk cap))] w fun e w' => e = .returned (.bool false) ∧ Below w.heap.size w w' := by
  simp only [not_or] at hk0
  obtain ⟨k0, k1, k2, k3, k4, k5⟩ := hk0
  obtain ⟨x0, _, _⟩ := nd_x (cells_new w ndT (n.cells (.slice a nk cap)))
  have e0 : (n.kind == 0) = false := by simpa using k0
  have e1 : (n.kind == 1) = false := by simpa using k1
  have e2 : (n.kind == 2) = false := by simpa using k2
  have e3 : (n.kind == 3) = false := by simpa using k3
  have e4 : (n.kind == 4) = false := by simpa using k4
  have e5 : (n.kind == 5) = false := by simpa using k5
  clear k0 k1 k2 k3 k4 k5
  have zc : (n.cells (.slice a nk cap)).size = 19 := rfl
  go_enter Tryz.func73, Tryz.ntmps73
  go_wp2
  go_ret
  exact ⟨rfl, below_al _ _⟩
theorem nsound_val (n : Nd) (a : Option Addr) (cap : Nat) (w : World) (ht : n.val.text.size ≤ 1000000) (ho : n.op.size ≤ 1000000) :
    Calls Tryz.prog 73 #[.agg (n.cells (.slice a n.kids.length cap))] w fun e w' => e = .returned (.bool (soundB n)) ∧ Below w.heap.size w w' := by
  unfold soundB
  by_cases k0 : n.kind = 0
  · rw [if_pos k0]; exact nsound0 n _ a cap w ht k0
  rw [if_neg k0]
  by_cases k1 : n.kind = 1
  · rw [if_pos k1]; exact nsound1 n _ a cap w k1
  rw [if_neg k1]
  by_cases k2 : n.kind = 2
  · rw [if_pos (Or.inl k2)]; exact nsound2 n _ a cap w k2
  by_cases k3 : n.kind = 3
  · rw [if_pos (Or.inr k3)]; exact nsound3 n _ a cap w k3
  rw [if_neg (by omega)]
  by_cases k4 : n.kind = 4
  · rw [if_pos k4]; exact nsound4 n _ a cap w k4
  rw [if_neg k4]
  by_cases k5 : n.kind = 5
  · rw [if_pos k5]; exact nsound5 n _ a cap w ho k5
  rw [if_neg k5]
  exact nsound6 n _ a cap w (by omega)
end Go.Proofs.YtloamahbghjjgaaGreatDoor

namespace Go.Proofs.YtloamahbghjjgaaGreatDoor
open Go.RowKit
set_option maxRecDepth 100000 in
set_option maxHeartbeats 4000000 in
theorem refsOne_val (nd : Nd) (kv : Value) (hkv : kv.oneCell' = true) (w : World) :
    Calls Tryz.prog 69 #[.agg (nd.cells kv)] w fun e w' => e = .returned (.tuple #[.agg nd.ref.cells, .bool (nd.kind == 1)]) ∧ Below w.heap.size w w' := by
  have st := nd_new w nd kv hkv
  have C5 := hide (cells_new w ndT (nd.cells kv))
  have zN : (nd.cells kv).size = 19 := rfl
  obtain ⟨kd, op, vl, ⟨bk, sh, ⟨c1, r1, f1, g1⟩, ⟨c2, r2, f2, g2⟩, wd⟩, ks⟩ := nd
  obtain ⟨v0, v1, v2, v3, v4⟩ := vl
  unfold Nd.cells at st C5 zN ⊢
  unfold Fl.cells
  simp only [] at st C5 zN ⊢
  clear zN
  have HBA := hide (Below.refl w.heap.size w |>.alloc (Nat.le_refl _) (.cells #[.int .i64 kd, .string op, .int .i64 v0, .int .i64 v1, .string v2, .bool v3, .int .i64 v4, .string bk, .string sh, .int .i64 c1, .int .i64 r1, .bool f1, .bool g1, .int .i64 c2, .int .i64 r2, .bool f2, .bool g2, .bool wd, kv] ndT))
  go_enter Tryz.func69, Tryz.ntmps69
  go_upto_region 1 with fail
  clear st
  obtain ⟨p0, p1, p2, p3, p4, p5, p6, p7, p8, p9, p10, p11, p12, p13, p14, p15, p16, p17, p18⟩ := nd_cells (cells_al (unhide C5) (.cells #[.string ⟨#[]⟩, .string ⟨#[]⟩, .int .i64 0, .int .i64 0, .bool false, .bool false, .int .i64 0, .int .i64 0, .bool false, .bool false, .bool false] fuT))
  go_region
  go_wp2
  refine bodyPost_ret (results_c1t rfl _ _ _ _ _ _ rfl (cells_drew (cells_new2 _ _ _ _)) Tryz.underlying52 rfl (by kernel_rfl) (.bool (kd == 1)) rfl) rfl ?_
  exact ⟨rfl, (below_al2 _ _ _).drew⟩
end Go.Proofs.YtloamahbghjjgaaGreatDoor

namespace Go.Proofs.YtloamahbghjjgaaGreatDoor
open Go.RowKit

def tsoundB (nds : List Nd) : Bool := (!nds.isEmpty && decide (nds.length ≤ 256)) && (nds.all soundB && standsB (nds.map (·.kids)))
structure TreeFit (nds : List Nd) : Prop where
  len : nds.length ≤ 1000
  kids : ∀ n ∈ nds, n.kids.length ≤ 1000
  text : ∀ n ∈ nds, n.val.text.size ≤ 1000000
  op : ∀ n ∈ nds, n.op.size ≤ 1000000
set_option maxRecDepth 100000 in
set_option maxHeartbeats 4000000 in
theorem tsound_val (a : Option Addr) (cap : Nat) (nds : List Nd) (w : World) (hn : NodesIn w a nds) (hf : TreeFit nds) :
    Calls Tryz.prog 41 #[.slice a nds.length cap] w fun e w' => e = .returned (.bool (tsoundB nds)) ∧ Below w.heap.size w w' := by
  have HN := hide hn
  have HF := hide hf
  obtain ⟨sb, hsb⟩ : ∃ sb, tsoundB nds = sb := ⟨_, rfl⟩
  have HSB := hide hsb
  rw [hsb]
  have hl := hf.len
  clear hn hf hsb
  obtain ⟨n, hnl⟩ : ∃ n, nds.length = n := ⟨_, rfl⟩
  have HNL := hide hnl
  have HST := hide (fun w2 h => stands_val a cap nds w2 h (unhide HF).len (unhide HF).kids)
  rw [hnl] at hl HST ⊢
  clear hnl
  by_cases h0 : n = 0
  · have HQ : sb = false := by
      rw [← unhide HSB]
      have : nds = [] := List.eq_nil_of_length_eq_zero (by rw [unhide HNL]; exact h0)
      rw [this]; rfl
    subst HQ h0
    go_enter Tryz.func41, Tryz.ntmps41
    go_wp2
    go_ret
    exact ⟨rfl, Below.refl _ _⟩
  have hne : nds.isEmpty = false := by
    cases hq : nds with
    | nil => rw [hq] at HNL; exact absurd (unhide HNL).symm h0
    | cons x l => rfl
  have h0i : ¬ ((n : Int) = 0) := by omega
  by_cases h256 : 256 < n
  · have HQ : sb = false := by
      rw [← unhide HSB]
      unfold tsoundB
      rw [unhide HNL, decide_eq_false (by omega)]
      simp
    have hi : (256 : Int) < (n : Int) := by omega
    subst HQ
    clear h0 h256
    go_enter Tryz.func41, Tryz.ntmps41
    go_wp2
    go_ret
    exact ⟨rfl, Below.refl _ _⟩
  have HQ : Hid (sb = (nds.all soundB && standsB (nds.map (·.kids)))) := hide (by
    rw [← unhide HSB]
    unfold tsoundB
    rw [unhide HNL, decide_eq_true (by omega), hne]
    simp)
  have hi : ¬ (256 : Int) < (n : Int) := by omega
  clear h0 h256 hne
  go_enter Tryz.func41, Tryz.ntmps41
  go_wp2_with fail
  go_loopw [15] (fun v wr => ∃ k : Nat, v = .int .i64 (k : Int) ∧ k ≤ n ∧ Hid ((nds.take k).all soundB = true) ∧ Hid (Below w.heap.size w wr)) (fun v _ => n - (intOf v).toNat)
  case atStart => exact ⟨0, rfl, by omega, hide rfl, hide (Below.refl _ _)⟩
  case round =>
    obtain ⟨k, rfl, hk, HA, HB⟩ := hrel
    by_cases hlt : k < n
    · have hlti : (k : Int) < (n : Int) := by omega
      obtain ⟨nd, hnd⟩ : ∃ nd, nds[k]? = some nd := ⟨nds[k]'(by rw [unhide HNL]; exact hlt), List.getElem?_eq_getElem (by rw [unhide HNL]; exact hlt)⟩
      obtain ⟨g, off, ka, kcap, rfl, hg, hkc, hki, hcells⟩ := node_at (nodesIn_below (unhide HN) (unhide HB)) k nd hnd
      have hmem := List.mem_of_getElem? hnd
      have HS := hide (fun w => nsound_val nd ka kcap w ((unhide HF).text nd hmem) ((unhide HF).op nd hmem))
      have HTK : Hid (nds.take (k + 1) = nds.take k ++ [nd]) := hide (by
        rw [List.take_add_one, hnd]; rfl)
      have HCR := hide (nd_range hcells)
      have st := nd_new wr nd (.slice ka nd.kids.length kcap) rfl
      have C5 := hide (range_cells0 (cells_new wr ndT (nd.cells (.slice ka nd.kids.length kcap))))
      have zN : (nd.cells (.slice ka nd.kids.length kcap)).size = 19 := rfl
      have HMM := hide hmem
      obtain ⟨cs, hcs⟩ : ∃ cs, nd.cells (.slice ka nd.kids.length kcap) = cs := ⟨_, rfl⟩
      rw [hcs] at HS HCR st C5 zN
      have HIN : Hid ((Tryz.prog.info? 55).map (·.size) = some cs.toList.length) := hide (by rw [infoNs, Array.length_toList, zN])
      obtain ⟨b, hb⟩ : ∃ b, soundB nd = b := ⟨_, rfl⟩
      have HBD := hide hb
      rw [hb] at HS
      clear hb hcs hcells hnd hki hmem
      go_wp2_with (first | (refine wpList_load_mid rfl 55 _ rfl g (off + k * 19) rfl cs.toList _ (unhide HCR) Tryz.underlying55 rfl (unhide HIN) ?_) | (refine wpList_load_mid rfl 55 _ rfl wr.heap.size 0 rfl cs.toList _ (unhide C5) Tryz.underlying55 rfl (unhide HIN) ?_))
      refine (unhide HS _).mono ?_
      rintro e w2 ⟨rfl, b2⟩
      have HB2 := hide (below_nx (below_nx (unhide HB) (below_al wr (.cells cs 55))) b2)
      clear b2 st
      cases b with
      | true =>
        have HA2 : Hid ((nds.take (k + 1)).all soundB = true) := hide (by
          rw [unhide HTK, List.all_append, unhide HA]
          simp [unhide HBD])
        go_wp2
        go_roundw
        case rel => exact ⟨k + 1, by go_num, by omega, HA2, HB2⟩
        case measure => simp [intOf]; omega
      | false =>
        have HQ2 : Hid (sb = false) := hide (by
          rw [unhide HQ]
          have : nds.all soundB = false := by
            rw [List.all_eq_false]
            exact ⟨nd, unhide HMM, by rw [unhide HBD]; simp⟩
          rw [this]; rfl)
        go_wp2
        go_ret
        exact ⟨by rw [unhide HQ2]; rfl, unhide HB2⟩
    · have hlti : ¬ (k : Int) < (n : Int) := by omega
      have HQ2 : Hid (sb = standsB (nds.map (·.kids))) := hide (by
        have h1 := unhide HA
        rw [List.take_of_length_le (by rw [unhide HNL]; omega)] at h1
        rw [unhide HQ, h1]; simp)
      have HS := hide (unhide HST wr (nodesIn_below (unhide HN) (unhide HB)))
      rw [← unhide HQ2] at HS
      go_wp2_with fail
      refine (unhide HS).mono ?_
      rintro e w2 ⟨rfl, b2⟩
      have HB2 := hide (below_nx (unhide HB) b2)
      clear b2
      go_wp2
      go_ret
      exact ⟨rfl, unhide HB2⟩
end Go.Proofs.YtloamahbghjjgaaGreatDoor

namespace Go.Proofs.YtloamahbghjjgaaGreatDoor
open Go.RowKit Go.Shelf
attribute [local go_sem] Oper.semAt_some

theorem wpListIn_load_mid {F : Fence} {n : Nat} {P : Program} {ops : Array Oper} {rest : List Oper} {op : Oper} {a : Act} {w : World} {Q : Exit → Act → World → Prop} (hgd : op.guard = none) (ty : TypeId) (x : Operand) (ho : op.op = .load ty x)
    (b o : Nat) (hx : a.eval x = .pointer (some ⟨b, o, none⟩)) (cs : List Value) (d : TypeDesc) (hc : w.rangeAt b o cs)
    (hu : P.underlying ty = some d) (hd : d.isRow = true) (hi : (P.info? ty).map (·.size) = some cs.length)
    (h : wpListIn F n P ops Q rest (a.put op.dst (.agg cs.toArray)) w) : wpListIn F n P ops Q (op :: rest) a w := by
  refine wpListIn_plain hgd fun K hK => ?_
  unfold Oper.wpIn
  refine ⟨?_, ?_⟩
  · simp [Oper.about, ho]
  · rw [Oper.semAt_plain F _ _ (by rw [ho]; intro c hc'; cases hc')]
    simp only [execOp, ho, hx, Instr.loadAt, Instr.sureAddr, Sem.run_bind, Sem.run_pure, Result.andThen_ok, run_loadVar_mid w b o ty cs d hc hu hd hi]
    exact hK _ _ h

def dnl : Nat → List Nat
  | 0 => []
  | n + 1 => n :: dnl n
theorem dnl_len : ∀ n, (dnl n).length = n
  | 0 => rfl
  | n + 1 => by rw [dnl, List.length_cons, dnl_len n]
def KpB (n₀ Bs : Nat) (t : TypeId) (W W' : World) : Prop := Below n₀ W W' ∧ ∀ v, Boxed W Bs t v → Boxed W' Bs t v
theorem kpB_t {n₀ Bs : Nat} {t : TypeId} {A B C : World} (h1 : KpB n₀ Bs t A B) (h2 : KpB n₀ Bs t B C) : KpB n₀ Bs t A C := ⟨h1.1.trans h2.1, fun v h => h2.2 v (h1.2 v h)⟩
set_option maxRecDepth 100000 in
set_option maxHeartbeats 2000000 in
theorem back1_in (F : Fence) (n : Nat) (h99 : F.fn 122) (hro : F.round = none) (hn : 1 ≤ n) (l Bs n₀ b off len cap : Nat) (cf : Nat → List Value) (hreach : len ≤ 100000) (hb : b < n₀) (hcl : ∀ p, p < len → (cf p).length = 19)
    (J Jx : List (Fin len) → World → Prop)
    (hY : ∀ pre x W, J pre W → pre.length < len → YieldAt F (n - 1) Tryz.prog l #[.int .i64 (x.1 : Int), .agg (cf x.1).toArray] W fun e W' =>
      (e = .returned (.bool true) ∧ J (pre ++ [x]) W' ∧ KpB n₀ Bs 23 W W') ∨ (e = .returned (.bool false) ∧ Jx (pre ++ [x]) W'))
    (W : World) (hBs : Boxed W Bs 23 (.slice (some ⟨b, off, none⟩) len cap)) (hc : ∀ p, p < len → W.rangeAt b (off + p * 19) (cf p)) (h0 : J [] W) :
    CallsIn F n Tryz.prog 122 #[.func (.yield l) #[] #[], .pointer (some ⟨Bs, 0, none⟩)] W fun e W' => (∃ v, e = .returned v) ∧
      ((∃ ys : List (Fin len), ys.map (·.1) = dnl len ∧ J ys W') ∨ (∃ pre : List (Fin len), True ∧ Jx pre W')) := by
  refine callsIn_of_wp Tryz.func122 rfl h99 ?_ hro
  simp only [Tryz.ntmps122, List.size_toArray, List.length_cons, List.length_nil, Nat.reduceAdd, Nat.reduceSub, Array.replicate_succ, Array.replicate_zero, List.push_toArray, List.append_toArray, List.nil_append, List.cons_append]
  have hBc := hBs.cell
  gi_wp2
  gi_loopw [3] (fun i wr => ∃ (m : Nat) (pre : List (Fin len)), m ≤ len ∧ i = .int .i64 ((m : Int) - 1) ∧ pre.map (·.1) ++ dnl m = dnl len ∧ J pre wr ∧ KpB n₀ Bs 23 W wr)
    (fun i _ => (intOf i + 1).toNat)
  case atStart => exact ⟨len, [], Nat.le_refl _, rfl, by simp, h0, Below.refl _ _, fun v h => h⟩
  case round =>
    obtain ⟨m, pre, hm, rfl, hp, hJs, hnx⟩ := hrel
    have hpl : pre.length + m = len := by
      have := congrArg List.length hp
      rwa [List.length_append, List.length_map, dnl_len, dnl_len] at this
    cases m with
    | zero =>
      gi_wp2
      go_end0
      exact ⟨⟨_, rfl⟩, .inl ⟨pre, by simpa [dnl] using hp, hJs⟩⟩
    | succ p =>
      have hpl' : p < len := by omega
      obtain ⟨fn, tmps, assign, body, hy, hR⟩ := hY pre ⟨p, hpl'⟩ wr hJs (by omega)
      dsimp only at hy
      have hbx := (hnx.2 _ hBs).cell
      have hi1 : (((p + 1 : Nat) : Int) - 1) = (p : Int) := by omega
      rw [hi1]
      have hrg : wr.rangeAt b (off + p * 19) (cf p) := fun j v hj => (hnx.1.cell (p := ⟨b, off + p * 19 + j, none⟩) hb).trans (hc p hpl' j v hj)
      have hsz : (Tryz.prog.info? 55).map (·.size) = some (cf p).length := by rw [infoNs, hcl p hpl']
      gi_wp2_with (refine wpListIn_load_mid rfl 55 _ rfl b (off + p * 19) rfl (cf p) _ hrg Tryz.underlying55 rfl hsz ?_)
      refine hR.mono ?_
      rintro e W3 (⟨rfl, hJ3, hk3⟩ | ⟨rfl, hJx3⟩)
      · gi_wp2
        go_roundw
        case rel => exact ⟨p, pre ++ [⟨p, hpl'⟩], by omega, by simp, by rw [← hp]; simp [dnl], hJ3, kpB_t hnx hk3⟩
        case measure => simp [intOf]
      · gi_wp2
        refine bodyPost_ret (results_none rfl _ _ _) rfl ?_
        exact ⟨⟨_, rfl⟩, .inr ⟨_, trivial, hJx3⟩⟩
set_option maxHeartbeats 1000000 in
theorem back_in (F : Fence) (n : Nat) (h55 : F.fn 75) (hro : F.round = none) (a : Option Addr) (len cap : Nat) (w : World) :
    CallsIn F n Tryz.prog 75 #[.slice a len cap] w fun e w' => e = .returned (.func (.func 122) #[] #[.pointer (some ⟨w.heap.size, 0, none⟩)]) ∧ w' = w.alloc (.cells #[.slice a len cap] 23) := by
  refine callsIn_of_wp Tryz.func75 rfl h55 ?_ hro
  simp only [Tryz.ntmps75, List.size_toArray, List.length_cons, List.length_nil, Nat.reduceAdd, Nat.reduceSub, Array.replicate_succ, Array.replicate_zero, List.push_toArray, List.append_toArray, List.nil_append, List.cons_append]
  gi_wp2
  go_ret
  exact ⟨rfl, rfl⟩
theorem back_stops (F : Fence) (n : Nat) (h99 : F.fn 122) (hro : F.round = none) (hn : 1 ≤ n) (Bs n₀ b off len cap : Nat) (cf : Nat → List Value) (hreach : len ≤ 100000) (hb : b < n₀) (hcl : ∀ p, p < len → (cf p).length = 19) (w : World) (hn₀ : n₀ ≤ w.heap.size)
    (hBs : Boxed w Bs 23 (.slice (some ⟨b, off, none⟩) len cap)) (hc : ∀ p, p < len → w.rangeAt b (off + p * 19) (cf p)) :
    SeqStopsK F n Tryz.prog 122 #[.pointer (some ⟨Bs, 0, none⟩)] (fun x : Fin len => #[Value.int .i64 (x.1 : Int), .agg (cf x.1).toArray]) (KpB n₀ Bs 23) (fun ys => ys.map (·.1) = dnl len) (fun _ => True) len w := fun l J Jx W hW _ _ hY h0 =>
  back1_in F n h99 hro hn l Bs n₀ b off len cap cf hreach hb hcl J Jx hY W ((hW.block Bs hBs.lt).trans hBs) (fun p hp j v hj => ((hW.mono hn₀).cell (p := ⟨b, off + p * 19 + j, none⟩) hb).trans (hc p hp j v hj)) h0
end Go.Proofs.YtloamahbghjjgaaGreatDoor

namespace Go.Proofs.YtloamahbghjjgaaGreatDoor
open Go.RowKit

def topI : List Int → Int
  | [] => 0
  | x :: l => l.foldl max x
theorem topI_snoc (l : List Int) (h : l ≠ []) (x : Int) : topI (l ++ [x]) = max (topI l) x := by
  cases l with
  | nil => exact absurd rfl h
  | cons y l => simp [topI]
set_option maxRecDepth 100000 in
set_option maxHeartbeats 2000000 in
theorem smax_val (a : Option Addr) (cap : Nat) (xs : List Int) (w : World) (ha : IntsIn w a xs) (hx : xs.length ≤ 100000) (h0 : 0 < xs.length) :
    Calls Tryz.prog 76 #[.slice a xs.length cap] w fun e w' => e = .returned (.int .i64 (topI xs)) ∧ Below w.heap.size w w' := by
  have HA := hide ha
  clear ha
  obtain ⟨n, hn⟩ : ∃ n, xs.length = n := ⟨_, rfl⟩
  have HN := hide hn
  rw [hn] at hx h0 ⊢
  have hni : ¬ (n : Int) < 1 := by omega
  have hni2 : (1 : Int) ≤ (n : Int) := by omega
  obtain ⟨g1, o1, ea, x1⟩ := ints_at (unhide HA) 0 (by rw [hn]; exact h0)
  have HX0 : Hid (topI (xs.take 1) = xs.getD 0 0) := hide (by
    rw [List.take_succ_eq_append_getElem (by rw [hn]; exact h0), List.getD_eq_getElem?_getD, List.getElem?_eq_getElem (by rw [hn]; exact h0)]
    rfl)
  clear hn
  subst ea
  rw [Nat.add_zero] at x1
  generalize xs.getD 0 0 = p0 at x1 HX0
  go_enter Tryz.func76, Tryz.ntmps76
  go_wp2_with fail
  go_loopw [3, 4] (fun m v wr => ∃ k : Nat, v = .int .i64 (k : Int) ∧ 1 ≤ k ∧ k ≤ n ∧ m = .int .i64 (topI (xs.take k)) ∧ Hid (Below w.heap.size w wr)) (fun _ v _ => n - (intOf v).toNat)
  case atStart => exact ⟨1, rfl, by omega, by omega, by rw [unhide HX0], hide (Below.refl _ _)⟩
  case round =>
    obtain ⟨k, rfl, h1k, hk, rfl, HBW⟩ := hrel
    by_cases hlt : k < n
    · have hlti : (k : Int) < (n : Int) := by omega
      obtain ⟨g2, o2, e2, x2⟩ := ints_at (ints_below (unhide HA) (unhide HBW)) k (by rw [unhide HN]; exact hlt)
      cases e2
      have HT : Hid (topI (xs.take (k + 1)) = max (topI (xs.take k)) (xs.getD k 0)) := hide (by
        rw [List.take_succ_eq_append_getElem (by rw [unhide HN]; exact hlt), List.getD_eq_getElem?_getD, List.getElem?_eq_getElem (by rw [unhide HN]; exact hlt)]
        refine topI_snoc _ (fun e => ?_) _
        have := congrArg List.length e
        rw [List.length_take, unhide HN] at this
        simp at this; omega)
      generalize xs.getD k 0 = q at x2 HT
      generalize topI (xs.take k) = p at HT ⊢
      have HBD := HBW
      go_wp2_with fail
      go_roundw
      case rel => exact ⟨k + 1, by go_num, by omega, by omega, by rw [unhide HT], HBD⟩
      case measure => simp [intOf]; omega
    · have hlti : ¬ (k : Int) < (n : Int) := by omega
      obtain rfl : k = n := by omega
      rw [List.take_of_length_le (by rw [unhide HN]; omega)]
      go_wp2
      go_ret
      exact ⟨rfl, unhide HBW⟩
end Go.Proofs.YtloamahbghjjgaaGreatDoor
