/- The contracts of the program's isLiteral, isCalled, and of a node's sound. -/
import Derived.BigQuiet
import Derived.BigRegion
import Derived.Deep.AppendLies
import Derived.Deep.CutBlock
import Derived.Deep.CutRange
import Derived.Deep.DeepFit
import Derived.Deep.MidRow
import Derived.Deep.QuietTactic
import Derived.Deep.RegionHeld3
import Derived.Deep.RegionLaw
import Derived.Deep.RegionWith
import Derived.Deep.WholeRow
import Derived.Laws.Bits64b
import Derived.Laws.CopyOwn
import Derived.Laws.IdiomStrings
import Derived.Laws.OwnMore
import Derived.Laws.Rows
import Derived.Laws.StructEq
import Derived.Laws.Tables
import Derived.Lib.Atoi
import Derived.Lib.AtoiErrMem
import Derived.Lib.BitFns
import Derived.Lib.CutLaws
import Derived.Lib.IndexMore
import Derived.Lib.ItoaMem
import Derived.Lib.ItoaNum
import Derived.Lib.Join
import Derived.Lib.Replace
import Derived.Lib.Walk
import Derived.Shelf.Bits.Mul64
import Derived.Shelf.LaysM
import Derived.Shelf.Small.Bits
import Derived.Shelf.Small.Strs
import Derived.Shelf.Small.Utf8
import Derived.Shelf.Small.Wraps
import Derived.Shelf.Strconv.Atoi
import Derived.Shelf.Strconv.Itoa0
import Derived.Shelf.Strconv.Itoa1
import Derived.Shelf.Strconv.Itoa2
import Derived.Shelf.Strconv.Itoa3
import Derived.Shelf.Strings.AsciiSet
import Derived.Shelf.Strings.Builder1
import Derived.Shelf.Strings.Builder2
import Derived.Shelf.Strings.Count
import Derived.Shelf.Strings.Cut
import Derived.Shelf.Strings.OnBuilder
import Derived.Shelf.Strings.Prefix
import Derived.Shelf.Strings.Replace
import Derived.Shelf.Strings.Runes
import Derived.Shelf.Strings.Search1
import Derived.Shelf.Strings.Search2
import Derived.Shelf.Strings.Search3
import Derived.Shelf.Strings.Shaped
import Derived.Shelf.Strings.Split
import Derived.Shelf.Strings.SplitShaped
import Derived.Shelf.Strings.Trim
import Derived.Shelf.Unicode.DecodeSlow
import Derived.Test.YtloamahbghjjgaaGreatDoorProg
import Derived.Test.YtloamahbghjjgaaGreatDoorRows
import Derived.WalkKit
import Derived.WalkLawsBesides
import Derived.WalkSmall
import Derived.WalkSpells
import Derived.Test.YtloamahbghjjgaaGreatDoorZgAA
import Derived.Test.YtloamahbghjjgaaGreatDoorZgAB
import Derived.Test.YtloamahbghjjgaaGreatDoorZgAC
import Derived.Test.YtloamahbghjjgaaGreatDoorZgAD
import Derived.Test.YtloamahbghjjgaaGreatDoorZgAE
import Derived.Test.YtloamahbghjjgaaGreatDoorZgAF
import Derived.Test.YtloamahbghjjgaaGreatDoorZgAG
import Derived.Test.YtloamahbghjjgaaGreatDoorZgAH
import Derived.Test.YtloamahbghjjgaaGreatDoorZgAI
import Derived.Test.YtloamahbghjjgaaGreatDoorZgAJ
import Derived.Test.YtloamahbghjjgaaGreatDoorZgAK
import Derived.Test.YtloamahbghjjgaaGreatDoorZgAL
import Derived.Test.YtloamahbghjjgaaGreatDoorZgAM
import Derived.Test.YtloamahbghjjgaaGreatDoorZgAN
import Derived.Test.YtloamahbghjjgaaGreatDoorZgAO
import Derived.Test.YtloamahbghjjgaaGreatDoorZgAP
import Derived.Test.YtloamahbghjjgaaGreatDoorZgAQ
namespace Go.Proofs.YtloamahbghjjgaaGreatDoor
open Go.RowKit

def litB (v : Vl) : Bool := vGood v && (v.kind != 0 && decide (0 ≤ v.num))
def calledB (s : ByteArray) : Bool := nameG s.data.toList && ((mapB upC s).toList == s.toList)
set_option maxHeartbeats 2000000 in
theorem isLiteral_val (v : Vl) (w : World) (hs : v.text.size ≤ 1000000) :
    Calls Tryz.prog 118 #[.agg v.cells] w fun e w' => e = .returned (.bool (litB v)) ∧ Below w.heap.size w w' := by
  obtain ⟨V0, V1, V2, V3, V4⟩ := v
  have HG := hide (fun w => good3_val ⟨V0, V1, V2, V3, V4⟩ w hs)
  unfold litB
  obtain ⟨g, hg⟩ : ∃ g, vGood ⟨V0, V1, V2, V3, V4⟩ = g := ⟨_, rfl⟩
  rw [hg] at HG ⊢
  clear hg hs
  unfold Vl.cells at HG ⊢
  simp only [] at HG ⊢
  have HN := hide (cells_new w 46 #[.int .i64 V0, .int .i64 V1, .string V2, .bool V3, .int .i64 V4])
  cases g
  · go_enter Tryz.func118, Tryz.ntmps118
    go_wp2_with fail
    refine (unhide HG _).mono ?_
    rintro e w1 ⟨rfl, b1⟩
    have HB := hide (below_nx (below_al w _) b1)
    obtain ⟨x0, x1, _, _, _⟩ := cells5 (cells_nx (unhide HN) b1)
    clear b1
    go_wp2
    go_ret
    exact ⟨rfl, unhide HB⟩
  by_cases h0 : V0 = 0
  · subst h0
    go_enter Tryz.func118, Tryz.ntmps118
    go_wp2_with fail
    refine (unhide HG _).mono ?_
    rintro e w1 ⟨rfl, b1⟩
    have HB := hide (below_nx (below_al w _) b1)
    obtain ⟨x0, x1, _, _, _⟩ := cells5 (cells_nx (unhide HN) b1)
    clear b1
    go_wp2
    go_ret
    exact ⟨rfl, unhide HB⟩
  have e0 : (V0 != 0) = true := by simpa using h0
  by_cases h1 : 0 ≤ V1
  · have e1 : decide (0 ≤ V1) = true := decide_eq_true h1
    rw [e0, e1]
    go_enter Tryz.func118, Tryz.ntmps118
    go_wp2_with fail
    refine (unhide HG _).mono ?_
    rintro e w1 ⟨rfl, b1⟩
    have HB := hide (below_nx (below_al w _) b1)
    obtain ⟨x0, x1, _, _, _⟩ := cells5 (cells_nx (unhide HN) b1)
    clear b1
    go_wp2
    go_ret
    exact ⟨rfl, unhide HB⟩
  · have e1 : decide (0 ≤ V1) = false := decide_eq_false h1
    rw [e0, e1]
    go_enter Tryz.func118, Tryz.ntmps118
    go_wp2_with fail
    refine (unhide HG _).mono ?_
    rintro e w1 ⟨rfl, b1⟩
    have HB := hide (below_nx (below_al w _) b1)
    obtain ⟨x0, x1, _, _, _⟩ := cells5 (cells_nx (unhide HN) b1)
    clear b1
    go_wp2
    go_ret
    exact ⟨rfl, unhide HB⟩
set_option maxHeartbeats 2000000 in
theorem isCalled_val (s : ByteArray) (w : World) (hs : s.size ≤ 1000000) :
    Calls Tryz.prog 120 #[.string s] w fun e w' => e = .returned (.bool (calledB s)) ∧ Below w.heap.size w w' := by
  have HG := hide (fun w => name_val s w)
  have HU := hide (fun w => upper_val s w hs)
  unfold calledB
  obtain ⟨g, hg⟩ : ∃ g, nameG s.data.toList = g := ⟨_, rfl⟩
  rw [hg] at HG ⊢
  clear hg hs
  cases g
  · go_enter Tryz.func120, Tryz.ntmps120
    go_wp2_with fail
    refine (unhide HG _).mono ?_
    rintro e w1 ⟨rfl, b1⟩
    have HB := hide b1
    clear b1
    go_wp2
    go_ret
    exact ⟨rfl, unhide HB⟩
  · go_enter Tryz.func120, Tryz.ntmps120
    go_wp2_with fail
    refine (unhide HG _).mono ?_
    rintro e w1 ⟨rfl, b1⟩
    have HB := hide b1
    clear b1
    go_wp2_with fail
    refine (unhide HU _).mono ?_
    rintro e w2 ⟨rfl, b2⟩
    replace HB := hide (below_nx (unhide HB) b2)
    clear b2
    go_wp2
    go_ret
    exact ⟨by simp, unhide HB⟩
theorem nd_cells {w : World} {B : Nat} {t : TypeId} {v0 v1 v2 v3 v4 v5 v6 v7 v8 v9 v10 v11 v12 v13 v14 v15 v16 v17 v18 : Value} (h : CellsAt w B t #[v0, v1, v2, v3, v4, v5, v6, v7, v8, v9, v10, v11, v12, v13, v14, v15, v16, v17, v18]) :
    w.cell? ⟨B, 0, none⟩ = some v0 ∧ w.cell? ⟨B, 1, none⟩ = some v1 ∧ w.cell? ⟨B, 2, none⟩ = some v2 ∧ w.cell? ⟨B, 3, none⟩ = some v3 ∧ w.cell? ⟨B, 4, none⟩ = some v4 ∧ w.cell? ⟨B, 5, none⟩ = some v5 ∧ w.cell? ⟨B, 6, none⟩ = some v6 ∧ w.cell? ⟨B, 7, none⟩ = some v7 ∧ w.cell? ⟨B, 8, none⟩ = some v8 ∧ w.cell? ⟨B, 9, none⟩ = some v9 ∧ w.cell? ⟨B, 10, none⟩ = some v10 ∧ w.cell? ⟨B, 11, none⟩ = some v11 ∧ w.cell? ⟨B, 12, none⟩ = some v12 ∧ w.cell? ⟨B, 13, none⟩ = some v13 ∧ w.cell? ⟨B, 14, none⟩ = some v14 ∧ w.cell? ⟨B, 15, none⟩ = some v15 ∧ w.cell? ⟨B, 16, none⟩ = some v16 ∧ w.cell? ⟨B, 17, none⟩ = some v17 ∧ w.cell? ⟨B, 18, none⟩ = some v18 := by
  exact ⟨cells_c h 0 _ rfl, cells_c h 1 _ rfl, cells_c h 2 _ rfl, cells_c h 3 _ rfl, cells_c h 4 _ rfl, cells_c h 5 _ rfl, cells_c h 6 _ rfl, cells_c h 7 _ rfl, cells_c h 8 _ rfl, cells_c h 9 _ rfl, cells_c h 10 _ rfl, cells_c h 11 _ rfl, cells_c h 12 _ rfl, cells_c h 13 _ rfl, cells_c h 14 _ rfl, cells_c h 15 _ rfl, cells_c h 16 _ rfl, cells_c h 17 _ rfl, cells_c h 18 _ rfl⟩
def soundB (n : Nd) : Bool :=
  if n.kind = 0 then hasB n noText n.val zeroF && (decide (n.kids.length = 0) && litB n.val)
  else if n.kind = 1 then hasB n noText zVl n.ref && (decide (n.kids.length = 0) && goodF n.ref)
  else if n.kind = 2 ∨ n.kind = 3 then hasB n noText zVl zeroF && decide (n.kids.length = 1)
  else if n.kind = 4 then hasB n n.op zVl zeroF && (decide (n.kids.length = 2) && (bindL n.op.data.toList != 0))
  else if n.kind = 5 then hasB n n.op zVl zeroF && (decide (n.kids.length ≤ 32) && calledB n.op)
  else false
theorem nd_x {w : World} {B : Nat} {n : Nd} {kv : Value} (h : CellsAt w B ndT (n.cells kv)) :
    w.cell? ⟨B, 0, none⟩ = some (.int .i64 n.kind) ∧ w.cell? ⟨B, 1, none⟩ = some (.string n.op) ∧ w.cell? ⟨B, 18, none⟩ = some kv := ⟨cells_c h 0 _ rfl, cells_c h 1 _ rfl, cells_c h 18 _ rfl⟩
theorem nd_r {w : World} {B : Nat} {n : Nd} {kv : Value} (h : CellsAt w B ndT (n.cells kv)) :
    w.rangeAt B 0 (n.cells kv).toList ∧ w.rangeAt B 2 n.val.cells.toList ∧ w.rangeAt B 7 n.ref.cells.toList := by
  refine ⟨range_cells0 h, fun j v hv => ?_, fun j v hv => ?_⟩
  · match j, hv with
    | 0, hv => cases hv; exact cells_c h 2 _ rfl
    | 1, hv => cases hv; exact cells_c h 3 _ rfl
    | 2, hv => cases hv; exact cells_c h 4 _ rfl
    | 3, hv => cases hv; exact cells_c h 5 _ rfl
    | 4, hv => cases hv; exact cells_c h 6 _ rfl
    | (k + 5), hv => cases hv
  · match j, hv with
    | 0, hv => cases hv; exact cells_c h 7 _ rfl
    | 1, hv => cases hv; exact cells_c h 8 _ rfl
    | 2, hv => cases hv; exact cells_c h 9 _ rfl
    | 3, hv => cases hv; exact cells_c h 10 _ rfl
    | 4, hv => cases hv; exact cells_c h 11 _ rfl
    | 5, hv => cases hv; exact cells_c h 12 _ rfl
    | 6, hv => cases hv; exact cells_c h 13 _ rfl
    | 7, hv => cases hv; exact cells_c h 14 _ rfl
    | 8, hv => cases hv; exact cells_c h 15 _ rfl
    | 9, hv => cases hv; exact cells_c h 16 _ rfl
    | 10, hv => cases hv; exact cells_c h 17 _ rfl
    | (k + 11), hv => cases hv
theorem nd_v {w : World} {B : Nat} {n : Nd} {kv : Value} (h : CellsAt w B ndT (n.cells kv)) :
    w.cell? ⟨B, 2, none⟩ = some (.int .i64 n.val.kind) ∧ w.cell? ⟨B, 3, none⟩ = some (.int .i64 n.val.num) ∧ w.cell? ⟨B, 4, none⟩ = some (.string n.val.text) ∧ w.cell? ⟨B, 5, none⟩ = some (.bool n.val.tr) ∧ w.cell? ⟨B, 6, none⟩ = some (.int .i64 n.val.fail) := ⟨cells_c h 2 _ rfl, cells_c h 3 _ rfl, cells_c h 4 _ rfl, cells_c h 5 _ rfl, cells_c h 6 _ rfl⟩
theorem nd_f {w : World} {B : Nat} {n : Nd} {kv : Value} (h : CellsAt w B ndT (n.cells kv)) :
    w.cell? ⟨B, 7, none⟩ = some (.string n.ref.book) ∧ w.cell? ⟨B, 8, none⟩ = some (.string n.ref.sheet) ∧ w.cell? ⟨B, 9, none⟩ = some (.int .i64 n.ref.a.col) ∧ w.cell? ⟨B, 10, none⟩ = some (.int .i64 n.ref.a.row) ∧ w.cell? ⟨B, 11, none⟩ = some (.bool n.ref.a.fc) ∧ w.cell? ⟨B, 12, none⟩ = some (.bool n.ref.a.fr) ∧ w.cell? ⟨B, 13, none⟩ = some (.int .i64 n.ref.b.col) ∧ w.cell? ⟨B, 14, none⟩ = some (.int .i64 n.ref.b.row) ∧ w.cell? ⟨B, 15, none⟩ = some (.bool n.ref.b.fc) ∧ w.cell? ⟨B, 16, none⟩ = some (.bool n.ref.b.fr) ∧ w.cell? ⟨B, 17, none⟩ = some (.bool n.ref.wide) :=
  ⟨cells_c h 7 _ rfl, cells_c h 8 _ rfl, cells_c h 9 _ rfl, cells_c h 10 _ rfl, cells_c h 11 _ rfl, cells_c h 12 _ rfl, cells_c h 13 _ rfl, cells_c h 14 _ rfl, cells_c h 15 _ rfl, cells_c h 16 _ rfl, cells_c h 17 _ rfl⟩
set_option maxRecDepth 100000 in
set_option maxHeartbeats 8000000 in
theorem nsound0 (n : Nd) (nk : Nat) (a : Option Addr) (cap : Nat) (w : World) (ht : n.val.text.size ≤ 1000000) (hk0 : n.kind = 0) :
    Calls Tryz.prog 73 #[.agg (n.cells (.slice a nk cap))] w fun e w' => e = .returned (.bool (hasB n noText n.val zeroF && (decide (nk = 0) && litB n.val))) ∧ Below w.heap.size w w' := by
  have HH := hide (fun w => nhas_val n (.slice a nk cap) noText n.val zeroF w)
  have HL := hide (fun w => isLiteral_val n.val w ht)
  have HN0 := hide (cells_new w ndT (n.cells (.slice a nk cap)))
  obtain ⟨x0, x1, x18⟩ := nd_x (unhide HN0)
  obtain ⟨rn, rv, rf⟩ := nd_r (unhide HN0)
  have RN := hide rn
  have RV := hide rv
  have RF := hide rf
  clear rn rv rf
  rw [hk0] at x0
  clear hk0
  generalize hb : hasB n noText n.val zeroF = b at HH ⊢
  clear hb
  generalize hl : litB n.val = l at HL ⊢
  clear hl
  rw [show zeroF.cells = #[.string ⟨#[]⟩, .string ⟨#[]⟩, .int .i64 0, .int .i64 0, .bool false, .bool false, .int .i64 0, .int .i64 0, .bool false, .bool false, .bool false] from rfl] at HH
  have zc : (n.cells (.slice a nk cap)).size = 19 := rfl
  have zv : n.val.cells.size = 5 := rfl
  have zf : n.ref.cells.size = 11 := rfl
  have HX : Hid (∀ w', Below (w.alloc (.cells (n.cells (.slice a nk cap)) ndT)).heap.size (w.alloc (.cells (n.cells (.slice a nk cap)) ndT)) w' → w'.cell? ⟨w.heap.size, 1, none⟩ = some (.string n.op) ∧ w'.cell? ⟨w.heap.size, 18, none⟩ = some (.slice a nk cap) ∧ w'.cell? ⟨w.heap.size, 2, none⟩ = some (.int .i64 n.val.kind) ∧ w'.cell? ⟨w.heap.size, 3, none⟩ = some (.int .i64 n.val.num) ∧ w'.cell? ⟨w.heap.size, 4, none⟩ = some (.string n.val.text) ∧ w'.cell? ⟨w.heap.size, 5, none⟩ = some (.bool n.val.tr) ∧ w'.cell? ⟨w.heap.size, 6, none⟩ = some (.int .i64 n.val.fail)) := hide (fun w' hb => by
    have hc := cells_nx (unhide HN0) hb
    exact ⟨(nd_x hc).2.1, (nd_x hc).2.2, nd_v hc⟩)
  obtain ⟨x2, x3, x4, x5, x6⟩ := nd_v (unhide HN0)
  unfold Vl.cells at HH HL
  clear HN0 RV RF
  generalize hcs : n.cells (.slice a nk cap) = cs at *
  clear hcs zv zf
  have IN : Hid ((Tryz.prog.info? 55).map (·.size) = some cs.toList.length) := hide (by rw [infoNs, Array.length_toList, zc])
  cases b
  · go_enter Tryz.func73, Tryz.ntmps73
    go_wp2_with (refine wpList_load_mid rfl 55 _ rfl w.heap.size 0 rfl cs.toList _ (unhide RN) Tryz.underlying55 rfl (unhide IN) ?_)
    refine (unhide HH _).mono ?_
    rintro e w1 ⟨rfl, b1⟩
    have HB := hide (below_nx (below_al w _) b1)
    obtain ⟨y1, y18, y2, y3, y4, y5, y6⟩ := unhide HX w1 b1
    clear b1 x0 x1 x18 x2 x3 x4 x5 x6
    go_wp2
    go_ret
    exact ⟨rfl, unhide HB⟩
  by_cases hk : nk = 0
  · have hki : (nk : Int) = 0 := by omega
    rw [show decide (nk = 0) = true from decide_eq_true hk]
    clear hk
    go_enter Tryz.func73, Tryz.ntmps73
    go_wp2_with (refine wpList_load_mid rfl 55 _ rfl w.heap.size 0 rfl cs.toList _ (unhide RN) Tryz.underlying55 rfl (unhide IN) ?_)
    refine (unhide HH _).mono ?_
    rintro e w1 ⟨rfl, b1⟩
    have HB := hide (below_nx (below_al w _) b1)
    obtain ⟨y1, y18, y2, y3, y4, y5, y6⟩ := unhide HX w1 b1
    clear b1 x0 x1 x18 x2 x3 x4 x5 x6
    go_wp2_with fail
    refine (unhide HL _).mono ?_
    rintro e w2 ⟨rfl, b2⟩
    replace HB := hide (below_nx (unhide HB) b2)
    clear b2
    go_wp2
    go_ret
    exact ⟨by simp, unhide HB⟩
  · have hki : ¬ (nk : Int) = 0 := by omega
    have hkb : ((nk : Int) == 0) = false := by simpa using hki
    rw [show decide (nk = 0) = false from decide_eq_false hk]
    clear hk
    go_enter Tryz.func73, Tryz.ntmps73
    go_wp2_with (refine wpList_load_mid rfl 55 _ rfl w.heap.size 0 rfl cs.toList _ (unhide RN) Tryz.underlying55 rfl (unhide IN) ?_)
    refine (unhide HH _).mono ?_
    rintro e w1 ⟨rfl, b1⟩
    have HB := hide (below_nx (below_al w _) b1)
    obtain ⟨y1, y18, y2, y3, y4, y5, y6⟩ := unhide HX w1 b1
    clear b1 x0 x1 x18 x2 x3 x4 x5 x6
    go_wp2
    go_ret
    exact ⟨rfl, unhide HB⟩
set_option maxRecDepth 100000 in
set_option maxHeartbeats 8000000 in
theorem nsound1 (n : Nd) (nk : Nat) (a : Option Addr) (cap : Nat) (w : World) (hk0 : n.kind = 1) :
    Calls Tryz.prog 73 #[.agg (n.cells (.slice a nk cap))] w fun e w' => e = .returned (.bool (hasB n noText zVl n.ref && (decide (nk = 0) && goodF n.ref))) ∧ Below w.heap.size w w' := by
  have HH := hide (fun w => nhas_val n (.slice a nk cap) noText zVl n.ref w)
  have HL := hide (fun w => fullGood_val n.ref w)
  have HN0 := hide (cells_new w ndT (n.cells (.slice a nk cap)))
  obtain ⟨x0, x1, x18⟩ := nd_x (unhide HN0)
  obtain ⟨rn, rv, rf⟩ := nd_r (unhide HN0)
  have RN := hide rn
  have RV := hide rv
  have RF := hide rf
  clear rn rv rf
  rw [hk0] at x0
  clear hk0
  generalize hb : hasB n noText zVl n.ref = b at HH ⊢
  clear hb
  generalize hl : goodF n.ref = l at HL ⊢
  clear hl
  rw [show zVl.cells = #[.int .i64 0, .int .i64 0, .string ⟨#[]⟩, .bool false, .int .i64 0] from rfl] at HH
  have zc : (n.cells (.slice a nk cap)).size = 19 := rfl
  have zv : n.val.cells.size = 5 := rfl
  have zf : n.ref.cells.size = 11 := rfl
  have HX : Hid (∀ w', Below (w.alloc (.cells (n.cells (.slice a nk cap)) ndT)).heap.size (w.alloc (.cells (n.cells (.slice a nk cap)) ndT)) w' → w'.cell? ⟨w.heap.size, 1, none⟩ = some (.string n.op) ∧ w'.cell? ⟨w.heap.size, 18, none⟩ = some (.slice a nk cap) ∧ w'.cell? ⟨w.heap.size, 7, none⟩ = some (.string n.ref.book) ∧ w'.cell? ⟨w.heap.size, 8, none⟩ = some (.string n.ref.sheet) ∧ w'.cell? ⟨w.heap.size, 9, none⟩ = some (.int .i64 n.ref.a.col) ∧ w'.cell? ⟨w.heap.size, 10, none⟩ = some (.int .i64 n.ref.a.row) ∧ w'.cell? ⟨w.heap.size, 11, none⟩ = some (.bool n.ref.a.fc) ∧ w'.cell? ⟨w.heap.size, 12, none⟩ = some (.bool n.ref.a.fr) ∧ w'.cell? ⟨w.heap.size, 13, none⟩ = some (.int .i64 n.ref.b.col) ∧ w'.cell? ⟨w.heap.size, 14, none⟩ = some (.int .i64 n.ref.b.row) ∧ w'.cell? ⟨w.heap.size, 15, none⟩ = some (.bool n.ref.b.fc) ∧ w'.cell? ⟨w.heap.size, 16, none⟩ = some (.bool n.ref.b.fr) ∧ w'.cell? ⟨w.heap.size, 17, none⟩ = some (.bool n.ref.wide)) := hide (fun w' hb => by
    have hc := cells_nx (unhide HN0) hb
    exact ⟨(nd_x hc).2.1, (nd_x hc).2.2, nd_f hc⟩)
  obtain ⟨x7, x8, x9, x10, x11, x12, x13, x14, x15, x16, x17⟩ := nd_f (unhide HN0)
  unfold Fl.cells at HH HL
  clear HN0 RV RF
  generalize hcs : n.cells (.slice a nk cap) = cs at *
  clear hcs zv zf
  have IN : Hid ((Tryz.prog.info? 55).map (·.size) = some cs.toList.length) := hide (by rw [infoNs, Array.length_toList, zc])
  cases b
  · go_enter Tryz.func73, Tryz.ntmps73
    go_wp2_with (refine wpList_load_mid rfl 55 _ rfl w.heap.size 0 rfl cs.toList _ (unhide RN) Tryz.underlying55 rfl (unhide IN) ?_)
    refine (unhide HH _).mono ?_
    rintro e w1 ⟨rfl, b1⟩
    have HB := hide (below_nx (below_al w _) b1)
    obtain ⟨y1, y18, y7, y8, y9, y10, y11, y12, y13, y14, y15, y16, y17⟩ := unhide HX w1 b1
    clear b1 x0 x1 x18 x7 x8 x9 x10 x11 x12 x13 x14 x15 x16 x17
    go_wp2
    go_ret
    exact ⟨rfl, unhide HB⟩
  by_cases hk : nk = 0
  · have hki : (nk : Int) = 0 := by omega
    rw [show decide (nk = 0) = true from decide_eq_true hk]
    clear hk
    go_enter Tryz.func73, Tryz.ntmps73
    go_wp2_with (refine wpList_load_mid rfl 55 _ rfl w.heap.size 0 rfl cs.toList _ (unhide RN) Tryz.underlying55 rfl (unhide IN) ?_)
    refine (unhide HH _).mono ?_
    rintro e w1 ⟨rfl, b1⟩
    have HB := hide (below_nx (below_al w _) b1)
    obtain ⟨y1, y18, y7, y8, y9, y10, y11, y12, y13, y14, y15, y16, y17⟩ := unhide HX w1 b1
    clear b1 x0 x1 x18 x7 x8 x9 x10 x11 x12 x13 x14 x15 x16 x17
    go_wp2_with fail
    refine (unhide HL _).mono ?_
    rintro e w2 ⟨rfl, b2⟩
    replace HB := hide (below_nx (unhide HB) b2)
    clear b2
    go_wp2
    go_ret
    exact ⟨by simp, unhide HB⟩
  · have hki : ¬ (nk : Int) = 0 := by omega
    have hkb : ((nk : Int) == 0) = false := by simpa using hki
    rw [show decide (nk = 0) = false from decide_eq_false hk]
    clear hk
    go_enter Tryz.func73, Tryz.ntmps73
    go_wp2_with (refine wpList_load_mid rfl 55 _ rfl w.heap.size 0 rfl cs.toList _ (unhide RN) Tryz.underlying55 rfl (unhide IN) ?_)
    refine (unhide HH _).mono ?_
    rintro e w1 ⟨rfl, b1⟩
    have HB := hide (below_nx (below_al w _) b1)
    obtain ⟨y1, y18, y7, y8, y9, y10, y11, y12, y13, y14, y15, y16, y17⟩ := unhide HX w1 b1
    clear b1 x0 x1 x18 x7 x8 x9 x10 x11 x12 x13 x14 x15 x16 x17
    go_wp2
    go_ret
    exact ⟨rfl, unhide HB⟩
set_option maxRecDepth 100000 in
set_option maxHeartbeats 8000000 in
theorem nsound2 (n : Nd) (nk : Nat) (a : Option Addr) (cap : Nat) (w : World) (hk0 : n.kind = 2) :
    Calls Tryz.prog 73 #[.agg (n.cells (.slice a nk cap))] w fun e w' => e = .returned (.bool (hasB n noText zVl zeroF && decide (nk = 1))) ∧ Below w.heap.size w w' := by
  have HH := hide (fun w => nhas_val n (.slice a nk cap) noText zVl zeroF w)
  have HN0 := hide (cells_new w ndT (n.cells (.slice a nk cap)))
  obtain ⟨x0, x1, x18⟩ := nd_x (unhide HN0)
  obtain ⟨rn, rv, rf⟩ := nd_r (unhide HN0)
  have RN := hide rn
  have RV := hide rv
  have RF := hide rf
  clear rn rv rf
  rw [hk0] at x0
  clear hk0
  generalize hb : hasB n noText zVl zeroF = b at HH ⊢
  clear hb
  rw [show zVl.cells = #[.int .i64 0, .int .i64 0, .string ⟨#[]⟩, .bool false, .int .i64 0] from rfl] at HH
  rw [show zeroF.cells = #[.string ⟨#[]⟩, .string ⟨#[]⟩, .int .i64 0, .int .i64 0, .bool false, .bool false, .int .i64 0, .int .i64 0, .bool false, .bool false, .bool false] from rfl] at HH
  have zc : (n.cells (.slice a nk cap)).size = 19 := rfl
  have zv : n.val.cells.size = 5 := rfl
  have zf : n.ref.cells.size = 11 := rfl
  have HX : Hid (∀ w', Below (w.alloc (.cells (n.cells (.slice a nk cap)) ndT)).heap.size (w.alloc (.cells (n.cells (.slice a nk cap)) ndT)) w' → w'.cell? ⟨w.heap.size, 1, none⟩ = some (.string n.op) ∧ w'.cell? ⟨w.heap.size, 18, none⟩ = some (.slice a nk cap)) := hide (fun w' hb => by
    have hc := cells_nx (unhide HN0) hb
    exact ⟨(nd_x hc).2.1, (nd_x hc).2.2⟩)
  clear HN0 RV RF
  generalize hcs : n.cells (.slice a nk cap) = cs at *
  clear hcs zv zf
  have IN : Hid ((Tryz.prog.info? 55).map (·.size) = some cs.toList.length) := hide (by rw [infoNs, Array.length_toList, zc])
  cases b
  · go_enter Tryz.func73, Tryz.ntmps73
    go_wp2_with (refine wpList_load_mid rfl 55 _ rfl w.heap.size 0 rfl cs.toList _ (unhide RN) Tryz.underlying55 rfl (unhide IN) ?_)
    refine (unhide HH _).mono ?_
    rintro e w1 ⟨rfl, b1⟩
    have HB := hide (below_nx (below_al w _) b1)
    obtain ⟨y1, y18⟩ := unhide HX w1 b1
    clear b1 x0 x1 x18
    go_wp2
    go_ret
    exact ⟨rfl, unhide HB⟩
  by_cases hk : nk = 1
  · have hki : (nk : Int) = 1 := by omega
    rw [show decide (nk = 1) = true from decide_eq_true hk]
    clear hk
    go_enter Tryz.func73, Tryz.ntmps73
    go_wp2_with (refine wpList_load_mid rfl 55 _ rfl w.heap.size 0 rfl cs.toList _ (unhide RN) Tryz.underlying55 rfl (unhide IN) ?_)
    refine (unhide HH _).mono ?_
    rintro e w1 ⟨rfl, b1⟩
    have HB := hide (below_nx (below_al w _) b1)
    obtain ⟨y1, y18⟩ := unhide HX w1 b1
    clear b1 x0 x1 x18
    go_wp2
    go_ret
    exact ⟨rfl, unhide HB⟩
  · have hki : ¬ (nk : Int) = 1 := by omega
    have hkb : ((nk : Int) == 1) = false := by simpa using hki
    rw [show decide (nk = 1) = false from decide_eq_false hk]
    clear hk
    go_enter Tryz.func73, Tryz.ntmps73
    go_wp2_with (refine wpList_load_mid rfl 55 _ rfl w.heap.size 0 rfl cs.toList _ (unhide RN) Tryz.underlying55 rfl (unhide IN) ?_)
    refine (unhide HH _).mono ?_
    rintro e w1 ⟨rfl, b1⟩
    have HB := hide (below_nx (below_al w _) b1)
    obtain ⟨y1, y18⟩ := unhide HX w1 b1
    clear b1 x0 x1 x18
    go_wp2
    go_ret
    exact ⟨rfl, unhide HB⟩
set_option maxRecDepth 100000 in
set_option maxHeartbeats 8000000 in
theorem nsound3 (n : Nd) (nk : Nat) (a : Option Addr) (cap : Nat) (w : World) (hk0 : n.kind = 3) :
    Calls Tryz.prog 73 #[.agg (n.cells (.slice a nk cap))] w fun e w' => e = .returned (.bool (hasB n noText zVl zeroF && decide (nk = 1))) ∧ Below w.heap.size w w' := by
  have HH := hide (fun w => nhas_val n (.slice a nk cap) noText zVl zeroF w)
  have HN0 := hide (cells_new w ndT (n.cells (.slice a nk cap)))
  obtain ⟨x0, x1, x18⟩ := nd_x (unhide HN0)
  obtain ⟨rn, rv, rf⟩ := nd_r (unhide HN0)
  have RN := hide rn
  have RV := hide rv
  have RF := hide rf
  clear rn rv rf
  rw [hk0] at x0
  clear hk0
  generalize hb : hasB n noText zVl zeroF = b at HH ⊢
  clear hb
  rw [show zVl.cells = #[.int .i64 0, .int .i64 0, .string ⟨#[]⟩, .bool false, .int .i64 0] from rfl] at HH
  rw [show zeroF.cells = #[.string ⟨#[]⟩, .string ⟨#[]⟩, .int .i64 0, .int .i64 0, .bool false, .bool false, .int .i64 0, .int .i64 0, .bool false, .bool false, .bool false] from rfl] at HH
  have zc : (n.cells (.slice a nk cap)).size = 19 := rfl
  have zv : n.val.cells.size = 5 := rfl
  have zf : n.ref.cells.size = 11 := rfl
  have HX : Hid (∀ w', Below (w.alloc (.cells (n.cells (.slice a nk cap)) ndT)).heap.size (w.alloc (.cells (n.cells (.slice a nk cap)) ndT)) w' → w'.cell? ⟨w.heap.size, 1, none⟩ = some (.string n.op) ∧ w'.cell? ⟨w.heap.size, 18, none⟩ = some (.slice a nk cap)) := hide (fun w' hb => by
    have hc := cells_nx (unhide HN0) hb
    exact ⟨(nd_x hc).2.1, (nd_x hc).2.2⟩)
  clear HN0 RV RF
  generalize hcs : n.cells (.slice a nk cap) = cs at *
  clear hcs zv zf
  have IN : Hid ((Tryz.prog.info? 55).map (·.size) = some cs.toList.length) := hide (by rw [infoNs, Array.length_toList, zc])
  cases b
  · go_enter Tryz.func73, Tryz.ntmps73
    go_wp2_with (refine wpList_load_mid rfl 55 _ rfl w.heap.size 0 rfl cs.toList _ (unhide RN) Tryz.underlying55 rfl (unhide IN) ?_)
    refine (unhide HH _).mono ?_
    rintro e w1 ⟨rfl, b1⟩
    have HB := hide (below_nx (below_al w _) b1)
    obtain ⟨y1, y18⟩ := unhide HX w1 b1
    clear b1 x0 x1 x18
    go_wp2
    go_ret
    exact ⟨rfl, unhide HB⟩
  by_cases hk : nk = 1
  · have hki : (nk : Int) = 1 := by omega
    rw [show decide (nk = 1) = true from decide_eq_true hk]
    clear hk
    go_enter Tryz.func73, Tryz.ntmps73
    go_wp2_with (refine wpList_load_mid rfl 55 _ rfl w.heap.size 0 rfl cs.toList _ (unhide RN) Tryz.underlying55 rfl (unhide IN) ?_)
    refine (unhide HH _).mono ?_
    rintro e w1 ⟨rfl, b1⟩
    have HB := hide (below_nx (below_al w _) b1)
    obtain ⟨y1, y18⟩ := unhide HX w1 b1
    clear b1 x0 x1 x18
    go_wp2
    go_ret
    exact ⟨rfl, unhide HB⟩
  · have hki : ¬ (nk : Int) = 1 := by omega
    have hkb : ((nk : Int) == 1) = false := by simpa using hki
    rw [show decide (nk = 1) = false from decide_eq_false hk]
    clear hk
    go_enter Tryz.func73, Tryz.ntmps73
    go_wp2_with (refine wpList_load_mid rfl 55 _ rfl w.heap.size 0 rfl cs.toList _ (unhide RN) Tryz.underlying55 rfl (unhide IN) ?_)
    refine (unhide HH _).mono ?_
    rintro e w1 ⟨rfl, b1⟩
    have HB := hide (below_nx (below_al w _) b1)
    obtain ⟨y1, y18⟩ := unhide HX w1 b1
    clear b1 x0 x1 x18
    go_wp2
    go_ret
    exact ⟨rfl, unhide HB⟩
set_option maxRecDepth 100000 in
set_option maxHeartbeats 8000000 in
theorem nsound4 (n : Nd) (nk : Nat) (a : Option Addr) (cap : Nat) (w : World) (hk0 : n.kind = 4) :
    Calls Tryz.prog 73 #[.agg (n.cells (.slice a nk cap))] w fun e w' => e = .returned (.bool (hasB n n.op zVl zeroF && (decide (nk = 2) && (bindL n.op.data.toList != 0)))) ∧ Below w.heap.size w w' := by
  have HH := hide (fun w => nhas_val n (.slice a nk cap) n.op zVl zeroF w)
  have HL := hide (fun w => binding_val n.op w)
  have HN0 := hide (cells_new w ndT (n.cells (.slice a nk cap)))
  obtain ⟨x0, x1, x18⟩ := nd_x (unhide HN0)
  obtain ⟨rn, rv, rf⟩ := nd_r (unhide HN0)
  have RN := hide rn
  have RV := hide rv
  have RF := hide rf
  clear rn rv rf
  rw [hk0] at x0
  clear hk0
  generalize hb : hasB n n.op zVl zeroF = b at HH ⊢
  clear hb
  generalize hbd : bindL n.op.data.toList = bd at HL ⊢
  clear hbd
  obtain ⟨l, hq⟩ : ∃ q, (bd != 0) = q := ⟨_, rfl⟩
  have hqi : ((bd : Int) != 0) = l := by
    rw [← hq]
    cases bd with
    | zero => rfl
    | succ m => simp; omega
  rw [hq]
  clear hq
  rw [show zVl.cells = #[.int .i64 0, .int .i64 0, .string ⟨#[]⟩, .bool false, .int .i64 0] from rfl] at HH
  rw [show zeroF.cells = #[.string ⟨#[]⟩, .string ⟨#[]⟩, .int .i64 0, .int .i64 0, .bool false, .bool false, .int .i64 0, .int .i64 0, .bool false, .bool false, .bool false] from rfl] at HH
  have zc : (n.cells (.slice a nk cap)).size = 19 := rfl
  have zv : n.val.cells.size = 5 := rfl
  have zf : n.ref.cells.size = 11 := rfl
  have HX : Hid (∀ w', Below (w.alloc (.cells (n.cells (.slice a nk cap)) ndT)).heap.size (w.alloc (.cells (n.cells (.slice a nk cap)) ndT)) w' → w'.cell? ⟨w.heap.size, 1, none⟩ = some (.string n.op) ∧ w'.cell? ⟨w.heap.size, 18, none⟩ = some (.slice a nk cap)) := hide (fun w' hb => by
    have hc := cells_nx (unhide HN0) hb
    exact ⟨(nd_x hc).2.1, (nd_x hc).2.2⟩)
  clear HN0 RV RF
  generalize hcs : n.cells (.slice a nk cap) = cs at *
  clear hcs zv zf
  have IN : Hid ((Tryz.prog.info? 55).map (·.size) = some cs.toList.length) := hide (by rw [infoNs, Array.length_toList, zc])
  cases b
  · go_enter Tryz.func73, Tryz.ntmps73
    go_wp2_with (refine wpList_load_mid rfl 55 _ rfl w.heap.size 0 rfl cs.toList _ (unhide RN) Tryz.underlying55 rfl (unhide IN) ?_)
    refine (unhide HH _).mono ?_
    rintro e w1 ⟨rfl, b1⟩
    have HB := hide (below_nx (below_al w _) b1)
    obtain ⟨y1, y18⟩ := unhide HX w1 b1
    clear b1 x0 x1 x18
    go_wp2
    go_ret
    exact ⟨rfl, unhide HB⟩
  by_cases hk : nk = 2
  · have hki : (nk : Int) = 2 := by omega
    rw [show decide (nk = 2) = true from decide_eq_true hk]
    clear hk
    go_enter Tryz.func73, Tryz.ntmps73
    go_wp2_with (refine wpList_load_mid rfl 55 _ rfl w.heap.size 0 rfl cs.toList _ (unhide RN) Tryz.underlying55 rfl (unhide IN) ?_)
    refine (unhide HH _).mono ?_
    rintro e w1 ⟨rfl, b1⟩
    have HB := hide (below_nx (below_al w _) b1)
    obtain ⟨y1, y18⟩ := unhide HX w1 b1
    clear b1 x0 x1 x18
    go_wp2_with fail
    refine (unhide HL _).mono ?_
    rintro e w2 ⟨rfl, rfl⟩
    go_wp2
    go_ret
    exact ⟨by simp, unhide HB⟩
  · have hki : ¬ (nk : Int) = 2 := by omega
    have hkb : ((nk : Int) == 2) = false := by simpa using hki
    rw [show decide (nk = 2) = false from decide_eq_false hk]
    clear hk
    go_enter Tryz.func73, Tryz.ntmps73
    go_wp2_with (refine wpList_load_mid rfl 55 _ rfl w.heap.size 0 rfl cs.toList _ (unhide RN) Tryz.underlying55 rfl (unhide IN) ?_)
    refine (unhide HH _).mono ?_
    rintro e w1 ⟨rfl, b1⟩
    have HB := hide (below_nx (below_al w _) b1)
    obtain ⟨y1, y18⟩ := unhide HX w1 b1
    clear b1 x0 x1 x18
    go_wp2
    go_ret
    exact ⟨rfl, unhide HB⟩
set_option maxRecDepth 100000 in
set_option maxHeartbeats 8000000 in
theorem nsound5 (n : Nd) (nk : Nat) (a : Option Addr) (cap : Nat) (w : World) (ho : n.op.size ≤ 1000000) (hk0 : n.kind = 5) :
    Calls Tryz.prog 73 #[.agg (n.cells (.slice a nk cap))] w fun e w' => e = .returned (.bool (hasB n n.op zVl zeroF && (decide (nk ≤ 32) && calledB n.op))) ∧ Below w.heap.size w w' := by
  have HH := hide (fun w => nhas_val n (.slice a nk cap) n.op zVl zeroF w)
  have HL := hide (fun w => isCalled_val n.op w ho)
  have HN0 := hide (cells_new w ndT (n.cells (.slice a nk cap)))
  obtain ⟨x0, x1, x18⟩ := nd_x (unhide HN0)
  obtain ⟨rn, rv, rf⟩ := nd_r (unhide HN0)
  have RN := hide rn
  have RV := hide rv
  have RF := hide rf
  clear rn rv rf
  rw [hk0] at x0
  clear hk0
  generalize hb : hasB n n.op zVl zeroF = b at HH ⊢
  clear hb
  generalize hl : calledB n.op = l at HL ⊢
  clear hl
  rw [show zVl.cells = #[.int .i64 0, .int .i64 0, .string ⟨#[]⟩, .bool false, .int .i64 0] from rfl] at HH
  rw [show zeroF.cells = #[.string ⟨#[]⟩, .string ⟨#[]⟩, .int .i64 0, .int .i64 0, .bool false, .bool false, .int .i64 0, .int .i64 0, .bool false, .bool false, .bool false] from rfl] at HH
  have zc : (n.cells (.slice a nk cap)).size = 19 := rfl
  have zv : n.val.cells.size = 5 := rfl
  have zf : n.ref.cells.size = 11 := rfl
  have HX : Hid (∀ w', Below (w.alloc (.cells (n.cells (.slice a nk cap)) ndT)).heap.size (w.alloc (.cells (n.cells (.slice a nk cap)) ndT)) w' → w'.cell? ⟨w.heap.size, 1, none⟩ = some (.string n.op) ∧ w'.cell? ⟨w.heap.size, 18, none⟩ = some (.slice a nk cap)) := hide (fun w' hb => by
    have hc := cells_nx (unhide HN0) hb
    exact ⟨(nd_x hc).2.1, (nd_x hc).2.2⟩)
  clear HN0 RV RF
  generalize hcs : n.cells (.slice a nk cap) = cs at *
  clear hcs zv zf
  have IN : Hid ((Tryz.prog.info? 55).map (·.size) = some cs.toList.length) := hide (by rw [infoNs, Array.length_toList, zc])
  cases b
  · go_enter Tryz.func73, Tryz.ntmps73
    go_wp2_with (refine wpList_load_mid rfl 55 _ rfl w.heap.size 0 rfl cs.toList _ (unhide RN) Tryz.underlying55 rfl (unhide IN) ?_)
    refine (unhide HH _).mono ?_
    rintro e w1 ⟨rfl, b1⟩
    have HB := hide (below_nx (below_al w _) b1)
    obtain ⟨y1, y18⟩ := unhide HX w1 b1
    clear b1 x0 x1 x18
    go_wp2
    go_ret
    exact ⟨rfl, unhide HB⟩
  by_cases hk : nk ≤ 32
  · have hki : (nk : Int) ≤ 32 := by omega
    rw [show decide (nk ≤ 32) = true from decide_eq_true hk]
    clear hk
    go_enter Tryz.func73, Tryz.ntmps73
    go_wp2_with (refine wpList_load_mid rfl 55 _ rfl w.heap.size 0 rfl cs.toList _ (unhide RN) Tryz.underlying55 rfl (unhide IN) ?_)
    refine (unhide HH _).mono ?_
    rintro e w1 ⟨rfl, b1⟩
    have HB := hide (below_nx (below_al w _) b1)
    obtain ⟨y1, y18⟩ := unhide HX w1 b1
    clear b1 x0 x1 x18
    go_wp2_with fail
    refine (unhide HL _).mono ?_
    rintro e w2 ⟨rfl, b2⟩
    replace HB := hide (below_nx (unhide HB) b2)
    clear b2
    go_wp2
    go_ret
    exact ⟨by simp, unhide HB⟩
  · have hki : ¬ (nk : Int) ≤ 32 := by omega
    rw [show decide (nk ≤ 32) = false from decide_eq_false hk]
    clear hk
    go_enter Tryz.func73, Tryz.ntmps73
    go_wp2_with (refine wpList_load_mid rfl 55 _ rfl w.heap.size 0 rfl cs.toList _ (unhide RN) Tryz.underlying55 rfl (unhide IN) ?_)
    refine (unhide HH _).mono ?_
    rintro e w1 ⟨rfl, b1⟩
    have HB := hide (below_nx (below_al w _) b1)
    obtain ⟨y1, y18⟩ := unhide HX w1 b1
    clear b1 x0 x1 x18
    go_wp2
    go_ret
    exact ⟨rfl, unhide HB⟩
set_option maxRecDepth 100000 in
set_option maxHeartbeats 8000000 in
theorem nsound6 (n : Nd) (nk : Nat) (a : Option Addr) (cap : Nat) (w : World) (hk0 : ¬ (n.kind = 0 ∨ n.kind = 1 ∨ n.kind = 2 ∨ n.kind = 3 ∨ n.kind = 4 ∨ n.kind = 5)) :
    Calls Tryz.prog 73 #[.agg (n.cells (.slice a nk cap))] w fun e w' => e = .returned (.bool false) ∧ Below w.heap.size w w' := by
  simp only [not_or] at hk0
  obtain ⟨k0, k1, k2, k3, k4, k5⟩ := hk0
  obtain ⟨x0, _, _⟩ := nd_x (cells_new w ndT (n.cells (.slice a nk cap)))
  have e0 : (n.kind == 0) = false := by simpa using k0
  have e1 : (n.kind == 1) = false := by simpa using k1
  have e2 : (n.kind == 2) = false := by simpa using k2
  have e3 : (n.kind == 3) = false := by simpa using k3
  have e4 : (n.kind == 4) = false := by simpa using k4
  have e5 : (n.kind == 5) = false := by simpa using k5
  clear k0 k1 k2 k3 k4 k5
  have zc : (n.cells (.slice a nk cap)).size = 19 := rfl
  go_enter Tryz.func73, Tryz.ntmps73
  go_wp2
  go_ret
  exact ⟨rfl, below_al _ _⟩
theorem nsound_val (n : Nd) (a : Option Addr) (cap : Nat) (w : World) (ht : n.val.text.size ≤ 1000000) (ho : n.op.size ≤ 1000000) :
    Calls Tryz.prog 73 #[.agg (n.cells (.slice a n.kids.length cap))] w fun e w' => e = .returned (.bool (soundB n)) ∧ Below w.heap.size w w' := by
  unfold soundB
  by_cases k0 : n.kind = 0
  · rw [if_pos k0]; exact nsound0 n _ a cap w ht k0
  rw [if_neg k0]
  by_cases k1 : n.kind = 1
  · rw [if_pos k1]; exact nsound1 n _ a cap w k1
  rw [if_neg k1]
  by_cases k2 : n.kind = 2
  · rw [if_pos (Or.inl k2)]; exact nsound2 n _ a cap w k2
  by_cases k3 : n.kind = 3
  · rw [if_pos (Or.inr k3)]; exact nsound3 n _ a cap w k3
  rw [if_neg (by omega)]
  by_cases k4 : n.kind = 4
  · rw [if_pos k4]; exact nsound4 n _ a cap w k4
  rw [if_neg k4]
  by_cases k5 : n.kind = 5
  · rw [if_pos k5]; exact nsound5 n _ a cap w ho k5
  rw [if_neg k5]
  exact nsound6 n _ a cap w (by omega)
end Go.Proofs.YtloamahbghjjgaaGreatDoor
