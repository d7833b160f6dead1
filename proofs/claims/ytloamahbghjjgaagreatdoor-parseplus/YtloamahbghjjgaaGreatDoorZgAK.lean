/- The contract of the program's errors in signs, of layer 3. -/
import Derived.BigQuiet
import Derived.BigRegion
import Derived.Deep.CutBlock
import Derived.Deep.CutRange
import Derived.Deep.DeepFit
import Derived.Deep.QuietTactic
import Derived.Deep.RegionHeld3
import Derived.Laws.Bits64b
import Derived.Laws.IdiomStrings
import Derived.Laws.Rows
import Derived.Laws.StructEq
import Derived.Lib.Atoi
import Derived.Lib.AtoiErrMem
import Derived.Lib.BitFns
import Derived.Lib.CutLaws
import Derived.Lib.IndexMore
import Derived.Lib.ItoaMem
import Derived.Lib.ItoaNum
import Derived.Lib.Join
import Derived.Lib.Replace
import Derived.Lib.Walk
import Derived.Shelf.Bits.Mul64
import Derived.Shelf.LaysM
import Derived.Shelf.Small.Bits
import Derived.Shelf.Small.Strs
import Derived.Shelf.Small.Utf8
import Derived.Shelf.Small.Wraps
import Derived.Shelf.Strconv.Atoi
import Derived.Shelf.Strconv.Itoa0
import Derived.Shelf.Strconv.Itoa1
import Derived.Shelf.Strconv.Itoa2
import Derived.Shelf.Strconv.Itoa3
import Derived.Shelf.Strings.AsciiSet
import Derived.Shelf.Strings.Builder1
import Derived.Shelf.Strings.Builder2
import Derived.Shelf.Strings.Count
import Derived.Shelf.Strings.Cut
import Derived.Shelf.Strings.OnBuilder
import Derived.Shelf.Strings.Prefix
import Derived.Shelf.Strings.Replace
import Derived.Shelf.Strings.Runes
import Derived.Shelf.Strings.Search1
import Derived.Shelf.Strings.Search2
import Derived.Shelf.Strings.Search3
import Derived.Shelf.Strings.Shaped
import Derived.Shelf.Strings.Split
import Derived.Shelf.Strings.SplitShaped
import Derived.Shelf.Strings.Trim
import Derived.Shelf.Unicode.DecodeSlow
import Derived.Test.YtloamahbghjjgaaGreatDoorProg
import Derived.Test.YtloamahbghjjgaaGreatDoorRows
import Derived.WalkKit
import Derived.WalkLawsBesides
import Derived.WalkSmall
import Derived.WalkSpells
import Derived.Test.YtloamahbghjjgaaGreatDoorZgAA
import Derived.Test.YtloamahbghjjgaaGreatDoorZgAC
import Derived.Test.YtloamahbghjjgaaGreatDoorZgAE
import Derived.Test.YtloamahbghjjgaaGreatDoorZgAB
import Derived.Test.YtloamahbghjjgaaGreatDoorZgAF
import Derived.Test.YtloamahbghjjgaaGreatDoorZgAG
import Derived.Test.YtloamahbghjjgaaGreatDoorZgAH
import Derived.Test.YtloamahbghjjgaaGreatDoorZgAI
import Derived.Test.YtloamahbghjjgaaGreatDoorZgAJ
namespace Go.Proofs.YtloamahbghjjgaaGreatDoor
open Go.RowKit

def signTab (w : World) : Prop := ∀ i : Nat, i < 9 → w.cell? ⟨1, i, none⟩ = some (.string (signL.getD i noText))
theorem signs_below {w w' : World} (h : signTab w) (hb : Below w.heap.size w w') : signTab w' := by
  intro i hi
  have h0 := h i hi
  have hlt : 1 < w.heap.size := by
    rcases Nat.lt_or_ge 1 w.heap.size with h' | h'
    · exact h'
    · simp [World.cell?, Array.getElem?_eq_none h'] at h0
  rw [hb.cell (p := ⟨1, i, none⟩) hlt]
  exact h0

set_option maxHeartbeats 4000000 in
theorem sign_val (f : Int) (w : World) (ht : signTab w) :
    Calls Tryz.prog 151 #[.int .i64 f] w fun e w' => e = .returned (.string (signV f)) ∧ w' = w := by
  have HT := hide ht
  clear ht
  by_cases h1 : f < 0
  · have e1 : signV f = noText := by unfold signV; rw [if_pos (Or.inl (by omega))]
    rw [e1]
    have E1 := hide e1
    clear e1
    go_enter Tryz.func151, Tryz.ntmps151
    go_wp2
    go_ret
    exact ⟨rfl, rfl⟩
  · by_cases h2 : 9 ≤ f
    · have e1 : signV f = noText := by unfold signV; rw [if_pos (Or.inr (by omega))]
      rw [e1]
      have E1 := hide e1
      clear e1
      go_enter Tryz.func151, Tryz.ntmps151
      go_wp2
      go_ret
      exact ⟨rfl, rfl⟩
    · have hf : f = 0 ∨ f = 1 ∨ f = 2 ∨ f = 3 ∨ f = 4 ∨ f = 5 ∨ f = 6 ∨ f = 7 ∨ f = 8 := by omega
      clear h1 h2
      rcases hf with rfl | rfl | rfl | rfl | rfl | rfl | rfl | rfl | rfl
      · have c := unhide HT 0 (by omega)
        go_enter Tryz.func151, Tryz.ntmps151
        go_wp2
        go_ret
        exact ⟨rfl, rfl⟩
      · have c := unhide HT 1 (by omega)
        go_enter Tryz.func151, Tryz.ntmps151
        go_wp2
        go_ret
        exact ⟨rfl, rfl⟩
      · have c := unhide HT 2 (by omega)
        go_enter Tryz.func151, Tryz.ntmps151
        go_wp2
        go_ret
        exact ⟨rfl, rfl⟩
      · have c := unhide HT 3 (by omega)
        go_enter Tryz.func151, Tryz.ntmps151
        go_wp2
        go_ret
        exact ⟨rfl, rfl⟩
      · have c := unhide HT 4 (by omega)
        go_enter Tryz.func151, Tryz.ntmps151
        go_wp2
        go_ret
        exact ⟨rfl, rfl⟩
      · have c := unhide HT 5 (by omega)
        go_enter Tryz.func151, Tryz.ntmps151
        go_wp2
        go_ret
        exact ⟨rfl, rfl⟩
      · have c := unhide HT 6 (by omega)
        go_enter Tryz.func151, Tryz.ntmps151
        go_wp2
        go_ret
        exact ⟨rfl, rfl⟩
      · have c := unhide HT 7 (by omega)
        go_enter Tryz.func151, Tryz.ntmps151
        go_wp2
        go_ret
        exact ⟨rfl, rfl⟩
      · have c := unhide HT 8 (by omega)
        go_enter Tryz.func151, Tryz.ntmps151
        go_wp2
        go_ret
        exact ⟨rfl, rfl⟩
end Go.Proofs.YtloamahbghjjgaaGreatDoor

namespace Go.Proofs.YtloamahbghjjgaaGreatDoor
open Go.RowKit

def Tk.cells (t : Tk) : Array Value := #[.int .i64 t.kind, .string t.text, .int .i64 t.num, .int .i64 t.fail, .string t.ref.book, .string t.ref.sheet, .int .i64 t.ref.a.col, .int .i64 t.ref.a.row, .bool t.ref.a.fc, .bool t.ref.a.fr, .int .i64 t.ref.b.col, .int .i64 t.ref.b.row, .bool t.ref.b.fc, .bool t.ref.b.fr, .bool t.ref.wide, .int .i64 t.place]
theorem infoTk : (Tryz.prog.info? 116).map (·.size) = some 16 := by kernel_rfl
theorem results_c1tt {P : Program} {fn : Func} {p a b : Tmp} {ty : TypeId} (h : fn.results = #[.cell p ty, .tmp a, .tmp b]) (tmps : Array Value) (w : World) (g : Nat) (t : TypeId) (cs : Array Value) (d : TypeDesc)
    (hp : tmps.getD p undef = .pointer (some ⟨g, 0, none⟩)) (hg : CellsAt w g t cs)
    (hu : P.underlying ty = some d) (hd : (match d with | .struct _ | .array _ _ => true | _ => false) = true) (hi : (P.info? ty).map (·.size) = some cs.size)
    (x : Value) (hx : tmps.getD a undef = x) (y : Value) (hy : tmps.getD b undef = y) :
    (results fn tmps).run P w = .ok (.tuple #[.agg cs, x, y]) w := by
  have hp' : tmps[p]?.getD undef = .pointer (some ⟨g, 0, none⟩) := by simpa using hp
  have hx' : tmps[a]?.getD undef = x := by simpa using hx
  have hy' : tmps[b]?.getD undef = y := by simpa using hy
  simp [results, h, hp', hx', hy', asAddr, run_loadVar_row w g t ty cs (0, 0) d hg hu hd hi]
theorem cells16 {w : World} {B : Nat} {t : TypeId} {v0 v1 v2 v3 v4 v5 v6 v7 v8 v9 v10 v11 v12 v13 v14 v15 : Value} (h : CellsAt w B t #[v0, v1, v2, v3, v4, v5, v6, v7, v8, v9, v10, v11, v12, v13, v14, v15]) :
    w.cell? ⟨B, 0, none⟩ = some v0 ∧ w.cell? ⟨B, 1, none⟩ = some v1 ∧ w.cell? ⟨B, 2, none⟩ = some v2 ∧ w.cell? ⟨B, 3, none⟩ = some v3 ∧ w.cell? ⟨B, 4, none⟩ = some v4 ∧ w.cell? ⟨B, 5, none⟩ = some v5 ∧ w.cell? ⟨B, 6, none⟩ = some v6 ∧ w.cell? ⟨B, 7, none⟩ = some v7 ∧ w.cell? ⟨B, 8, none⟩ = some v8 ∧ w.cell? ⟨B, 9, none⟩ = some v9 ∧ w.cell? ⟨B, 10, none⟩ = some v10 ∧ w.cell? ⟨B, 11, none⟩ = some v11 ∧ w.cell? ⟨B, 12, none⟩ = some v12 ∧ w.cell? ⟨B, 13, none⟩ = some v13 ∧ w.cell? ⟨B, 14, none⟩ = some v14 ∧ w.cell? ⟨B, 15, none⟩ = some v15 := by
  unfold CellsAt at h
  simp [World.cell?, h]
theorem frz16 {w : World} {B : Nat} {t : TypeId} {cs : Array Value} (h : CellsAt w B t cs) :
    w.frozen? ⟨B, 0, none⟩ = false ∧ w.frozen? ⟨B, 1, none⟩ = false ∧ w.frozen? ⟨B, 2, none⟩ = false ∧ w.frozen? ⟨B, 3, none⟩ = false ∧ w.frozen? ⟨B, 4, none⟩ = false ∧ w.frozen? ⟨B, 5, none⟩ = false ∧ w.frozen? ⟨B, 6, none⟩ = false ∧ w.frozen? ⟨B, 7, none⟩ = false ∧ w.frozen? ⟨B, 8, none⟩ = false ∧ w.frozen? ⟨B, 9, none⟩ = false ∧ w.frozen? ⟨B, 10, none⟩ = false ∧ w.frozen? ⟨B, 11, none⟩ = false ∧ w.frozen? ⟨B, 12, none⟩ = false ∧ w.frozen? ⟨B, 13, none⟩ = false ∧ w.frozen? ⟨B, 14, none⟩ = false ∧ w.frozen? ⟨B, 15, none⟩ = false :=
  ⟨cells_f h 0, cells_f h 1, cells_f h 2, cells_f h 3, cells_f h 4, cells_f h 5, cells_f h 6, cells_f h 7, cells_f h 8, cells_f h 9, cells_f h 10, cells_f h 11, cells_f h 12, cells_f h 13, cells_f h 14, cells_f h 15⟩
theorem cells_set16 {w : World} {B : Nat} {t : TypeId} {y0 y1 y2 y3 y4 y5 y6 y7 y8 y9 y10 y11 y12 y13 y14 y15 : Value} (h : CellsAt w B t #[y0, y1, y2, y3, y4, y5, y6, y7, y8, y9, y10, y11, y12, y13, y14, y15]) (x0 x1 x2 x3 x4 x5 x6 x7 x8 x9 x10 x11 x12 x13 x14 x15 : Value) : CellsAt ((((((((((((((((w.setCell ⟨B, 0, none⟩ x0).setCell ⟨B, 1, none⟩ x1).setCell ⟨B, 2, none⟩ x2).setCell ⟨B, 3, none⟩ x3).setCell ⟨B, 4, none⟩ x4).setCell ⟨B, 5, none⟩ x5).setCell ⟨B, 6, none⟩ x6).setCell ⟨B, 7, none⟩ x7).setCell ⟨B, 8, none⟩ x8).setCell ⟨B, 9, none⟩ x9).setCell ⟨B, 10, none⟩ x10).setCell ⟨B, 11, none⟩ x11).setCell ⟨B, 12, none⟩ x12).setCell ⟨B, 13, none⟩ x13).setCell ⟨B, 14, none⟩ x14).setCell ⟨B, 15, none⟩ x15) B t #[x0, x1, x2, x3, x4, x5, x6, x7, x8, x9, x10, x11, x12, x13, x14, x15] := by
  have h0 : CellsAt (w.setCell ⟨B, 0, none⟩ x0) B t #[x0, y1, y2, y3, y4, y5, y6, y7, y8, y9, y10, y11, y12, y13, y14, y15] := cells_set h 0 x0
  have h1 : CellsAt ((w.setCell ⟨B, 0, none⟩ x0).setCell ⟨B, 1, none⟩ x1) B t #[x0, x1, y2, y3, y4, y5, y6, y7, y8, y9, y10, y11, y12, y13, y14, y15] := cells_set h0 1 x1
  have h2 : CellsAt (((w.setCell ⟨B, 0, none⟩ x0).setCell ⟨B, 1, none⟩ x1).setCell ⟨B, 2, none⟩ x2) B t #[x0, x1, x2, y3, y4, y5, y6, y7, y8, y9, y10, y11, y12, y13, y14, y15] := cells_set h1 2 x2
  have h3 : CellsAt ((((w.setCell ⟨B, 0, none⟩ x0).setCell ⟨B, 1, none⟩ x1).setCell ⟨B, 2, none⟩ x2).setCell ⟨B, 3, none⟩ x3) B t #[x0, x1, x2, x3, y4, y5, y6, y7, y8, y9, y10, y11, y12, y13, y14, y15] := cells_set h2 3 x3
  have h4 : CellsAt (((((w.setCell ⟨B, 0, none⟩ x0).setCell ⟨B, 1, none⟩ x1).setCell ⟨B, 2, none⟩ x2).setCell ⟨B, 3, none⟩ x3).setCell ⟨B, 4, none⟩ x4) B t #[x0, x1, x2, x3, x4, y5, y6, y7, y8, y9, y10, y11, y12, y13, y14, y15] := cells_set h3 4 x4
  have h5 : CellsAt ((((((w.setCell ⟨B, 0, none⟩ x0).setCell ⟨B, 1, none⟩ x1).setCell ⟨B, 2, none⟩ x2).setCell ⟨B, 3, none⟩ x3).setCell ⟨B, 4, none⟩ x4).setCell ⟨B, 5, none⟩ x5) B t #[x0, x1, x2, x3, x4, x5, y6, y7, y8, y9, y10, y11, y12, y13, y14, y15] := cells_set h4 5 x5
  have h6 : CellsAt (((((((w.setCell ⟨B, 0, none⟩ x0).setCell ⟨B, 1, none⟩ x1).setCell ⟨B, 2, none⟩ x2).setCell ⟨B, 3, none⟩ x3).setCell ⟨B, 4, none⟩ x4).setCell ⟨B, 5, none⟩ x5).setCell ⟨B, 6, none⟩ x6) B t #[x0, x1, x2, x3, x4, x5, x6, y7, y8, y9, y10, y11, y12, y13, y14, y15] := cells_set h5 6 x6
  have h7 : CellsAt ((((((((w.setCell ⟨B, 0, none⟩ x0).setCell ⟨B, 1, none⟩ x1).setCell ⟨B, 2, none⟩ x2).setCell ⟨B, 3, none⟩ x3).setCell ⟨B, 4, none⟩ x4).setCell ⟨B, 5, none⟩ x5).setCell ⟨B, 6, none⟩ x6).setCell ⟨B, 7, none⟩ x7) B t #[x0, x1, x2, x3, x4, x5, x6, x7, y8, y9, y10, y11, y12, y13, y14, y15] := cells_set h6 7 x7
  have h8 : CellsAt (((((((((w.setCell ⟨B, 0, none⟩ x0).setCell ⟨B, 1, none⟩ x1).setCell ⟨B, 2, none⟩ x2).setCell ⟨B, 3, none⟩ x3).setCell ⟨B, 4, none⟩ x4).setCell ⟨B, 5, none⟩ x5).setCell ⟨B, 6, none⟩ x6).setCell ⟨B, 7, none⟩ x7).setCell ⟨B, 8, none⟩ x8) B t #[x0, x1, x2, x3, x4, x5, x6, x7, x8, y9, y10, y11, y12, y13, y14, y15] := cells_set h7 8 x8
  have h9 : CellsAt ((((((((((w.setCell ⟨B, 0, none⟩ x0).setCell ⟨B, 1, none⟩ x1).setCell ⟨B, 2, none⟩ x2).setCell ⟨B, 3, none⟩ x3).setCell ⟨B, 4, none⟩ x4).setCell ⟨B, 5, none⟩ x5).setCell ⟨B, 6, none⟩ x6).setCell ⟨B, 7, none⟩ x7).setCell ⟨B, 8, none⟩ x8).setCell ⟨B, 9, none⟩ x9) B t #[x0, x1, x2, x3, x4, x5, x6, x7, x8, x9, y10, y11, y12, y13, y14, y15] := cells_set h8 9 x9
  have h10 : CellsAt (((((((((((w.setCell ⟨B, 0, none⟩ x0).setCell ⟨B, 1, none⟩ x1).setCell ⟨B, 2, none⟩ x2).setCell ⟨B, 3, none⟩ x3).setCell ⟨B, 4, none⟩ x4).setCell ⟨B, 5, none⟩ x5).setCell ⟨B, 6, none⟩ x6).setCell ⟨B, 7, none⟩ x7).setCell ⟨B, 8, none⟩ x8).setCell ⟨B, 9, none⟩ x9).setCell ⟨B, 10, none⟩ x10) B t #[x0, x1, x2, x3, x4, x5, x6, x7, x8, x9, x10, y11, y12, y13, y14, y15] := cells_set h9 10 x10
  have h11 : CellsAt ((((((((((((w.setCell ⟨B, 0, none⟩ x0).setCell ⟨B, 1, none⟩ x1).setCell ⟨B, 2, none⟩ x2).setCell ⟨B, 3, none⟩ x3).setCell ⟨B, 4, none⟩ x4).setCell ⟨B, 5, none⟩ x5).setCell ⟨B, 6, none⟩ x6).setCell ⟨B, 7, none⟩ x7).setCell ⟨B, 8, none⟩ x8).setCell ⟨B, 9, none⟩ x9).setCell ⟨B, 10, none⟩ x10).setCell ⟨B, 11, none⟩ x11) B t #[x0, x1, x2, x3, x4, x5, x6, x7, x8, x9, x10, x11, y12, y13, y14, y15] := cells_set h10 11 x11
  have h12 : CellsAt (((((((((((((w.setCell ⟨B, 0, none⟩ x0).setCell ⟨B, 1, none⟩ x1).setCell ⟨B, 2, none⟩ x2).setCell ⟨B, 3, none⟩ x3).setCell ⟨B, 4, none⟩ x4).setCell ⟨B, 5, none⟩ x5).setCell ⟨B, 6, none⟩ x6).setCell ⟨B, 7, none⟩ x7).setCell ⟨B, 8, none⟩ x8).setCell ⟨B, 9, none⟩ x9).setCell ⟨B, 10, none⟩ x10).setCell ⟨B, 11, none⟩ x11).setCell ⟨B, 12, none⟩ x12) B t #[x0, x1, x2, x3, x4, x5, x6, x7, x8, x9, x10, x11, x12, y13, y14, y15] := cells_set h11 12 x12
  have h13 : CellsAt ((((((((((((((w.setCell ⟨B, 0, none⟩ x0).setCell ⟨B, 1, none⟩ x1).setCell ⟨B, 2, none⟩ x2).setCell ⟨B, 3, none⟩ x3).setCell ⟨B, 4, none⟩ x4).setCell ⟨B, 5, none⟩ x5).setCell ⟨B, 6, none⟩ x6).setCell ⟨B, 7, none⟩ x7).setCell ⟨B, 8, none⟩ x8).setCell ⟨B, 9, none⟩ x9).setCell ⟨B, 10, none⟩ x10).setCell ⟨B, 11, none⟩ x11).setCell ⟨B, 12, none⟩ x12).setCell ⟨B, 13, none⟩ x13) B t #[x0, x1, x2, x3, x4, x5, x6, x7, x8, x9, x10, x11, x12, x13, y14, y15] := cells_set h12 13 x13
  have h14 : CellsAt (((((((((((((((w.setCell ⟨B, 0, none⟩ x0).setCell ⟨B, 1, none⟩ x1).setCell ⟨B, 2, none⟩ x2).setCell ⟨B, 3, none⟩ x3).setCell ⟨B, 4, none⟩ x4).setCell ⟨B, 5, none⟩ x5).setCell ⟨B, 6, none⟩ x6).setCell ⟨B, 7, none⟩ x7).setCell ⟨B, 8, none⟩ x8).setCell ⟨B, 9, none⟩ x9).setCell ⟨B, 10, none⟩ x10).setCell ⟨B, 11, none⟩ x11).setCell ⟨B, 12, none⟩ x12).setCell ⟨B, 13, none⟩ x13).setCell ⟨B, 14, none⟩ x14) B t #[x0, x1, x2, x3, x4, x5, x6, x7, x8, x9, x10, x11, x12, x13, x14, y15] := cells_set h13 14 x14
  have h15 : CellsAt ((((((((((((((((w.setCell ⟨B, 0, none⟩ x0).setCell ⟨B, 1, none⟩ x1).setCell ⟨B, 2, none⟩ x2).setCell ⟨B, 3, none⟩ x3).setCell ⟨B, 4, none⟩ x4).setCell ⟨B, 5, none⟩ x5).setCell ⟨B, 6, none⟩ x6).setCell ⟨B, 7, none⟩ x7).setCell ⟨B, 8, none⟩ x8).setCell ⟨B, 9, none⟩ x9).setCell ⟨B, 10, none⟩ x10).setCell ⟨B, 11, none⟩ x11).setCell ⟨B, 12, none⟩ x12).setCell ⟨B, 13, none⟩ x13).setCell ⟨B, 14, none⟩ x14).setCell ⟨B, 15, none⟩ x15) B t #[x0, x1, x2, x3, x4, x5, x6, x7, x8, x9, x10, x11, x12, x13, x14, x15] := cells_set h14 15 x15
  exact h15
theorem below_set16 {w a : World} {N B : Nat} (h : Below N w a) (hB : N ≤ B) (x0 x1 x2 x3 x4 x5 x6 x7 x8 x9 x10 x11 x12 x13 x14 x15 : Value) : Below N w ((((((((((((((((a.setCell ⟨B, 0, none⟩ x0).setCell ⟨B, 1, none⟩ x1).setCell ⟨B, 2, none⟩ x2).setCell ⟨B, 3, none⟩ x3).setCell ⟨B, 4, none⟩ x4).setCell ⟨B, 5, none⟩ x5).setCell ⟨B, 6, none⟩ x6).setCell ⟨B, 7, none⟩ x7).setCell ⟨B, 8, none⟩ x8).setCell ⟨B, 9, none⟩ x9).setCell ⟨B, 10, none⟩ x10).setCell ⟨B, 11, none⟩ x11).setCell ⟨B, 12, none⟩ x12).setCell ⟨B, 13, none⟩ x13).setCell ⟨B, 14, none⟩ x14).setCell ⟨B, 15, none⟩ x15) :=
  below_set (below_set (below_set (below_set (below_set (below_set (below_set (below_set (below_set (below_set (below_set (below_set (below_set (below_set (below_set (below_set (h) hB x0) hB x1) hB x2) hB x3) hB x4) hB x5) hB x6) hB x7) hB x8) hB x9) hB x10) hB x11) hB x12) hB x13) hB x14) hB x15
def twoTab (w : World) : Prop := w.cell? ⟨0, 0, none⟩ = some (.string ⟨#[60, 61]⟩) ∧ w.cell? ⟨0, 1, none⟩ = some (.string ⟨#[62, 61]⟩) ∧ w.cell? ⟨0, 2, none⟩ = some (.string ⟨#[60, 62]⟩)
theorem two_below {w w' : World} (h : twoTab w) (hb : Below w.heap.size w w') : twoTab w' := by
  have hlt : 0 < w.heap.size := by
    rcases Nat.lt_or_ge 0 w.heap.size with h' | h'
    · exact h'
    · have h0 := h.1
      simp [World.cell?, Array.getElem?_eq_none h'] at h0
  unfold twoTab at h ⊢
  rw [hb.cell (p := ⟨0, 0, none⟩) hlt, hb.cell (p := ⟨0, 1, none⟩) hlt, hb.cell (p := ⟨0, 2, none⟩) hlt]
  exact h
structure Env5 (w : World) : Prop where
  e4 : Env4 w
  sg : signTab w
  tw : twoTab w
theorem Env5.below {w w' : World} (h : Env5 w) (hb : Below w.heap.size w w') : Env5 w' := ⟨h.e4.below hb, signs_below h.sg hb, two_below h.tw hb⟩
set_option maxRecDepth 100000 in
set_option maxHeartbeats 4000000 in
theorem number5_val (s : ByteArray) (w : World) (hs : s.size ≤ 1000) (he : Env5 w) :
    Calls Tryz.prog 89 #[.string s] w fun e w' => e = .returned (.tuple #[.agg (numTok s.data.toList).1.cells, .int .i64 (numTok s.data.toList).2.1, .int .i64 (numTok s.data.toList).2.2]) ∧ Below w.heap.size w w' := by
  obtain ⟨rb, hrb⟩ : ∃ rb : ByteArray, rb = ⟨(numR s.data.toList).toArray⟩ := ⟨_, rfl⟩
  have hz : ((rb.size : Nat) : Int) = (((numR s.data.toList).length : Nat) : Int) := by rw [hrb]; rfl
  have hle := tk_len inNumC s.data.toList
  have hsz : rb.size ≤ s.size := by rw [hrb]; exact hle
  have HL := hide (fun w => lead_num s w (by unfold maxLen; omega))
  have HP := hide (fun w (he : Env5 w) => parse_any rb w (by omega) he.e4.len)
  rw [show (⟨(s.data.toList.takeWhile inNumC).toArray⟩ : ByteArray) = rb from hrb.symm] at HL
  rw [show rb.data.toList = numR s.data.toList by rw [hrb]] at HP
  have HE := hide he
  clear he hrb hsz hle
  by_cases h0 : (parseR (numR s.data.toList)).2 = 0
  · have E : numTok s.data.toList = (⟨0, emp, (parseR (numR s.data.toList)).1, 0, zeroF, 0⟩, (numR s.data.toList).length, 0) := by unfold numTok; rw [if_pos h0]
    rw [E]
    rw [h0] at HP
    generalize (parseR (numR s.data.toList)).1 = n at HP ⊢
    show Calls _ _ _ _ fun e w' => e = Ending.returned (Value.tuple #[Value.agg _, Value.int .i64 (((numR s.data.toList).length : Nat) : Int), _]) ∧ _
    rw [← hz]
    clear E h0 hz
    go_enter Tryz.func89, Tryz.ntmps89
    go_upto_region 1 with fail
    have R := hide (cells_new w 116 #[.int .i64 0, .string ⟨#[]⟩, .int .i64 0, .int .i64 0, .string ⟨#[]⟩, .string ⟨#[]⟩, .int .i64 0, .int .i64 0, .bool false, .bool false, .int .i64 0, .int .i64 0, .bool false, .bool false, .bool false, .int .i64 0])
    have HB : Hid (Below w.heap.size w (w.alloc (.cells #[.int .i64 0, .string ⟨#[]⟩, .int .i64 0, .int .i64 0, .string ⟨#[]⟩, .string ⟨#[]⟩, .int .i64 0, .int .i64 0, .bool false, .bool false, .int .i64 0, .int .i64 0, .bool false, .bool false, .bool false, .int .i64 0] 116))) := hide (below_al _ _)
    generalize hW : w.alloc (.cells #[.int .i64 0, .string ⟨#[]⟩, .int .i64 0, .int .i64 0, .string ⟨#[]⟩, .string ⟨#[]⟩, .int .i64 0, .int .i64 0, .bool false, .bool false, .int .i64 0, .int .i64 0, .bool false, .bool false, .bool false, .int .i64 0] 116) = W0 at R HB ⊢
    clear hW
    go_wp2_with fail
    refine (unhide HL _).mono ?_
    rintro e wk1 ⟨rfl, rfl⟩
    go_wp2_with fail
    refine (unhide HP _ ((unhide HE).below (unhide HB))).mono ?_
    rintro e wk2 ⟨rfl, bk2⟩
    replace R := hide (cells_nx (unhide R) bk2)
    replace HB := hide (below_nx (unhide HB) bk2)
    clear bk2
    obtain ⟨r_0, r_1, r_2, r_3, r_4, r_5, r_6, r_7, r_8, r_9, r_10, r_11, r_12, r_13, r_14, r_15⟩ := cells16 (unhide R)
    obtain ⟨fz_0, fz_1, fz_2, fz_3, fz_4, fz_5, fz_6, fz_7, fz_8, fz_9, fz_10, fz_11, fz_12, fz_13, fz_14, fz_15⟩ := frz16 (unhide R)
    go_wp2
    refine bodyPost_ret (results_c1tt rfl _ _ _ _ _ _ rfl (cells_set16 (unhide R) _ _ _ _ _ _ _ _ _ _ _ _ _ _ _ _) Tryz.underlying116 rfl (by exact infoTk) _ rfl _ rfl) rfl ?_
    exact ⟨rfl, below_set16 (unhide HB) (Nat.le_refl _) _ _ _ _ _ _ _ _ _ _ _ _ _ _ _ _⟩
  · have E : numTok s.data.toList = badT (parseR (numR s.data.toList)).2 := by unfold numTok; rw [if_neg h0]
    rw [E]
    generalize (parseR (numR s.data.toList)).1 = n at HP ⊢
    generalize (parseR (numR s.data.toList)).2 = x at HP h0 ⊢
    clear E hz
    go_enter Tryz.func89, Tryz.ntmps89
    go_upto_region 1 with fail
    have R := hide (cells_new w 116 #[.int .i64 0, .string ⟨#[]⟩, .int .i64 0, .int .i64 0, .string ⟨#[]⟩, .string ⟨#[]⟩, .int .i64 0, .int .i64 0, .bool false, .bool false, .int .i64 0, .int .i64 0, .bool false, .bool false, .bool false, .int .i64 0])
    have HB : Hid (Below w.heap.size w (w.alloc (.cells #[.int .i64 0, .string ⟨#[]⟩, .int .i64 0, .int .i64 0, .string ⟨#[]⟩, .string ⟨#[]⟩, .int .i64 0, .int .i64 0, .bool false, .bool false, .int .i64 0, .int .i64 0, .bool false, .bool false, .bool false, .int .i64 0] 116))) := hide (below_al _ _)
    generalize hW : w.alloc (.cells #[.int .i64 0, .string ⟨#[]⟩, .int .i64 0, .int .i64 0, .string ⟨#[]⟩, .string ⟨#[]⟩, .int .i64 0, .int .i64 0, .bool false, .bool false, .int .i64 0, .int .i64 0, .bool false, .bool false, .bool false, .int .i64 0] 116) = W0 at R HB ⊢
    clear hW
    go_wp2_with fail
    refine (unhide HL _).mono ?_
    rintro e wk1 ⟨rfl, rfl⟩
    go_wp2_with fail
    refine (unhide HP _ ((unhide HE).below (unhide HB))).mono ?_
    rintro e wk2 ⟨rfl, bk2⟩
    replace R := hide (cells_nx (unhide R) bk2)
    replace HB := hide (below_nx (unhide HB) bk2)
    clear bk2
    obtain ⟨r_0, r_1, r_2, r_3, r_4, r_5, r_6, r_7, r_8, r_9, r_10, r_11, r_12, r_13, r_14, r_15⟩ := cells16 (unhide R)
    obtain ⟨fz_0, fz_1, fz_2, fz_3, fz_4, fz_5, fz_6, fz_7, fz_8, fz_9, fz_10, fz_11, fz_12, fz_13, fz_14, fz_15⟩ := frz16 (unhide R)
    go_wp2
    refine bodyPost_ret (results_c1tt rfl _ _ _ _ _ _ rfl (cells_set16 (unhide R) _ _ _ _ _ _ _ _ _ _ _ _ _ _ _ _) Tryz.underlying116 rfl (by exact infoTk) _ rfl _ rfl) rfl ?_
    exact ⟨rfl, below_set16 (unhide HB) (Nat.le_refl _) _ _ _ _ _ _ _ _ _ _ _ _ _ _ _ _⟩
end Go.Proofs.YtloamahbghjjgaaGreatDoor

namespace Go.Proofs.YtloamahbghjjgaaGreatDoor
open Go.RowKit

def endB (l : List UInt8) : Bool := (qIn l.tail).isSome
def endN (l : List UInt8) : Nat := ((qIn l.tail).map (·.2)).getD 0
theorem pre_two (m : List UInt8) : Lib.hasPrefix m [34, 34] = true ↔ m.take 2 = [34, 34] := by
  unfold Lib.hasPrefix
  match m with
  | [] => simp [List.isPrefixOf]
  | [c] => simp [List.isPrefixOf]
  | c :: d :: m =>
    simp only [List.isPrefixOf, List.take_succ_cons, List.take_zero, Bool.and_eq_true, beq_iff_eq, and_true, List.cons.injEq]
    constructor
    · rintro ⟨rfl, rfl⟩; exact ⟨rfl, rfl⟩
    · rintro ⟨rfl, rfl⟩; exact ⟨rfl, rfl⟩
theorem pre_one (m : List UInt8) (c : UInt8) : Lib.hasPrefix m [c] = true ↔ m.head? = some c := by
  unfold Lib.hasPrefix
  cases m with
  | nil => simp [List.isPrefixOf]
  | cons d m =>
    simp only [List.isPrefixOf, Bool.and_true, beq_iff_eq, List.head?_cons, Option.some.injEq]
    exact ⟨fun h => h.symm, fun h => h.symm⟩
theorem head5_at (s : ByteArray) (k : Nat) (h : k < s.size) : (s.data.toList.drop k).head? = some s[k] := by
  have hk : k < s.data.toList.length := h
  rw [List.drop_eq_getElem_cons hk]; rfl
set_option maxRecDepth 100000 in
set_option maxHeartbeats 2000000 in
theorem closing_val (s : ByteArray) (w : World) (hs : s.size ≤ 1000) (h1 : 1 ≤ s.size) :
    Calls Tryz.prog 149 #[.string s] w fun e w' => e = .returned (.tuple #[.int .i64 ((endN s.data.toList : Nat) : Int), .bool (endB s.data.toList)]) ∧ w' = w := by
  have hsz : s.data.toList.length = s.size := rfl
  have HS := hide hsz
  clear hsz
  have HT := hide (fun (k : Nat) w => Tryz.strings_HasPrefix (s.extract k s.size) ⟨#[34, 34]⟩ w)
  have HO := hide (fun (k : Nat) w => Tryz.strings_HasPrefix (s.extract k s.size) ⟨#[34]⟩ w)
  have HX := hide (fun (k : Nat) => show (s.extract k s.size).data.toList = s.data.toList.drop k by rw [ext_drop])
  go_enter Tryz.func149, Tryz.ntmps149
  go_wp2
  go_loop [4] (fun i => ∃ k : Nat, 1 ≤ k ∧ k ≤ s.size ∧ i = .int .i64 k ∧ Hid (QRel s.data.toList k)) (fun i => s.size - (intOf i).toNat)
  case atStart => exact ⟨1, by omega, h1, rfl, hide (QRel.first _)⟩
  case round =>
    obtain ⟨k, hk1, hk, rfl, HQ⟩ := hrel
    have i1 : (0 : Int) ≤ (k : Int) := by omega
    have i2 : (k : Int) ≤ (s.size : Int) := by omega
    by_cases hlt : k < s.size
    · have HT1 := hide (unhide HT k)
      have HO1 := hide (unhide HO k)
      rw [unhide HX k] at HT1 HO1
      cases h2 : Lib.hasPrefix (s.data.toList.drop k) [34, 34]
      · have n2 : Hid (¬ (s.data.toList.drop k).take 2 = [34, 34]) := hide (fun e => by rw [(pre_two _).2 e] at h2; exact absurd h2 (by decide))
        rw [h2] at HT1
        clear h2
        cases h3 : Lib.hasPrefix (s.data.toList.drop k) [34]
        · have n3 : Hid (¬ (s.data.toList.drop k).head? = some 34) := hide (fun e => by rw [(pre_one _ 34).2 e] at h3; exact absurd h3 (by decide))
          have hq' : Hid (QRel s.data.toList (k + 1)) := hide ((unhide HQ).on hk1 s[k] (head5_at s k hlt) (fun e => unhide n3 (by rw [head5_at s k hlt, e])))
          rw [h3] at HO1
          clear h3
          go_wp2_with fail
          refine (unhide HT1 _).mono ?_
          rintro e w1 ⟨rfl, rfl⟩
          go_wp2_with fail
          refine (unhide HO1 _).mono ?_
          rintro e w2 ⟨rfl, rfl⟩
          go_wp2
          go_round
          case rel => exact ⟨k + 1, by omega, by omega, by go_num, hq'⟩
          case measure => simp [intOf]; omega
        · have HZ : Hid ((qIn s.data.toList.tail).map (·.2) = some k) := hide ((unhide HQ).stop hk1 ((pre_one _ 34).1 h3) (unhide n2))
          rw [h3] at HO1
          clear h3
          go_wp2_with fail
          refine (unhide HT1 _).mono ?_
          rintro e w1 ⟨rfl, rfl⟩
          go_wp2_with fail
          refine (unhide HO1 _).mono ?_
          rintro e w2 ⟨rfl, rfl⟩
          go_wp2
          go_ret2
          refine ⟨?_, rfl⟩
          have z := unhide HZ
          have zn : endN s.data.toList = k := by unfold endN; rw [z]; rfl
          have zb : endB s.data.toList = true := by
            unfold endB
            cases hq : qIn s.data.toList.tail with
            | none => rw [hq] at z; cases z
            | some p => rfl
          rw [zn, zb]
          rfl
      · have t2 := (pre_two _).1 h2
        have hq' : Hid (QRel s.data.toList (k + 2)) := hide ((unhide HQ).two hk1 t2)
        have hl2 : k + 2 ≤ s.size := by
          have := congrArg List.length t2
          rw [List.length_take, List.length_drop, unhide HS] at this
          simp only [List.length_cons, List.length_nil] at this
          omega
        rw [h2] at HT1
        clear h2 t2
        go_wp2_with fail
        refine (unhide HT1 _).mono ?_
        rintro e w1 ⟨rfl, rfl⟩
        go_wp2
        go_round
        case rel => exact ⟨k + 2, by omega, hl2, by go_num, hq'⟩
        case measure => simp [intOf]; omega
    · have HZ : Hid ((qIn s.data.toList.tail).map (·.2) = none) := hide ((unhide HQ).none (by rw [unhide HS]; omega))
      go_wp2
      go_ret2
      refine ⟨?_, rfl⟩
      have z := unhide HZ
      have zn : endN s.data.toList = 0 := by unfold endN; rw [z]; rfl
      have zb : endB s.data.toList = false := by
        unfold endB
        cases hq : qIn s.data.toList.tail with
        | none => rfl
        | some p => rw [hq] at z; cases z
      rw [zn, zb]
      rfl
theorem tail_drop (l : List UInt8) : l.drop 1 = l.tail := by cases l <;> rfl
set_option maxRecDepth 100000 in
set_option maxHeartbeats 4000000 in
theorem text5_val (s : ByteArray) (w : World) (hs : s.size ≤ 1000) (h1 : 1 ≤ s.size) (he : Env5 w) :
    Calls Tryz.prog 94 #[.string s] w fun e w' => e = .returned (.tuple #[.agg (textTok s.data.toList).1.cells, .int .i64 (textTok s.data.toList).2.1, .int .i64 (textTok s.data.toList).2.2]) ∧ Below w.heap.size w w' := by
  have HC := hide (fun w => closing_val s w hs h1)
  have HE := hide he
  clear he
  cases hq : qIn s.data.toList.tail with
  | none =>
    have E : textTok s.data.toList = badT 4 := by unfold textTok; rw [hq]
    rw [E]
    rw [show endN s.data.toList = 0 by unfold endN; rw [hq]; rfl, show endB s.data.toList = false by unfold endB; rw [hq]; rfl] at HC
    clear E hq
    go_enter Tryz.func94, Tryz.ntmps94
    go_upto_region 1 with fail
    have R := hide (cells_new w 116 #[.int .i64 0, .string ⟨#[]⟩, .int .i64 0, .int .i64 0, .string ⟨#[]⟩, .string ⟨#[]⟩, .int .i64 0, .int .i64 0, .bool false, .bool false, .int .i64 0, .int .i64 0, .bool false, .bool false, .bool false, .int .i64 0])
    have HB : Hid (Below w.heap.size w (w.alloc (.cells #[.int .i64 0, .string ⟨#[]⟩, .int .i64 0, .int .i64 0, .string ⟨#[]⟩, .string ⟨#[]⟩, .int .i64 0, .int .i64 0, .bool false, .bool false, .int .i64 0, .int .i64 0, .bool false, .bool false, .bool false, .int .i64 0] 116))) := hide (below_al _ _)
    generalize hW : w.alloc (.cells #[.int .i64 0, .string ⟨#[]⟩, .int .i64 0, .int .i64 0, .string ⟨#[]⟩, .string ⟨#[]⟩, .int .i64 0, .int .i64 0, .bool false, .bool false, .int .i64 0, .int .i64 0, .bool false, .bool false, .bool false, .int .i64 0] 116) = W0 at R HB ⊢
    clear hW
    go_wp2_with fail
    refine (unhide HC _).mono ?_
    rintro e wk1 ⟨rfl, rfl⟩
    obtain ⟨r_0, r_1, r_2, r_3, r_4, r_5, r_6, r_7, r_8, r_9, r_10, r_11, r_12, r_13, r_14, r_15⟩ := cells16 (unhide R)
    obtain ⟨fz_0, fz_1, fz_2, fz_3, fz_4, fz_5, fz_6, fz_7, fz_8, fz_9, fz_10, fz_11, fz_12, fz_13, fz_14, fz_15⟩ := frz16 (unhide R)
    go_wp2
    refine bodyPost_ret (results_c1tt rfl _ _ _ _ _ _ rfl (cells_set16 (unhide R) _ _ _ _ _ _ _ _ _ _ _ _ _ _ _ _) Tryz.underlying116 rfl (by exact infoTk) _ rfl _ rfl) rfl ?_
    exact ⟨rfl, below_set16 (unhide HB) (Nat.le_refl _) _ _ _ _ _ _ _ _ _ _ _ _ _ _ _ _⟩
  | some p =>
    have hl := qIn_len _ p hq
    have htl : s.data.toList.tail.length = s.size - 1 := by rw [List.length_tail]; rfl
    rw [htl] at hl
    have hx : (s.extract 1 p.2).data.toList = s.data.toList.tail.take (p.2 - 1) := by
      rw [Lib.extract_eq, ← tail_drop]
    have hxs : (s.extract 1 p.2).size ≤ 1000 := by
      have : (s.extract 1 p.2).data.toList.length ≤ 1000 := by rw [hx, List.length_take]; omega
      exact this
    have hcn := Lib.count_le (s.extract 1 p.2).data.toList [34, 34]
    have hxl : (s.extract 1 p.2).data.toList.length = (s.extract 1 p.2).size := rfl
    have HR := hide (fun w (he : Env5 w) => he.e4.len.elim fun m hm => Tryz.strings_ReplaceAll (s.extract 1 p.2) ⟨#[34, 34]⟩ ⟨#[34]⟩ m w (by omega) hm (by decide) (by
      show (s.extract 1 p.2).size + Lib.count (s.extract 1 p.2).data.toList [34, 34] * 1 ≤ 140737488355328
      omega))
    rw [hx, show (⟨#[34, 34]⟩ : ByteArray).data.toList = [34, 34] from rfl, show (⟨#[34]⟩ : ByteArray).data.toList = [34] from rfl, all_sqz, q_sqz _ p hq] at HR
    rw [show endN s.data.toList = p.2 by unfold endN; rw [hq]; rfl, show endB s.data.toList = true by unfold endB; rw [hq]; rfl] at HC
    have E0 : textTok s.data.toList = if 255 < p.1.length then badT 7 else (⟨1, ⟨p.1.toArray⟩, 0, 0, zeroF, 0⟩, p.2 + 1, 0) := by unfold textTok; rw [hq]
    rw [E0]
    clear E0 hq hx hxs hcn hxl htl
    obtain ⟨c, n⟩ := p
    simp only [] at HR HC hl ⊢
    have hcb : ((⟨c.toArray⟩ : ByteArray).size : Int) = ((c.length : Nat) : Int) := rfl
    generalize (⟨c.toArray⟩ : ByteArray) = cb at HR hcb ⊢
    have i0 : (1 : Int) ≤ (n : Int) := by omega
    have i2 : (n : Int) ≤ (s.size : Int) := by omega
    by_cases h5 : 255 < c.length
    · rw [if_pos h5]
      have h5i : 255 < ((cb.size : Nat) : Int) := by omega
      clear h5 hcb
      go_enter Tryz.func94, Tryz.ntmps94
      go_upto_region 1 with fail
      have R := hide (cells_new w 116 #[.int .i64 0, .string ⟨#[]⟩, .int .i64 0, .int .i64 0, .string ⟨#[]⟩, .string ⟨#[]⟩, .int .i64 0, .int .i64 0, .bool false, .bool false, .int .i64 0, .int .i64 0, .bool false, .bool false, .bool false, .int .i64 0])
      have HB : Hid (Below w.heap.size w (w.alloc (.cells #[.int .i64 0, .string ⟨#[]⟩, .int .i64 0, .int .i64 0, .string ⟨#[]⟩, .string ⟨#[]⟩, .int .i64 0, .int .i64 0, .bool false, .bool false, .int .i64 0, .int .i64 0, .bool false, .bool false, .bool false, .int .i64 0] 116))) := hide (below_al _ _)
      generalize hW : w.alloc (.cells #[.int .i64 0, .string ⟨#[]⟩, .int .i64 0, .int .i64 0, .string ⟨#[]⟩, .string ⟨#[]⟩, .int .i64 0, .int .i64 0, .bool false, .bool false, .int .i64 0, .int .i64 0, .bool false, .bool false, .bool false, .int .i64 0] 116) = W0 at R HB ⊢
      clear hW
      go_wp2_with fail
      refine (unhide HC _).mono ?_
      rintro e wk1 ⟨rfl, rfl⟩
      go_wp2_with fail
      refine (unhide HR _ ((unhide HE).below (unhide HB))).mono ?_
      rintro e wk2 ⟨rfl, bk2⟩
      replace R := hide (cells_nx (unhide R) bk2)
      replace HB := hide (below_nx (unhide HB) bk2)
      clear bk2
      obtain ⟨r_0, r_1, r_2, r_3, r_4, r_5, r_6, r_7, r_8, r_9, r_10, r_11, r_12, r_13, r_14, r_15⟩ := cells16 (unhide R)
      obtain ⟨fz_0, fz_1, fz_2, fz_3, fz_4, fz_5, fz_6, fz_7, fz_8, fz_9, fz_10, fz_11, fz_12, fz_13, fz_14, fz_15⟩ := frz16 (unhide R)
      go_wp2
      refine bodyPost_ret (results_c1tt rfl _ _ _ _ _ _ rfl (cells_set16 (unhide R) _ _ _ _ _ _ _ _ _ _ _ _ _ _ _ _) Tryz.underlying116 rfl (by exact infoTk) _ rfl _ rfl) rfl ?_
      exact ⟨rfl, below_set16 (unhide HB) (Nat.le_refl _) _ _ _ _ _ _ _ _ _ _ _ _ _ _ _ _⟩
    · rw [if_neg h5]
      have h5i : ¬ 255 < ((cb.size : Nat) : Int) := by omega
      have h5j : ((cb.size : Nat) : Int) ≤ 255 := by omega
      have hw : IntKind.i64.wrap ((n : Int) + 1) = ((n + 1 : Nat) : Int) := IntWalk.i64_in _ (by omega)
      clear h5 hcb
      go_enter Tryz.func94, Tryz.ntmps94
      go_upto_region 1 with fail
      have R := hide (cells_new w 116 #[.int .i64 0, .string ⟨#[]⟩, .int .i64 0, .int .i64 0, .string ⟨#[]⟩, .string ⟨#[]⟩, .int .i64 0, .int .i64 0, .bool false, .bool false, .int .i64 0, .int .i64 0, .bool false, .bool false, .bool false, .int .i64 0])
      have HB : Hid (Below w.heap.size w (w.alloc (.cells #[.int .i64 0, .string ⟨#[]⟩, .int .i64 0, .int .i64 0, .string ⟨#[]⟩, .string ⟨#[]⟩, .int .i64 0, .int .i64 0, .bool false, .bool false, .int .i64 0, .int .i64 0, .bool false, .bool false, .bool false, .int .i64 0] 116))) := hide (below_al _ _)
      generalize hW : w.alloc (.cells #[.int .i64 0, .string ⟨#[]⟩, .int .i64 0, .int .i64 0, .string ⟨#[]⟩, .string ⟨#[]⟩, .int .i64 0, .int .i64 0, .bool false, .bool false, .int .i64 0, .int .i64 0, .bool false, .bool false, .bool false, .int .i64 0] 116) = W0 at R HB ⊢
      clear hW
      go_wp2_with fail
      refine (unhide HC _).mono ?_
      rintro e wk1 ⟨rfl, rfl⟩
      go_wp2_with fail
      refine (unhide HR _ ((unhide HE).below (unhide HB))).mono ?_
      rintro e wk2 ⟨rfl, bk2⟩
      replace R := hide (cells_nx (unhide R) bk2)
      replace HB := hide (below_nx (unhide HB) bk2)
      clear bk2
      obtain ⟨r_0, r_1, r_2, r_3, r_4, r_5, r_6, r_7, r_8, r_9, r_10, r_11, r_12, r_13, r_14, r_15⟩ := cells16 (unhide R)
      obtain ⟨fz_0, fz_1, fz_2, fz_3, fz_4, fz_5, fz_6, fz_7, fz_8, fz_9, fz_10, fz_11, fz_12, fz_13, fz_14, fz_15⟩ := frz16 (unhide R)
      go_wp2
      refine bodyPost_ret (results_c1tt rfl _ _ _ _ _ _ rfl (cells_set16 (unhide R) _ _ _ _ _ _ _ _ _ _ _ _ _ _ _ _) Tryz.underlying116 rfl (by exact infoTk) _ rfl _ rfl) rfl ?_
      exact ⟨rfl, below_set16 (unhide HB) (Nat.le_refl _) _ _ _ _ _ _ _ _ _ _ _ _ _ _ _ _⟩
end Go.Proofs.YtloamahbghjjgaaGreatDoor

namespace Go.Proofs.YtloamahbghjjgaaGreatDoor
open Go.RowKit

theorem idx3_0 (a b c : ByteArray) (w : World) : (Instr.index 186 (.agg #[.string a, .string b, .string c]) (.int .i64 0)).run Tryz.prog w = .ok (.string a) w := by
  simp [Instr.index, run_underlying Tryz.underlying186, asIntOf, go_sem]
theorem idx3_1 (a b c : ByteArray) (w : World) : (Instr.index 186 (.agg #[.string a, .string b, .string c]) (.int .i64 1)).run Tryz.prog w = .ok (.string b) w := by
  simp [Instr.index, run_underlying Tryz.underlying186, asIntOf, go_sem]
theorem idx3_2 (a b c : ByteArray) (w : World) : (Instr.index 186 (.agg #[.string a, .string b, .string c]) (.int .i64 2)).run Tryz.prog w = .ok (.string c) w := by
  simp [Instr.index, run_underlying Tryz.underlying186, asIntOf, go_sem]
set_option maxRecDepth 100000 in
set_option maxHeartbeats 2000000 in
theorem operator_val (s : ByteArray) (w : World) (h1 : 1 ≤ s.size) (ht : twoTab w) :
    Calls Tryz.prog 93 #[.string s] w fun e w' => e = .returned (.string ⟨(s.data.toList.take (opN s.data.toList)).toArray⟩) ∧ w' = w := by
  obtain ⟨t0, t1, t2⟩ := ht
  have HP := hide (fun (p : ByteArray) w => Tryz.strings_HasPrefix s p w)
  have HA := hide (unhide HP ⟨#[60, 61]⟩)
  have HB := hide (unhide HP ⟨#[62, 61]⟩)
  have HC := hide (unhide HP ⟨#[60, 62]⟩)
  rw [show (⟨#[60, 61]⟩ : ByteArray).data.toList = [60, 61] from rfl] at HA
  rw [show (⟨#[62, 61]⟩ : ByteArray).data.toList = [62, 61] from rfl] at HB
  rw [show (⟨#[60, 62]⟩ : ByteArray).data.toList = [60, 62] from rfl] at HC
  clear HP
  have hx := ext_take s 1
  obtain ⟨l, hl⟩ : ∃ l, s.data.toList = l := ⟨_, rfl⟩
  have hlen : 1 ≤ l.length := by rw [← hl]; exact h1
  rw [hl] at HA HB HC hx ⊢
  have i2 : (1 : Int) ≤ (s.size : Int) := by omega
  clear hl h1
  have HX := hide hx
  clear hx
  have key : (Lib.hasPrefix l [60, 61] = true → l.take (opN l) = [60, 61]) ∧ (Lib.hasPrefix l [62, 61] = true → l.take (opN l) = [62, 61]) ∧ (Lib.hasPrefix l [60, 62] = true → l.take (opN l) = [60, 62]) ∧
      (Lib.hasPrefix l [60, 61] = false → Lib.hasPrefix l [62, 61] = false → Lib.hasPrefix l [60, 62] = false → opN l = 1) := by
    unfold Lib.hasPrefix opN
    match l, hlen with
    | [c], _ => simp [List.isPrefixOf, twoB]
    | c :: d :: m, _ =>
      simp only [List.isPrefixOf, Bool.and_true]
      refine ⟨?_, ?_, ?_, ?_⟩
      · intro h; simp only [Bool.and_eq_true, beq_iff_eq] at h; obtain ⟨rfl, rfl⟩ := h; rfl
      · intro h; simp only [Bool.and_eq_true, beq_iff_eq] at h; obtain ⟨rfl, rfl⟩ := h; rfl
      · intro h; simp only [Bool.and_eq_true, beq_iff_eq] at h; obtain ⟨rfl, rfl⟩ := h; rfl
      · intro a b e
        have : twoB (c :: d :: m) = false := by
          unfold twoB
          rw [Bool.or_eq_false_iff, Bool.and_eq_false_iff, Bool.and_eq_false_iff, Bool.or_eq_false_iff]
          rw [Bool.and_eq_false_iff] at a b e
          simp only [beq_eq_false_iff_ne] at a b e ⊢
          refine ⟨?_, ?_⟩
          · by_cases hd : d = 61
            · subst hd
              right
              exact ⟨fun hc => by subst hc; rcases a with h | h <;> exact h rfl, fun hc => by subst hc; rcases b with h | h <;> exact h rfl⟩
            · exact Or.inl hd
          · by_cases hc : c = 60
            · subst hc
              right
              rcases e with h | h
              · exact absurd rfl h
              · exact fun hd => h hd.symm
            · exact Or.inl hc
        rw [this]; rfl
  obtain ⟨k1, k2, k3, k4⟩ := key
  clear hlen
  cases a1 : Lib.hasPrefix l [60, 61]
  · rw [a1] at HA
    cases a2 : Lib.hasPrefix l [62, 61]
    · rw [a2] at HB
      cases a3 : Lib.hasPrefix l [60, 62]
      · rw [a3] at HC
        rw [k4 a1 a2 a3]
        clear k1 k2 k3 k4 a1 a2 a3
        go_enter Tryz.func93, Tryz.ntmps93
        go_wp2
        go_loop [6] (fun i => ∃ k : Nat, k ≤ 3 ∧ i = .int .i64 k) (fun i => 3 - (intOf i).toNat)
        case atStart => exact ⟨0, by omega, rfl⟩
        case round =>
          obtain ⟨k, hk, rfl⟩ := hrel
          have hk0 : k = 0 ∨ k = 1 ∨ k = 2 ∨ k = 3 := by omega
          clear hk
          rcases hk0 with rfl | rfl | rfl | rfl
          · have ix := idx3_0 ⟨#[60, 61]⟩ ⟨#[62, 61]⟩ ⟨#[60, 62]⟩ w
            go_wp2_with fail
            refine (unhide HA _).mono ?_
            rintro e w1 ⟨rfl, rfl⟩
            go_wp2
            go_round
            case rel => exact ⟨1, by omega, by go_num⟩
            case measure => simp [intOf]
          · have ix := idx3_1 ⟨#[60, 61]⟩ ⟨#[62, 61]⟩ ⟨#[60, 62]⟩ w
            go_wp2_with fail
            refine (unhide HB _).mono ?_
            rintro e w1 ⟨rfl, rfl⟩
            go_wp2
            go_round
            case rel => exact ⟨2, by omega, by go_num⟩
            case measure => simp [intOf]
          · have ix := idx3_2 ⟨#[60, 61]⟩ ⟨#[62, 61]⟩ ⟨#[60, 62]⟩ w
            go_wp2_with fail
            refine (unhide HC _).mono ?_
            rintro e w1 ⟨rfl, rfl⟩
            go_wp2
            go_round
            case rel => exact ⟨3, by omega, by go_num⟩
            case measure => simp [intOf]
          · go_wp2
            go_ret
            exact ⟨by rw [← unhide HX]; rfl, rfl⟩
      · rw [a3] at HC
        rw [k3 a3]
        clear k1 k2 k3 k4 a1 a2 a3 HX
        go_enter Tryz.func93, Tryz.ntmps93
        go_wp2
        go_loop [6] (fun i => ∃ k : Nat, k ≤ 2 ∧ i = .int .i64 k) (fun i => 3 - (intOf i).toNat)
        case atStart => exact ⟨0, by omega, rfl⟩
        case round =>
          obtain ⟨k, hk, rfl⟩ := hrel
          have hk0 : k = 0 ∨ k = 1 ∨ k = 2 := by omega
          clear hk
          rcases hk0 with rfl | rfl | rfl
          · have ix := idx3_0 ⟨#[60, 61]⟩ ⟨#[62, 61]⟩ ⟨#[60, 62]⟩ w
            go_wp2_with fail
            refine (unhide HA _).mono ?_
            rintro e w1 ⟨rfl, rfl⟩
            go_wp2
            go_round
            case rel => exact ⟨1, by omega, by go_num⟩
            case measure => simp [intOf]
          · have ix := idx3_1 ⟨#[60, 61]⟩ ⟨#[62, 61]⟩ ⟨#[60, 62]⟩ w
            go_wp2_with fail
            refine (unhide HB _).mono ?_
            rintro e w1 ⟨rfl, rfl⟩
            go_wp2
            go_round
            case rel => exact ⟨2, by omega, by go_num⟩
            case measure => simp [intOf]
          · have ix := idx3_2 ⟨#[60, 61]⟩ ⟨#[62, 61]⟩ ⟨#[60, 62]⟩ w
            go_wp2_with fail
            refine (unhide HC _).mono ?_
            rintro e w1 ⟨rfl, rfl⟩
            go_wp2
            go_ret
            exact ⟨rfl, rfl⟩
    · rw [a2] at HB
      rw [k2 a2]
      clear k1 k2 k3 k4 a1 a2 HC HX
      go_enter Tryz.func93, Tryz.ntmps93
      go_wp2
      go_loop [6] (fun i => ∃ k : Nat, k ≤ 1 ∧ i = .int .i64 k) (fun i => 3 - (intOf i).toNat)
      case atStart => exact ⟨0, by omega, rfl⟩
      case round =>
        obtain ⟨k, hk, rfl⟩ := hrel
        have hk0 : k = 0 ∨ k = 1 := by omega
        clear hk
        rcases hk0 with rfl | rfl
        · have ix := idx3_0 ⟨#[60, 61]⟩ ⟨#[62, 61]⟩ ⟨#[60, 62]⟩ w
          go_wp2_with fail
          refine (unhide HA _).mono ?_
          rintro e w1 ⟨rfl, rfl⟩
          go_wp2
          go_round
          case rel => exact ⟨1, by omega, by go_num⟩
          case measure => simp [intOf]
        · have ix := idx3_1 ⟨#[60, 61]⟩ ⟨#[62, 61]⟩ ⟨#[60, 62]⟩ w
          go_wp2_with fail
          refine (unhide HB _).mono ?_
          rintro e w1 ⟨rfl, rfl⟩
          go_wp2
          go_ret
          exact ⟨rfl, rfl⟩
  · rw [a1] at HA
    rw [k1 a1]
    clear k1 k2 k3 k4 a1 HB HC HX
    go_enter Tryz.func93, Tryz.ntmps93
    go_wp2
    go_loop [6] (fun i => ∃ k : Nat, k ≤ 0 ∧ i = .int .i64 k) (fun i => 3 - (intOf i).toNat)
    case atStart => exact ⟨0, by omega, rfl⟩
    case round =>
      obtain ⟨k, hk, rfl⟩ := hrel
      have hk0 : k = 0 := by omega
      clear hk
      rcases hk0 with rfl
      · have ix := idx3_0 ⟨#[60, 61]⟩ ⟨#[62, 61]⟩ ⟨#[60, 62]⟩ w
        go_wp2_with fail
        refine (unhide HA _).mono ?_
        rintro e w1 ⟨rfl, rfl⟩
        go_wp2
        go_ret
        exact ⟨rfl, rfl⟩
def NoFit (l : List UInt8) (k : Int) : Prop := ∀ f ∈ failsL, f < k → (sigL f).isPrefixOf l = false
theorem fit_here (l : List UInt8) (k : Int) (hk : k ∈ failsL) (h : NoFit l k) (hp : (sigL k).isPrefixOf l = true) : failsL.find? (fun f => (sigL f).isPrefixOf l) = some k := by
  unfold NoFit at h
  unfold failsL at hk h ⊢
  simp only [List.mem_cons, List.not_mem_nil, or_false] at hk h
  rcases hk with rfl | rfl | rfl | rfl | rfl | rfl | rfl | rfl <;> simp only [List.find?_cons, hp] <;> (try rw [h 1 (by simp) (by omega)]) <;> (try rw [h 2 (by simp) (by omega)]) <;> (try rw [h 3 (by simp) (by omega)]) <;> (try rw [h 4 (by simp) (by omega)]) <;> (try rw [h 5 (by simp) (by omega)]) <;> (try rw [h 6 (by simp) (by omega)]) <;> (try rw [h 7 (by simp) (by omega)])
theorem fit_none (l : List UInt8) (h : NoFit l 9) : failsL.find? (fun f => (sigL f).isPrefixOf l) = none := by
  rw [List.find?_eq_none]
  intro f hf
  have : f < 9 := by
    unfold failsL at hf
    simp only [List.mem_cons, List.not_mem_nil, or_false] at hf
    omega
  rw [h f hf this]; simp
theorem fit_step (l : List UInt8) (k : Int) (h : NoFit l k) (hp : (sigL k).isPrefixOf l = false) : NoFit l (k + 1) := by
  intro f hf hlt
  by_cases e : f = k
  · rw [e]; exact hp
  · exact h f hf (by omega)
theorem fit_mem (k : Int) (h1 : 1 ≤ k) (h8 : k ≤ 8) : k ∈ failsL := by
  unfold failsL
  simp only [List.mem_cons, List.not_mem_nil, or_false]
  omega
set_option maxRecDepth 100000 in
set_option maxHeartbeats 4000000 in
theorem fail5_val (s : ByteArray) (w : World) (he : Env5 w) :
    Calls Tryz.prog 95 #[.string s] w fun e w' => e = .returned (.tuple #[.agg (failTok s.data.toList).1.cells, .int .i64 (failTok s.data.toList).2.1, .int .i64 (failTok s.data.toList).2.2]) ∧ Below w.heap.size w w' := by
  have HSG := hide (fun (f : Int) w (h : signTab w) => sign_val f w h)
  have HPF := hide (fun (p : ByteArray) w => Tryz.strings_HasPrefix s p w)
  have HE := hide he
  clear he
  go_enter Tryz.func95, Tryz.ntmps95
  go_upto_region 1 with fail
  have R := hide (cells_new w 116 #[.int .i64 0, .string ⟨#[]⟩, .int .i64 0, .int .i64 0, .string ⟨#[]⟩, .string ⟨#[]⟩, .int .i64 0, .int .i64 0, .bool false, .bool false, .int .i64 0, .int .i64 0, .bool false, .bool false, .bool false, .int .i64 0])
  have HB : Hid (Below w.heap.size w (w.alloc (.cells #[.int .i64 0, .string ⟨#[]⟩, .int .i64 0, .int .i64 0, .string ⟨#[]⟩, .string ⟨#[]⟩, .int .i64 0, .int .i64 0, .bool false, .bool false, .int .i64 0, .int .i64 0, .bool false, .bool false, .bool false, .int .i64 0] 116))) := hide (below_al _ _)
  generalize hW : w.alloc (.cells #[.int .i64 0, .string ⟨#[]⟩, .int .i64 0, .int .i64 0, .string ⟨#[]⟩, .string ⟨#[]⟩, .int .i64 0, .int .i64 0, .bool false, .bool false, .int .i64 0, .int .i64 0, .bool false, .bool false, .bool false, .int .i64 0] 116) = W0 at R HB ⊢
  clear hW
  have HSZ := hide (cells_lt (unhide R))
  have HEW := hide ((unhide HE).below (unhide HB))
  go_wp2
  go_loopw [5] (fun i wx => ∃ k : Int, 1 ≤ k ∧ k ≤ 9 ∧ i = .int .i64 k ∧ Hid (NoFit s.data.toList k) ∧ wx = W0) (fun i _ => 9 - (intOf i).toNat)
  case atStart => exact ⟨1, by omega, by omega, rfl, hide (fun f hf hlt => by unfold failsL at hf; simp only [List.mem_cons, List.not_mem_nil, or_false] at hf; omega), rfl⟩
  case round =>
    obtain ⟨k, hk1, hk9, rfl, HN, rfl⟩ := hrel
    by_cases hlt : k < 9
    · have HS1 := hide (unhide HSG k _ (unhide HEW).sg)
      have HP1 := hide (fun w => unhide HPF (signV k) w)
      cases hp : (sigL k).isPrefixOf s.data.toList
      · have hn' := hide (fit_step _ k (unhide HN) hp)
        have E : Lib.hasPrefix s.data.toList (signV k).data.toList = false := hp
        rw [E] at HP1
        clear E hp
        generalize signV k = sv at HS1 HP1
        go_wp2_with fail
        refine (unhide HS1).mono ?_
        rintro e w1 ⟨rfl, rfl⟩
        go_wp2_with fail
        refine (unhide HP1 _).mono ?_
        rintro e w2 ⟨rfl, rfl⟩
        go_wp2
        go_roundw
        case rel => exact ⟨k + 1, by omega, by omega, by go_num, hn', trivial⟩
        case measure => simp [intOf]; omega
      · have HF := hide (fit_here _ k (fit_mem k hk1 (by omega)) (unhide HN) hp)
        have ET : Hid (failTok s.data.toList = (⟨2, emp, 0, k, zeroF, 0⟩, (sigL k).length, 0)) := hide (by unfold failTok; rw [unhide HF])
        have E : Lib.hasPrefix s.data.toList (signV k).data.toList = true := hp
        rw [E] at HP1
        have hz : Hid (((signV k).size : Int) = (((sigL k).length : Nat) : Int)) := hide rfl
        clear E hp HF
        generalize signV k = sv at HS1 HP1 hz
        obtain ⟨r_0, r_1, r_2, r_3, r_4, r_5, r_6, r_7, r_8, r_9, r_10, r_11, r_12, r_13, r_14, r_15⟩ := cells16 (unhide R)
        obtain ⟨fz_0, fz_1, fz_2, fz_3, fz_4, fz_5, fz_6, fz_7, fz_8, fz_9, fz_10, fz_11, fz_12, fz_13, fz_14, fz_15⟩ := frz16 (unhide R)
        go_wp2_with fail
        refine (unhide HS1).mono ?_
        rintro e w1 ⟨rfl, rfl⟩
        go_wp2_with fail
        refine (unhide HP1 _).mono ?_
        rintro e w2 ⟨rfl, rfl⟩
        go_wp2
        refine bodyPost_ret (results_c1tt rfl _ _ _ _ _ _ rfl (cells_set16 (unhide R) _ _ _ _ _ _ _ _ _ _ _ _ _ _ _ _) Tryz.underlying116 rfl (by exact infoTk) _ rfl _ rfl) rfl ?_
        rw [unhide ET]
        refine ⟨?_, below_set16 (unhide HB) (Nat.le_refl _) _ _ _ _ _ _ _ _ _ _ _ _ _ _ _ _⟩
        rw [unhide hz]
        rfl
    · have hk : k = 9 := by omega
      subst hk
      have ET : Hid (failTok s.data.toList = badT 4) := hide (by unfold failTok; rw [fit_none _ (unhide HN)])
      obtain ⟨r_0, r_1, r_2, r_3, r_4, r_5, r_6, r_7, r_8, r_9, r_10, r_11, r_12, r_13, r_14, r_15⟩ := cells16 (unhide R)
      obtain ⟨fz_0, fz_1, fz_2, fz_3, fz_4, fz_5, fz_6, fz_7, fz_8, fz_9, fz_10, fz_11, fz_12, fz_13, fz_14, fz_15⟩ := frz16 (unhide R)
      go_wp2
      refine bodyPost_ret (results_c1tt rfl _ _ _ _ _ _ rfl (cells_set16 (unhide R) _ _ _ _ _ _ _ _ _ _ _ _ _ _ _ _) Tryz.underlying116 rfl (by exact infoTk) _ rfl _ rfl) rfl ?_
      rw [unhide ET]
      exact ⟨rfl, below_set16 (unhide HB) (Nat.le_refl _) _ _ _ _ _ _ _ _ _ _ _ _ _ _ _ _⟩
end Go.Proofs.YtloamahbghjjgaaGreatDoor
