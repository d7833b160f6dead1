/- Rows of sixteen cells; what the program's texts of layer 5 lean on; the contracts of number, closing, text, fail, operator. -/
import Derived.Test.YtloamahbghjjgaaGreatDoorLxD
import Derived.Test.YtloamahbghjjgaaGreatDoorLxZ
import Derived.Test.YtloamahbghjjgaaGreatDoorAd9
import Derived.Test.YtloamahbghjjgaaGreatDoorFxY
import Derived.Test.YtloamahbghjjgaaGreatDoorVpE
namespace Go.Proofs.YtloamahbghjjgaaGreatDoor
open Go.RowKit

/-- A token's cells. -/
def Tk.cells (t : Tk) : Array Value := #[.int .i64 t.kind, .string t.text, .int .i64 t.num, .int .i64 t.fail, .string t.ref.book, .string t.ref.sheet, .int .i64 t.ref.a.col, .int .i64 t.ref.a.row, .bool t.ref.a.fc, .bool t.ref.a.fr, .int .i64 t.ref.b.col, .int .i64 t.ref.b.row, .bool t.ref.b.fc, .bool t.ref.b.fr, .bool t.ref.wide, .int .i64 t.place]
theorem infoTk : (Tryz.prog.info? 116).map (·.size) = some 16 := by kernel_rfl
theorem infoRtk : (Tryz.prog.info? 120).map (·.size) = some 16 := by kernel_rfl
theorem results_c1tt {P : Program} {fn : Func} {p a b : Tmp} {ty : TypeId} (h : fn.results = #[.cell p ty, .tmp a, .tmp b]) (tmps : Array Value) (w : World) (g : Nat) (t : TypeId) (cs : Array Value) (d : TypeDesc)
    (hp : tmps.getD p undef = .pointer (some ⟨g, 0, none⟩)) (hg : CellsAt w g t cs)
    (hu : P.underlying ty = some d) (hd : (match d with | .struct _ | .array _ _ => true | _ => false) = true) (hi : (P.info? ty).map (·.size) = some cs.size)
    (x : Value) (hx : tmps.getD a undef = x) (y : Value) (hy : tmps.getD b undef = y) :
    (results fn tmps).run P w = .ok (.tuple #[.agg cs, x, y]) w := by
  have hp' : tmps[p]?.getD undef = .pointer (some ⟨g, 0, none⟩) := by simpa using hp
  have hx' : tmps[a]?.getD undef = x := by simpa using hx
  have hy' : tmps[b]?.getD undef = y := by simpa using hy
  simp [results, h, hp', hx', hy', asAddr, run_loadVar_row w g t ty cs (0, 0) d hg hu hd hi]
theorem cells16 {w : World} {B : Nat} {t : TypeId} {v0 v1 v2 v3 v4 v5 v6 v7 v8 v9 v10 v11 v12 v13 v14 v15 : Value} (h : CellsAt w B t #[v0, v1, v2, v3, v4, v5, v6, v7, v8, v9, v10, v11, v12, v13, v14, v15]) :
    w.cell? ⟨B, 0, none⟩ = some v0 ∧ w.cell? ⟨B, 1, none⟩ = some v1 ∧ w.cell? ⟨B, 2, none⟩ = some v2 ∧ w.cell? ⟨B, 3, none⟩ = some v3 ∧ w.cell? ⟨B, 4, none⟩ = some v4 ∧ w.cell? ⟨B, 5, none⟩ = some v5 ∧ w.cell? ⟨B, 6, none⟩ = some v6 ∧ w.cell? ⟨B, 7, none⟩ = some v7 ∧ w.cell? ⟨B, 8, none⟩ = some v8 ∧ w.cell? ⟨B, 9, none⟩ = some v9 ∧ w.cell? ⟨B, 10, none⟩ = some v10 ∧ w.cell? ⟨B, 11, none⟩ = some v11 ∧ w.cell? ⟨B, 12, none⟩ = some v12 ∧ w.cell? ⟨B, 13, none⟩ = some v13 ∧ w.cell? ⟨B, 14, none⟩ = some v14 ∧ w.cell? ⟨B, 15, none⟩ = some v15 := by
  unfold CellsAt at h
  simp [World.cell?, h]
theorem frz16 {w : World} {B : Nat} {t : TypeId} {cs : Array Value} (h : CellsAt w B t cs) :
    w.frozen? ⟨B, 0, none⟩ = false ∧ w.frozen? ⟨B, 1, none⟩ = false ∧ w.frozen? ⟨B, 2, none⟩ = false ∧ w.frozen? ⟨B, 3, none⟩ = false ∧ w.frozen? ⟨B, 4, none⟩ = false ∧ w.frozen? ⟨B, 5, none⟩ = false ∧ w.frozen? ⟨B, 6, none⟩ = false ∧ w.frozen? ⟨B, 7, none⟩ = false ∧ w.frozen? ⟨B, 8, none⟩ = false ∧ w.frozen? ⟨B, 9, none⟩ = false ∧ w.frozen? ⟨B, 10, none⟩ = false ∧ w.frozen? ⟨B, 11, none⟩ = false ∧ w.frozen? ⟨B, 12, none⟩ = false ∧ w.frozen? ⟨B, 13, none⟩ = false ∧ w.frozen? ⟨B, 14, none⟩ = false ∧ w.frozen? ⟨B, 15, none⟩ = false :=
  ⟨cells_f h 0, cells_f h 1, cells_f h 2, cells_f h 3, cells_f h 4, cells_f h 5, cells_f h 6, cells_f h 7, cells_f h 8, cells_f h 9, cells_f h 10, cells_f h 11, cells_f h 12, cells_f h 13, cells_f h 14, cells_f h 15⟩
theorem cells_set16 {w : World} {B : Nat} {t : TypeId} {y0 y1 y2 y3 y4 y5 y6 y7 y8 y9 y10 y11 y12 y13 y14 y15 : Value} (h : CellsAt w B t #[y0, y1, y2, y3, y4, y5, y6, y7, y8, y9, y10, y11, y12, y13, y14, y15]) (x0 x1 x2 x3 x4 x5 x6 x7 x8 x9 x10 x11 x12 x13 x14 x15 : Value) : CellsAt ((((((((((((((((w.setCell ⟨B, 0, none⟩ x0).setCell ⟨B, 1, none⟩ x1).setCell ⟨B, 2, none⟩ x2).setCell ⟨B, 3, none⟩ x3).setCell ⟨B, 4, none⟩ x4).setCell ⟨B, 5, none⟩ x5).setCell ⟨B, 6, none⟩ x6).setCell ⟨B, 7, none⟩ x7).setCell ⟨B, 8, none⟩ x8).setCell ⟨B, 9, none⟩ x9).setCell ⟨B, 10, none⟩ x10).setCell ⟨B, 11, none⟩ x11).setCell ⟨B, 12, none⟩ x12).setCell ⟨B, 13, none⟩ x13).setCell ⟨B, 14, none⟩ x14).setCell ⟨B, 15, none⟩ x15) B t #[x0, x1, x2, x3, x4, x5, x6, x7, x8, x9, x10, x11, x12, x13, x14, x15] := by
  have h0 : CellsAt (w.setCell ⟨B, 0, none⟩ x0) B t #[x0, y1, y2, y3, y4, y5, y6, y7, y8, y9, y10, y11, y12, y13, y14, y15] := cells_set h 0 x0
  have h1 : CellsAt ((w.setCell ⟨B, 0, none⟩ x0).setCell ⟨B, 1, none⟩ x1) B t #[x0, x1, y2, y3, y4, y5, y6, y7, y8, y9, y10, y11, y12, y13, y14, y15] := cells_set h0 1 x1
  have h2 : CellsAt (((w.setCell ⟨B, 0, none⟩ x0).setCell ⟨B, 1, none⟩ x1).setCell ⟨B, 2, none⟩ x2) B t #[x0, x1, x2, y3, y4, y5, y6, y7, y8, y9, y10, y11, y12, y13, y14, y15] := cells_set h1 2 x2
  have h3 : CellsAt ((((w.setCell ⟨B, 0, none⟩ x0).setCell ⟨B, 1, none⟩ x1).setCell ⟨B, 2, none⟩ x2).setCell ⟨B, 3, none⟩ x3) B t #[x0, x1, x2, x3, y4, y5, y6, y7, y8, y9, y10, y11, y12, y13, y14, y15] := cells_set h2 3 x3
  have h4 : CellsAt (((((w.setCell ⟨B, 0, none⟩ x0).setCell ⟨B, 1, none⟩ x1).setCell ⟨B, 2, none⟩ x2).setCell ⟨B, 3, none⟩ x3).setCell ⟨B, 4, none⟩ x4) B t #[x0, x1, x2, x3, x4, y5, y6, y7, y8, y9, y10, y11, y12, y13, y14, y15] := cells_set h3 4 x4
  have h5 : CellsAt ((((((w.setCell ⟨B, 0, none⟩ x0).setCell ⟨B, 1, none⟩ x1).setCell ⟨B, 2, none⟩ x2).setCell ⟨B, 3, none⟩ x3).setCell ⟨B, 4, none⟩ x4).setCell ⟨B, 5, none⟩ x5) B t #[x0, x1, x2, x3, x4, x5, y6, y7, y8, y9, y10, y11, y12, y13, y14, y15] := cells_set h4 5 x5
  have h6 : CellsAt (((((((w.setCell ⟨B, 0, none⟩ x0).setCell ⟨B, 1, none⟩ x1).setCell ⟨B, 2, none⟩ x2).setCell ⟨B, 3, none⟩ x3).setCell ⟨B, 4, none⟩ x4).setCell ⟨B, 5, none⟩ x5).setCell ⟨B, 6, none⟩ x6) B t #[x0, x1, x2, x3, x4, x5, x6, y7, y8, y9, y10, y11, y12, y13, y14, y15] := cells_set h5 6 x6
  have h7 : CellsAt ((((((((w.setCell ⟨B, 0, none⟩ x0).setCell ⟨B, 1, none⟩ x1).setCell ⟨B, 2, none⟩ x2).setCell ⟨B, 3, none⟩ x3).setCell ⟨B, 4, none⟩ x4).setCell ⟨B, 5, none⟩ x5).setCell ⟨B, 6, none⟩ x6).setCell ⟨B, 7, none⟩ x7) B t #[x0, x1, x2, x3, x4, x5, x6, x7, y8, y9, y10, y11, y12, y13, y14, y15] := cells_set h6 7 x7
  have h8 : CellsAt (((((((((w.setCell ⟨B, 0, none⟩ x0).setCell ⟨B, 1, none⟩ x1).setCell ⟨B, 2, none⟩ x2).setCell ⟨B, 3, none⟩ x3).setCell ⟨B, 4, none⟩ x4).setCell ⟨B, 5, none⟩ x5).setCell ⟨B, 6, none⟩ x6).setCell ⟨B, 7, none⟩ x7).setCell ⟨B, 8, none⟩ x8) B t #[x0, x1, x2, x3, x4, x5, x6, x7, x8, y9, y10, y11, y12, y13, y14, y15] := cells_set h7 8 x8
  have h9 : CellsAt ((((((((((w.setCell ⟨B, 0, none⟩ x0).setCell ⟨B, 1, none⟩ x1).setCell ⟨B, 2, none⟩ x2).setCell ⟨B, 3, none⟩ x3).setCell ⟨B, 4, none⟩ x4).setCell ⟨B, 5, none⟩ x5).setCell ⟨B, 6, none⟩ x6).setCell ⟨B, 7, none⟩ x7).setCell ⟨B, 8, none⟩ x8).setCell ⟨B, 9, none⟩ x9) B t #[x0, x1, x2, x3, x4, x5, x6, x7, x8, x9, y10, y11, y12, y13, y14, y15] := cells_set h8 9 x9
  have h10 : CellsAt (((((((((((w.setCell ⟨B, 0, none⟩ x0).setCell ⟨B, 1, none⟩ x1).setCell ⟨B, 2, none⟩ x2).setCell ⟨B, 3, none⟩ x3).setCell ⟨B, 4, none⟩ x4).setCell ⟨B, 5, none⟩ x5).setCell ⟨B, 6, none⟩ x6).setCell ⟨B, 7, none⟩ x7).setCell ⟨B, 8, none⟩ x8).setCell ⟨B, 9, none⟩ x9).setCell ⟨B, 10, none⟩ x10) B t #[x0, x1, x2, x3, x4, x5, x6, x7, x8, x9, x10, y11, y12, y13, y14, y15] := cells_set h9 10 x10
  have h11 : CellsAt ((((((((((((w.setCell ⟨B, 0, none⟩ x0).setCell ⟨B, 1, none⟩ x1).setCell ⟨B, 2, none⟩ x2).setCell ⟨B, 3, none⟩ x3).setCell ⟨B, 4, none⟩ x4).setCell ⟨B, 5, none⟩ x5).setCell ⟨B, 6, none⟩ x6).setCell ⟨B, 7, none⟩ x7).setCell ⟨B, 8, none⟩ x8).setCell ⟨B, 9, none⟩ x9).setCell ⟨B, 10, none⟩ x10).setCell ⟨B, 11, none⟩ x11) B t #[x0, x1, x2, x3, x4, x5, x6, x7, x8, x9, x10, x11, y12, y13, y14, y15] := cells_set h10 11 x11
  have h12 : CellsAt (((((((((((((w.setCell ⟨B, 0, none⟩ x0).setCell ⟨B, 1, none⟩ x1).setCell ⟨B, 2, none⟩ x2).setCell ⟨B, 3, none⟩ x3).setCell ⟨B, 4, none⟩ x4).setCell ⟨B, 5, none⟩ x5).setCell ⟨B, 6, none⟩ x6).setCell ⟨B, 7, none⟩ x7).setCell ⟨B, 8, none⟩ x8).setCell ⟨B, 9, none⟩ x9).setCell ⟨B, 10, none⟩ x10).setCell ⟨B, 11, none⟩ x11).setCell ⟨B, 12, none⟩ x12) B t #[x0, x1, x2, x3, x4, x5, x6, x7, x8, x9, x10, x11, x12, y13, y14, y15] := cells_set h11 12 x12
  have h13 : CellsAt ((((((((((((((w.setCell ⟨B, 0, none⟩ x0).setCell ⟨B, 1, none⟩ x1).setCell ⟨B, 2, none⟩ x2).setCell ⟨B, 3, none⟩ x3).setCell ⟨B, 4, none⟩ x4).setCell ⟨B, 5, none⟩ x5).setCell ⟨B, 6, none⟩ x6).setCell ⟨B, 7, none⟩ x7).setCell ⟨B, 8, none⟩ x8).setCell ⟨B, 9, none⟩ x9).setCell ⟨B, 10, none⟩ x10).setCell ⟨B, 11, none⟩ x11).setCell ⟨B, 12, none⟩ x12).setCell ⟨B, 13, none⟩ x13) B t #[x0, x1, x2, x3, x4, x5, x6, x7, x8, x9, x10, x11, x12, x13, y14, y15] := cells_set h12 13 x13
  have h14 : CellsAt (((((((((((((((w.setCell ⟨B, 0, none⟩ x0).setCell ⟨B, 1, none⟩ x1).setCell ⟨B, 2, none⟩ x2).setCell ⟨B, 3, none⟩ x3).setCell ⟨B, 4, none⟩ x4).setCell ⟨B, 5, none⟩ x5).setCell ⟨B, 6, none⟩ x6).setCell ⟨B, 7, none⟩ x7).setCell ⟨B, 8, none⟩ x8).setCell ⟨B, 9, none⟩ x9).setCell ⟨B, 10, none⟩ x10).setCell ⟨B, 11, none⟩ x11).setCell ⟨B, 12, none⟩ x12).setCell ⟨B, 13, none⟩ x13).setCell ⟨B, 14, none⟩ x14) B t #[x0, x1, x2, x3, x4, x5, x6, x7, x8, x9, x10, x11, x12, x13, x14, y15] := cells_set h13 14 x14
  have h15 : CellsAt ((((((((((((((((w.setCell ⟨B, 0, none⟩ x0).setCell ⟨B, 1, none⟩ x1).setCell ⟨B, 2, none⟩ x2).setCell ⟨B, 3, none⟩ x3).setCell ⟨B, 4, none⟩ x4).setCell ⟨B, 5, none⟩ x5).setCell ⟨B, 6, none⟩ x6).setCell ⟨B, 7, none⟩ x7).setCell ⟨B, 8, none⟩ x8).setCell ⟨B, 9, none⟩ x9).setCell ⟨B, 10, none⟩ x10).setCell ⟨B, 11, none⟩ x11).setCell ⟨B, 12, none⟩ x12).setCell ⟨B, 13, none⟩ x13).setCell ⟨B, 14, none⟩ x14).setCell ⟨B, 15, none⟩ x15) B t #[x0, x1, x2, x3, x4, x5, x6, x7, x8, x9, x10, x11, x12, x13, x14, x15] := cells_set h14 15 x15
  exact h15
theorem below_set16 {w a : World} {N B : Nat} (h : Below N w a) (hB : N ≤ B) (x0 x1 x2 x3 x4 x5 x6 x7 x8 x9 x10 x11 x12 x13 x14 x15 : Value) : Below N w ((((((((((((((((a.setCell ⟨B, 0, none⟩ x0).setCell ⟨B, 1, none⟩ x1).setCell ⟨B, 2, none⟩ x2).setCell ⟨B, 3, none⟩ x3).setCell ⟨B, 4, none⟩ x4).setCell ⟨B, 5, none⟩ x5).setCell ⟨B, 6, none⟩ x6).setCell ⟨B, 7, none⟩ x7).setCell ⟨B, 8, none⟩ x8).setCell ⟨B, 9, none⟩ x9).setCell ⟨B, 10, none⟩ x10).setCell ⟨B, 11, none⟩ x11).setCell ⟨B, 12, none⟩ x12).setCell ⟨B, 13, none⟩ x13).setCell ⟨B, 14, none⟩ x14).setCell ⟨B, 15, none⟩ x15) :=
  below_set (below_set (below_set (below_set (below_set (below_set (below_set (below_set (below_set (below_set (below_set (below_set (below_set (below_set (below_set (below_set (h) hB x0) hB x1) hB x2) hB x3) hB x4) hB x5) hB x6) hB x7) hB x8) hB x9) hB x10) hB x11) hB x12) hB x13) hB x14) hB x15
/-- The table of the operators of two signs, where the program's text lays it. -/
def twoTab (w : World) : Prop := w.cell? ⟨0, 0, none⟩ = some (.string ⟨#[60, 61]⟩) ∧ w.cell? ⟨0, 1, none⟩ = some (.string ⟨#[62, 61]⟩) ∧ w.cell? ⟨0, 2, none⟩ = some (.string ⟨#[60, 62]⟩)
theorem two_below {w w' : World} (h : twoTab w) (hb : Below w.heap.size w w') : twoTab w' := by
  have hlt : 0 < w.heap.size := by
    rcases Nat.lt_or_ge 0 w.heap.size with h' | h'
    · exact h'
    · have h0 := h.1
      simp [World.cell?, Array.getElem?_eq_none h'] at h0
  unfold twoTab at h ⊢
  rw [hb.cell (p := ⟨0, 0, none⟩) hlt, hb.cell (p := ⟨0, 1, none⟩) hlt, hb.cell (p := ⟨0, 2, none⟩) hlt]
  exact h
/-- What a law's first world holds, and every later one. -/
structure Env5 (w : World) : Prop where
  e4 : Env4 w
  sg : signTab w
  tw : twoTab w
theorem Env5.below {w w' : World} (h : Env5 w) (hb : Below w.heap.size w w') : Env5 w' := ⟨h.e4.below hb, signs_below h.sg hb, two_below h.tw hb⟩
set_option maxRecDepth 100000 in
set_option maxHeartbeats 4000000 in
theorem number5_val (s : ByteArray) (w : World) (hs : s.size ≤ 1000) (he : Env5 w) :
    Calls Tryz.prog 89 #[.string s] w fun e w' => e = .returned (.tuple #[.agg (numTok s.data.toList).1.cells, .int .i64 (numTok s.data.toList).2.1, .int .i64 (numTok s.data.toList).2.2]) ∧ Below w.heap.size w w' := by
  obtain ⟨rb, hrb⟩ : ∃ rb : ByteArray, rb = ⟨(numR s.data.toList).toArray⟩ := ⟨_, rfl⟩
  have hz : ((rb.size : Nat) : Int) = (((numR s.data.toList).length : Nat) : Int) := by rw [hrb]; rfl
  have hle := tk_len inNumC s.data.toList
  have hsz : rb.size ≤ s.size := by rw [hrb]; exact hle
  have HL := hide (fun w => lead_num s w (by unfold maxLen; omega))
  have HP := hide (fun w (he : Env5 w) => parse_any rb w (by omega) he.e4.len)
  rw [show (⟨(s.data.toList.takeWhile inNumC).toArray⟩ : ByteArray) = rb from hrb.symm] at HL
  rw [show rb.data.toList = numR s.data.toList by rw [hrb]] at HP
  have HE := hide he
  clear he hrb hsz hle
  by_cases h0 : (parseR (numR s.data.toList)).2 = 0
  · have E : numTok s.data.toList = (⟨0, emp, (parseR (numR s.data.toList)).1, 0, zeroF, 0⟩, (numR s.data.toList).length, 0) := by unfold numTok; rw [if_pos h0]
    rw [E]
    rw [h0] at HP
    generalize (parseR (numR s.data.toList)).1 = n at HP ⊢
    show Calls _ _ _ _ fun e w' => e = Ending.returned (Value.tuple #[Value.agg _, Value.int .i64 (((numR s.data.toList).length : Nat) : Int), _]) ∧ _
    rw [← hz]
    clear E h0 hz
    go_enter Tryz.func89, Tryz.ntmps89
    go_upto_region 1 with fail
    have R := hide (cells_new w 116 #[.int .i64 0, .string ⟨#[]⟩, .int .i64 0, .int .i64 0, .string ⟨#[]⟩, .string ⟨#[]⟩, .int .i64 0, .int .i64 0, .bool false, .bool false, .int .i64 0, .int .i64 0, .bool false, .bool false, .bool false, .int .i64 0])
    have HB : Hid (Below w.heap.size w (w.alloc (.cells #[.int .i64 0, .string ⟨#[]⟩, .int .i64 0, .int .i64 0, .string ⟨#[]⟩, .string ⟨#[]⟩, .int .i64 0, .int .i64 0, .bool false, .bool false, .int .i64 0, .int .i64 0, .bool false, .bool false, .bool false, .int .i64 0] 116))) := hide (below_al _ _)
    generalize hW : w.alloc (.cells #[.int .i64 0, .string ⟨#[]⟩, .int .i64 0, .int .i64 0, .string ⟨#[]⟩, .string ⟨#[]⟩, .int .i64 0, .int .i64 0, .bool false, .bool false, .int .i64 0, .int .i64 0, .bool false, .bool false, .bool false, .int .i64 0] 116) = W0 at R HB ⊢
    clear hW
    go_wp2_with fail
    refine (unhide HL _).mono ?_
    rintro e wk1 ⟨rfl, rfl⟩
    go_wp2_with fail
    refine (unhide HP _ ((unhide HE).below (unhide HB))).mono ?_
    rintro e wk2 ⟨rfl, bk2⟩
    replace R := hide (cells_nx (unhide R) bk2)
    replace HB := hide (below_nx (unhide HB) bk2)
    clear bk2
    obtain ⟨r_0, r_1, r_2, r_3, r_4, r_5, r_6, r_7, r_8, r_9, r_10, r_11, r_12, r_13, r_14, r_15⟩ := cells16 (unhide R)
    obtain ⟨fz_0, fz_1, fz_2, fz_3, fz_4, fz_5, fz_6, fz_7, fz_8, fz_9, fz_10, fz_11, fz_12, fz_13, fz_14, fz_15⟩ := frz16 (unhide R)
    go_wp2
    refine bodyPost_ret (results_c1tt rfl _ _ _ _ _ _ rfl (cells_set16 (unhide R) _ _ _ _ _ _ _ _ _ _ _ _ _ _ _ _) Tryz.underlying116 rfl (by exact infoTk) _ rfl _ rfl) rfl ?_
    exact ⟨rfl, below_set16 (unhide HB) (Nat.le_refl _) _ _ _ _ _ _ _ _ _ _ _ _ _ _ _ _⟩
  · have E : numTok s.data.toList = badT (parseR (numR s.data.toList)).2 := by unfold numTok; rw [if_neg h0]
    rw [E]
    generalize (parseR (numR s.data.toList)).1 = n at HP ⊢
    generalize (parseR (numR s.data.toList)).2 = x at HP h0 ⊢
    clear E hz
    go_enter Tryz.func89, Tryz.ntmps89
    go_upto_region 1 with fail
    have R := hide (cells_new w 116 #[.int .i64 0, .string ⟨#[]⟩, .int .i64 0, .int .i64 0, .string ⟨#[]⟩, .string ⟨#[]⟩, .int .i64 0, .int .i64 0, .bool false, .bool false, .int .i64 0, .int .i64 0, .bool false, .bool false, .bool false, .int .i64 0])
    have HB : Hid (Below w.heap.size w (w.alloc (.cells #[.int .i64 0, .string ⟨#[]⟩, .int .i64 0, .int .i64 0, .string ⟨#[]⟩, .string ⟨#[]⟩, .int .i64 0, .int .i64 0, .bool false, .bool false, .int .i64 0, .int .i64 0, .bool false, .bool false, .bool false, .int .i64 0] 116))) := hide (below_al _ _)
    generalize hW : w.alloc (.cells #[.int .i64 0, .string ⟨#[]⟩, .int .i64 0, .int .i64 0, .string ⟨#[]⟩, .string ⟨#[]⟩, .int .i64 0, .int .i64 0, .bool false, .bool false, .int .i64 0, .int .i64 0, .bool false, .bool false, .bool false, .int .i64 0] 116) = W0 at R HB ⊢
    clear hW
    go_wp2_with fail
    refine (unhide HL _).mono ?_
    rintro e wk1 ⟨rfl, rfl⟩
    go_wp2_with fail
    refine (unhide HP _ ((unhide HE).below (unhide HB))).mono ?_
    rintro e wk2 ⟨rfl, bk2⟩
    replace R := hide (cells_nx (unhide R) bk2)
    replace HB := hide (below_nx (unhide HB) bk2)
    clear bk2
    obtain ⟨r_0, r_1, r_2, r_3, r_4, r_5, r_6, r_7, r_8, r_9, r_10, r_11, r_12, r_13, r_14, r_15⟩ := cells16 (unhide R)
    obtain ⟨fz_0, fz_1, fz_2, fz_3, fz_4, fz_5, fz_6, fz_7, fz_8, fz_9, fz_10, fz_11, fz_12, fz_13, fz_14, fz_15⟩ := frz16 (unhide R)
    go_wp2
    refine bodyPost_ret (results_c1tt rfl _ _ _ _ _ _ rfl (cells_set16 (unhide R) _ _ _ _ _ _ _ _ _ _ _ _ _ _ _ _) Tryz.underlying116 rfl (by exact infoTk) _ rfl _ rfl) rfl ?_
    exact ⟨rfl, below_set16 (unhide HB) (Nat.le_refl _) _ _ _ _ _ _ _ _ _ _ _ _ _ _ _ _⟩
end Go.Proofs.YtloamahbghjjgaaGreatDoor
