/- What the frames of the laws of layer 4 share: the listed tables out of a law's first world; a reference, and a pair, as arguments, opened and shut. -/
import Derived.Test.YtlgmpoofcdkaeaaDoorAwB
import Derived.Test.YtlgmpoofcdkaeaaDoorCards
import Derived.Test.YtlgmpoofcdkaeaaDoorTie
import Derived.ProofKit
import Derived.OpenShut
import Derived.Lay
import Derived.SevenTiedAt
import Derived.Stop.Joined
import Derived.Lib.LaidTab
import Derived.LaidSub
import Derived.Deep.DeepHandedRow
namespace Go.Proofs.YtlgmpoofcdkaeaaDoor
open Go.ChangeShapes Go.WideShapes Go.ChangeAt Go.RowKit

theorem own4 : ownKnob Tryd.prog.godebug = none := by kernel_rfl
theorem gTab4 : Tryd.prog.globalNamed "internal/strconv.uint64pow10" = some 0 := by kernel_rfl
theorem gTabType4 : (Tryd.prog.globals[0]?).map (·.type) = some 119 := by kernel_rfl
theorem cellsTab4 : Tryd.prog.cellsOf 119 = 20 := by kernel_rfl
theorem cellsU4 : Tryd.prog.cellsOf 103 = 1 := by kernel_rfl
/-- The one list that every law of this seat lists. -/
abbrev laid4 : List (String × DataW Unit) := Rows.addrBackRow.laid
theorem laid4_one : (laid4.filter fun x => x.1 == "internal/strconv.uint64pow10") = [("internal/strconv.uint64pow10", Lib.tabData .u64 Lib.pow10Tab)] := by kernel_rfl
theorem tab4_of {W : World} (h : laidMetH Tryd.prog laid4 W) : Lib.TabIs Tryd.prog W "internal/strconv.uint64pow10" .u64 Lib.pow10Tab := by
  have h1 := h.filter (fun x => x.1 == "internal/strconv.uint64pow10")
  rw [laid4_one] at h1
  exact Lib.tabIs_of_head (rest := []) gTab4 gTabType4 Tryd.underlying119 Tryd.underlying103 cellsU4 cellsTab4 h1
theorem env4_of {W : World} (h : laidMetH Tryd.prog laid4 W) (hs : W.ShapedOpen Tryd.prog) : Env4 W := ⟨tab4_of h, Tryd.laysM145.s1_3 W hs⟩
theorem laid4_met (os : Os) (args : Array Value) : laidMet Tryd.prog laid4 ((World.laidAll Tryd.prog os laid4).forCall (fun _ _ => 0) ⟨#[], args, []⟩).memory :=
  laidMet_laidAll _ (by kernel_rfl) (by kernel_rfl)

theorem cellsF4 : Tryd.prog.cellsOf 25 = 11 := by kernel_rfl
theorem cells24 : Tryd.prog.cellsOf 22 = 2 := by kernel_rfl
theorem cells44 : Tryd.prog.cellsOf 23 = 4 := by kernel_rfl
theorem cellsI4 : Tryd.prog.cellsOf 3 = 1 := by kernel_rfl
theorem cellsB4 : Tryd.prog.cellsOf 4 = 1 := by kernel_rfl
theorem cellsS4 : Tryd.prog.cellsOf 9 = 1 := by kernel_rfl
/-- What the law's reference reads as. -/
def Fl.ldata {H : Type} (x : Fl) : DataW H := .agg [.lit (.string x.book.data.toList), .lit (.string x.sheet.data.toList), .agg [.lit (.int .i64 x.a.col), .lit (.int .i64 x.a.row)], .agg [.lit (.int .i64 x.b.col), .lit (.int .i64 x.b.row)], .agg [.lit (.bool x.a.fc), .lit (.bool x.a.fr), .lit (.bool x.b.fc), .lit (.bool x.b.fr)], .lit (.bool x.wide)]
structure Fl.Fits (x : Fl) : Prop where
  book : x.book.size ≤ maxLen
  sheet : x.sheet.size ≤ maxLen
  c1 : (Lit.int .i64 x.a.col).wf = true
  r1 : (Lit.int .i64 x.a.row).wf = true
  c2 : (Lit.int .i64 x.b.col).wf = true
  r2 : (Lit.int .i64 x.b.row).wf = true
section
variable {H : Type} {enc : TypeId × Value → H} {W : World} {base : Nat} {sp : Nat → Bool} {held : Bool}
set_option maxRecDepth 100000 in
theorem open_two {m : Nat} {c0 c1 : Value} {x : DataW H × List MemPlace} (h : DataW.trod enc Tryd.prog W base sp held m 22 [c0, c1] = some x) :
    ∃ a b : Int, c0 = .int .i64 a ∧ c1 = .int .i64 b ∧ x = (.agg [.lit (.int .i64 a), .lit (.int .i64 b)], []) ∧ (Lit.int .i64 a).wf = true ∧ (Lit.int .i64 b).wf = true := by
  obtain ⟨xs, m', _, hx, _, hl, hi⟩ := DataW.trod_array Tryd.underlying22 h
  obtain ⟨x0, x1, rfl⟩ : ∃ x0 x1, xs = [x0, x1] := by
    match xs, hl with
    | [a, b], _ => exact ⟨a, b, rfl⟩
  have h0 := hi 0 (by decide)
  have h1 := hi 1 (by decide)
  rw [cellsI4] at h0 h1
  obtain ⟨a, ea, da, wa⟩ := DataW.trod_int Tryd.underlying3 h0
  obtain ⟨b, eb, db, wb⟩ := DataW.trod_int Tryd.underlying3 h1
  simp at ea eb
  subst ea eb da db
  exact ⟨a, b, rfl, rfl, hx, wa, wb⟩
set_option maxRecDepth 100000 in
theorem open_four {m : Nat} {c0 c1 c2 c3 : Value} {x : DataW H × List MemPlace} (h : DataW.trod enc Tryd.prog W base sp held m 23 [c0, c1, c2, c3] = some x) :
    ∃ a b c d : Bool, c0 = .bool a ∧ c1 = .bool b ∧ c2 = .bool c ∧ c3 = .bool d ∧ x = (.agg [.lit (.bool a), .lit (.bool b), .lit (.bool c), .lit (.bool d)], []) := by
  obtain ⟨xs, m', _, hx, _, hl, hi⟩ := DataW.trod_array Tryd.underlying23 h
  obtain ⟨x0, x1, x2, x3, rfl⟩ : ∃ x0 x1 x2 x3, xs = [x0, x1, x2, x3] := by
    match xs, hl with
    | [a, b, c, d], _ => exact ⟨a, b, c, d, rfl⟩
  have h0 := hi 0 (by decide)
  have h1 := hi 1 (by decide)
  have h2 := hi 2 (by decide)
  have h3 := hi 3 (by decide)
  rw [cellsB4] at h0 h1 h2 h3
  obtain ⟨a, ea, da⟩ := DataW.trod_bool Tryd.underlying4 h0
  obtain ⟨b, eb, db⟩ := DataW.trod_bool Tryd.underlying4 h1
  obtain ⟨c, ec, dc⟩ := DataW.trod_bool Tryd.underlying4 h2
  obtain ⟨d, ed, dd⟩ := DataW.trod_bool Tryd.underlying4 h3
  simp at ea eb ec ed
  subst ea eb ec ed da db dc dd
  exact ⟨a, b, c, d, rfl, rfl, rfl, rfl, hx⟩
set_option maxRecDepth 100000 in
/-- A pair as an argument, opened. -/
theorem open_pair {r : Reach} {b0 : Nat} {v : Value} {d : DataW H} {ps : List MemPlace} (hval : Value.okWide Tryd.prog W r b0 22 v) (hd : DataW.Trod enc Tryd.prog W base sp held 22 v d ps) :
    ∃ a b : Int, v = .agg #[.int .i64 a, .int .i64 b] ∧ d = .agg [.lit (.int .i64 a), .lit (.int .i64 b)] ∧ ps = [] ∧ (Lit.int .i64 a).wf = true ∧ (Lit.int .i64 b).wf = true := by
  simp only [Value.okWide, Tryd.underlying22] at hval
  obtain ⟨⟨cs⟩, rfl, hn, _⟩ := hval
  rw [cells24] at hn
  obtain ⟨c0, c1, rfl⟩ : ∃ c0 c1, cs = [c0, c1] := by
    match cs, hn with
    | [a, b], _ => exact ⟨a, b, rfl⟩
  obtain ⟨fuel, hf⟩ := hd
  obtain ⟨a, b, rfl, rfl, hx, wa, wb⟩ := open_two hf
  simp only [Prod.mk.injEq] at hx
  exact ⟨a, b, rfl, hx.1, hx.2, wa, wb⟩
theorem shut_two {m : Nat} {a b : Int} (wa : (Lit.int .i64 a).wf = true) (wb : (Lit.int .i64 b).wf = true) :
    DataW.trod enc Tryd.prog W base sp held (m + 1 + 1) 22 [.int .i64 a, .int .i64 b] = some (.agg [.lit (.int .i64 a), .lit (.int .i64 b)], []) := by
  rw [DataW.trod_step]
  unfold DataW.trodStep
  simp only [Tryd.underlying22]
  rw [if_pos (by rw [cells24]; rfl), show List.range 2 = [0, 1] from rfl, List.mapM_cons, List.mapM_cons, List.mapM_nil]
  simp [cellsI4, DataW.trod, Tryd.underlying3, wa, wb]
theorem shut_four {m : Nat} {a b c d : Bool} :
    DataW.trod enc Tryd.prog W base sp held (m + 1 + 1) 23 [.bool a, .bool b, .bool c, .bool d] = some (.agg [.lit (.bool a), .lit (.bool b), .lit (.bool c), .lit (.bool d)], []) := by
  rw [DataW.trod_step]
  unfold DataW.trodStep
  simp only [Tryd.underlying23]
  rw [if_pos (by rw [cells44]; rfl), show List.range 4 = [0, 1, 2, 3] from rfl, List.mapM_cons, List.mapM_cons, List.mapM_cons, List.mapM_cons, List.mapM_nil]
  simp [cellsB4, DataW.trod, Tryd.underlying4]
/-- The same, shut. -/
theorem shut_pair {a b : Int} (wa : (Lit.int .i64 a).wf = true) (wb : (Lit.int .i64 b).wf = true) :
    DataW.Trod enc Tryd.prog W base sp held 22 (.agg #[.int .i64 a, .int .i64 b]) (.agg [.lit (.int .i64 a), .lit (.int .i64 b)]) [] := ⟨2, shut_two wa wb⟩
set_option maxRecDepth 100000 in
/-- A reference of the law's as an argument, opened. -/
theorem open_full {r : Reach} {b0 : Nat} {v : Value} {d : DataW H} {ps : List MemPlace} (hval : Value.okWide Tryd.prog W r b0 25 v) (hd : DataW.Trod enc Tryd.prog W base sp held 25 v d ps) :
    ∃ x : Fl, v = .agg x.lcells ∧ d = x.ldata ∧ ps = [] ∧ x.Fits := by
  simp only [Value.okWide, Tryd.underlying25] at hval
  obtain ⟨⟨cs⟩, rfl, hn, _⟩ := hval
  rw [cellsF4] at hn
  obtain ⟨c0, c1, c2, c3, c4, c5, c6, c7, c8, c9, c10, rfl⟩ : ∃ c0 c1 c2 c3 c4 c5 c6 c7 c8 c9 c10, cs = [c0, c1, c2, c3, c4, c5, c6, c7, c8, c9, c10] := by
    match cs, hn with
    | [a0, a1, a2, a3, a4, a5, a6, a7, a8, a9, a10], _ => exact ⟨a0, a1, a2, a3, a4, a5, a6, a7, a8, a9, a10, rfl⟩
  obtain ⟨fuel, hf⟩ := hd
  obtain ⟨xs, m, _, hx, _, hl, hi⟩ := DataW.trod_struct Tryd.underlying25 hf
  obtain ⟨x0, x1, x2, x3, x4, x5, rfl⟩ : ∃ x0 x1 x2 x3 x4 x5, xs = [x0, x1, x2, x3, x4, x5] := by
    match xs, hl with
    | [a, b, c, d, e, f], _ => exact ⟨a, b, c, d, e, f, rfl⟩
  have h0 : DataW.trod enc Tryd.prog W base sp held m 9 ((([c0, c1, c2, c3, c4, c5, c6, c7, c8, c9, c10] : List Value).drop 0).take (Tryd.prog.cellsOf 9)) = some x0 := hi 0 _ rfl
  rw [cellsS4] at h0
  have h1 : DataW.trod enc Tryd.prog W base sp held m 9 ((([c0, c1, c2, c3, c4, c5, c6, c7, c8, c9, c10] : List Value).drop 1).take (Tryd.prog.cellsOf 9)) = some x1 := hi 1 _ rfl
  rw [cellsS4] at h1
  have h2 : DataW.trod enc Tryd.prog W base sp held m 22 ((([c0, c1, c2, c3, c4, c5, c6, c7, c8, c9, c10] : List Value).drop 2).take (Tryd.prog.cellsOf 22)) = some x2 := hi 2 _ rfl
  rw [cells24] at h2
  have h3 : DataW.trod enc Tryd.prog W base sp held m 22 ((([c0, c1, c2, c3, c4, c5, c6, c7, c8, c9, c10] : List Value).drop 4).take (Tryd.prog.cellsOf 22)) = some x3 := hi 3 _ rfl
  rw [cells24] at h3
  have h4 : DataW.trod enc Tryd.prog W base sp held m 23 ((([c0, c1, c2, c3, c4, c5, c6, c7, c8, c9, c10] : List Value).drop 6).take (Tryd.prog.cellsOf 23)) = some x4 := hi 4 _ rfl
  rw [cells44] at h4
  have h5 : DataW.trod enc Tryd.prog W base sp held m 4 ((([c0, c1, c2, c3, c4, c5, c6, c7, c8, c9, c10] : List Value).drop 10).take (Tryd.prog.cellsOf 4)) = some x5 := hi 5 _ rfl
  rw [cellsB4] at h5
  obtain ⟨s, es, ds, ws⟩ := DataW.trod_string Tryd.underlying9 h0
  obtain ⟨t, et, dt, wt⟩ := DataW.trod_string Tryd.underlying9 h1
  obtain ⟨a, b, rfl, rfl, rfl, wa, wb⟩ := open_two h2
  obtain ⟨c, e, rfl, rfl, rfl, wc, we⟩ := open_two h3
  obtain ⟨p, q, u, v, rfl, rfl, rfl, rfl, rfl⟩ := open_four h4
  obtain ⟨g, eg, dg⟩ := DataW.trod_bool Tryd.underlying4 h5
  simp at es et eg
  subst es et eg ds dt dg
  simp only [Prod.mk.injEq] at hx
  exact ⟨⟨s, t, ⟨a, b, p, q⟩, ⟨c, e, u, v⟩, g⟩, rfl, hx.1, hx.2, ⟨ws, wt, wa, wb, wc, we⟩⟩
set_option maxRecDepth 100000 in
/-- The same, shut. -/
theorem shut_full {x : Fl} (h : x.Fits) : DataW.Trod enc Tryd.prog W base sp held 25 (.agg x.lcells) x.ldata [] := by
  refine ⟨3, ?_⟩
  have e1 := fun (m : Nat) => shut_two (enc := enc) (W := W) (base := base) (sp := sp) (held := held) (m := 0) h.c1 h.r1
  have e2 := fun (m : Nat) => shut_two (enc := enc) (W := W) (base := base) (sp := sp) (held := held) (m := 0) h.c2 h.r2
  have e3 := shut_four (H := H) (enc := enc) (W := W) (base := base) (sp := sp) (held := held) (m := 0) (a := x.a.fc) (b := x.a.fr) (c := x.b.fc) (d := x.b.fr)
  have e1 := e1 0
  have e2 := e2 0
  show DataW.trod enc Tryd.prog W base sp held (2 + 1) 25 [.string x.book, .string x.sheet, .int .i64 x.a.col, .int .i64 x.a.row, .int .i64 x.b.col, .int .i64 x.b.row, .bool x.a.fc, .bool x.a.fr, .bool x.b.fc, .bool x.b.fr, .bool x.wide] = _
  rw [DataW.trod_step]
  unfold DataW.trodStep
  simp only [Tryd.underlying25]
  rw [if_pos (by rw [cellsF4]; rfl)]
  have s1 : DataW.trod enc Tryd.prog W base sp held 2 9 [.string x.book] = some (.lit (.string x.book.data.toList), []) := by simp [DataW.trod, Tryd.underlying9, h.book]
  have s2 : DataW.trod enc Tryd.prog W base sp held 2 9 [.string x.sheet] = some (.lit (.string x.sheet.data.toList), []) := by simp [DataW.trod, Tryd.underlying9, h.sheet]
  have s3 : DataW.trod enc Tryd.prog W base sp held 2 4 [.bool x.wide] = some (.lit (.bool x.wide), []) := by simp [DataW.trod, Tryd.underlying4]
  simp [cells24, cells44, cellsB4, cellsS4, e1, e2, e3, s1, s2, s3, Fl.ldata]
end
end Go.Proofs.YtlgmpoofcdkaeaaDoor
