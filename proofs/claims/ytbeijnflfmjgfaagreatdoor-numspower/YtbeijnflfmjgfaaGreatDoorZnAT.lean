/- The walk of NumsPower. -/
import Derived.BigQuiet
import Derived.BigRegion
import Derived.Deep.CutBlock
import Derived.Deep.CutRange
import Derived.Deep.DeepFit
import Derived.Deep.QuietTactic
import Derived.Deep.RegionHeld3
import Derived.Deep.RegionWith
import Derived.Deep.WholeRow
import Derived.Laws.Bits64b
import Derived.Laws.BitsAllLaws
import Derived.Laws.CopyOwn
import Derived.Laws.FloatArith
import Derived.Laws.IdiomStrings
import Derived.Laws.Rows
import Derived.Laws.StructEq
import Derived.Laws.Tables
import Derived.Lib.BitFns
import Derived.Lib.IndexBytes
import Derived.Lib.ItoaMem
import Derived.Lib.ItoaNum
import Derived.Lib.TrimByte
import Derived.Lib.Walk
import Derived.OwnWalk
import Derived.Shelf.Bits.Mul64
import Derived.Shelf.LaysM
import Derived.Shelf.Small.Bits
import Derived.Shelf.Small.Strs
import Derived.Shelf.Small.Wraps
import Derived.Shelf.Strconv.Itoa0
import Derived.Shelf.Strconv.Itoa1
import Derived.Shelf.Strconv.Itoa2
import Derived.Shelf.Strings.AsciiSet
import Derived.Shelf.Strings.Cut
import Derived.Shelf.Strings.Prefix
import Derived.Shelf.Strings.Search1
import Derived.Shelf.Strings.Search2
import Derived.Shelf.Strings.Shaped
import Derived.Shelf.Strings.Trim
import Derived.Test.YtbeijnflfmjgfaaGreatDoorProg
import Derived.Test.YtbeijnflfmjgfaaGreatDoorRows
import Derived.WalkKit
import Derived.WalkLawsBesides
import Derived.WalkSmall
import Derived.WalkSpells
import Ieee.Arith
import Derived.Test.YtbeijnflfmjgfaaGreatDoorZnAA
import Derived.Test.YtbeijnflfmjgfaaGreatDoorZnAB
import Derived.Test.YtbeijnflfmjgfaaGreatDoorZnAC
import Derived.Test.YtbeijnflfmjgfaaGreatDoorZnAD
import Derived.Test.YtbeijnflfmjgfaaGreatDoorZnAE
import Derived.Test.YtbeijnflfmjgfaaGreatDoorZnAF
import Derived.Test.YtbeijnflfmjgfaaGreatDoorZnAG
import Derived.Test.YtbeijnflfmjgfaaGreatDoorZnAH
import Derived.Test.YtbeijnflfmjgfaaGreatDoorZnAI
import Derived.Test.YtbeijnflfmjgfaaGreatDoorZnAJ
import Derived.Test.YtbeijnflfmjgfaaGreatDoorZnAK
import Derived.Test.YtbeijnflfmjgfaaGreatDoorZnAL
import Derived.Test.YtbeijnflfmjgfaaGreatDoorZnAM
import Derived.Test.YtbeijnflfmjgfaaGreatDoorZnAN
namespace Go.Proofs.YtbeijnflfmjgfaaGreatDoor
open Go.RowKit

theorem five_side {w : World} {B C i : Nat} {t : TypeId} {cs : Array Value} {x : Value} (h : FiveAt w B t cs) (hC : B ≠ C) : FiveAt (w.setCell ⟨C, i, none⟩ x) B t cs := by
  refine ⟨?_, h.2⟩
  rw [heap_setCell_other _ _ _ _ (by simpa using hC)]
  exact h.1
theorem five_set1 {w : World} {B : Nat} {t : TypeId} {a b c d e x : Value} (h : FiveAt w B t #[a, b, c, d, e]) : FiveAt (w.setCell ⟨B, 1, none⟩ x) B t #[a, x, c, d, e] := by
  refine ⟨?_, rfl⟩
  rw [heap_setCell_same w B 1 #[a, b, c, d, e] t x h.1]
  rfl

set_option maxRecDepth 100000 in
set_option maxHeartbeats 4000000 in
theorem power_law (hp : PNums) (x y : Vl) (w : World) (hx : x.text.size ≤ maxLen) (hy : y.text.size ≤ maxLen) (he : Env3 w) :
    Calls Tryz.prog 4 #[.agg x.cells, .agg y.cells] w fun e w' => e = .returned (.bool true) ∧ Below w.heap.size w w' := by
  have HE := hide he
  clear he
  have HP := hide hp
  clear hp
  have HWK := hide (fun w he => wakes9 (unhide HP) w he)
  have HVX := hide (fun w => values9_law x w hx)
  clear hx
  have SX : Hid ((cutV x).text.size ≤ 300) := hide (cutT_size x.text)
  obtain ⟨X, eX⟩ : ∃ X, cutV x = X := ⟨_, rfl⟩
  rw [eX] at HVX SX
  clear eX
  obtain ⟨z, hz⟩ : ∃ z : Vl, z = ⟨y.kind, y.num.tmod 10010000, y.text, y.tr, y.fail⟩ := ⟨_, rfl⟩
  have hzk : z.kind = y.kind ∧ z.num = y.num.tmod 10010000 ∧ z.text = y.text ∧ z.tr = y.tr ∧ z.fail = y.fail := by rw [hz]; exact ⟨rfl, rfl, rfl, rfl, rfl⟩
  have hzx : z.text.size ≤ maxLen := by rw [hz]; exact hy
  have HZ := hide hzk
  clear hz hzk hy
  have HVY := hide (fun w => values9_law z w hzx)
  clear hzx
  have SY : Hid ((cutV z).text.size ≤ 300) := hide (cutT_size z.text)
  obtain ⟨Y, eY⟩ : ∃ Y, cutV z = Y := ⟨_, rfl⟩
  rw [eY] at HVY SY
  clear eY
  have HP1 := hide (fun w (he : Env3 w) => (unhide HP).bin ⟨#[94]⟩ X Y w (by decide) (by have := unhide SX; omega) (by have := unhide SY; omega) he)
  have HR1 := hide (fun w => bin9_ref ⟨#[94]⟩ X Y w (by have := unhide SX; omega) (by have := unhide SY; omega))
  obtain ⟨V, eV⟩ : ∃ V, binS (⟨#[94]⟩ : ByteArray).toList (vSound X) (vSound Y) = V := ⟨_, rfl⟩
  obtain ⟨b, eb⟩ : ∃ b, binB (⟨#[94]⟩ : ByteArray).toList = b := ⟨_, rfl⟩
  rw [eV, eb] at HP1 HR1
  clear eV eb
  have HS := hide (fun w => same9_law V w)
  unfold Vl.cells at HVX HVY HP1 HR1 HS ⊢
  go_enter Tryz.func4, Tryz.ntmps4
  go_upto_region 1 with fail
  have PX := hide (five_old w 23 (.int .i64 x.kind) (.int .i64 x.num) (.string x.text) (.bool x.tr) (.int .i64 x.fail) (.cells #[.int .i64 y.kind, .int .i64 y.num, .string y.text, .bool y.tr, .int .i64 y.fail] 23))
  have PY := hide (five_new2 w (.cells #[.int .i64 x.kind, .int .i64 x.num, .string x.text, .bool x.tr, .int .i64 x.fail] 23) 23 (.int .i64 y.kind) (.int .i64 y.num) (.string y.text) (.bool y.tr) (.int .i64 y.fail))
  have HB := hide (below_al2 w (.cells #[.int .i64 x.kind, .int .i64 x.num, .string x.text, .bool x.tr, .int .i64 x.fail] 23) (.cells #[.int .i64 y.kind, .int .i64 y.num, .string y.text, .bool y.tr, .int .i64 y.fail] 23))
  generalize hW : (w.alloc (.cells #[.int .i64 x.kind, .int .i64 x.num, .string x.text, .bool x.tr, .int .i64 x.fail] 23)).alloc (.cells #[.int .i64 y.kind, .int .i64 y.num, .string y.text, .bool y.tr, .int .i64 y.fail] 23) = W0 at PX PY HB ⊢
  clear hW
  obtain ⟨px_0, px_1, px_2, px_3, px_4⟩ := five_cells (unhide PX)
  go_wp2_with fail
  refine (unhide HVX _).mono ?_
  rintro e w1 ⟨rfl, b1⟩
  replace PX := hide (five_below (unhide PX) b1 (five_lt (unhide PX)))
  replace PY := hide (five_below (unhide PY) b1 (five_lt (unhide PY)))
  replace HB := hide (below_nx (unhide HB) b1)
  clear b1 px_0 px_1 px_2 px_3 px_4
  have hlt := five_lt (unhide PY)
  have A := hide (five_old w1 28 (.int .i64 X.kind) (.int .i64 X.num) (.string X.text) (.bool X.tr) (.int .i64 X.fail) (.cells #[.int .i64 X.kind, .int .i64 X.num, .string X.text, .bool X.tr, .int .i64 X.fail] 29))
  have RA := hide (five_new2 w1 (.cells #[.int .i64 X.kind, .int .i64 X.num, .string X.text, .bool X.tr, .int .i64 X.fail] 28) 29 (.int .i64 X.kind) (.int .i64 X.num) (.string X.text) (.bool X.tr) (.int .i64 X.fail))
  have bb := below_al2 w1 (.cells #[.int .i64 X.kind, .int .i64 X.num, .string X.text, .bool X.tr, .int .i64 X.fail] 28) (.cells #[.int .i64 X.kind, .int .i64 X.num, .string X.text, .bool X.tr, .int .i64 X.fail] 29)
  replace PX := hide (five_below (unhide PX) bb (five_lt (unhide PX)))
  replace PY := hide (five_below (unhide PY) bb (five_lt (unhide PY)))
  replace HB := hide (below_nx (unhide HB) bb)
  clear bb
  go_upto_region 2 with fail
  generalize hW : (w1.alloc (.cells #[.int .i64 X.kind, .int .i64 X.num, .string X.text, .bool X.tr, .int .i64 X.fail] 28)).alloc (.cells #[.int .i64 X.kind, .int .i64 X.num, .string X.text, .bool X.tr, .int .i64 X.fail] 29) = W1 at A RA HB PX PY ⊢
  clear hW
  clear PX
  have hPY := unhide PY
  obtain ⟨py_0, py_1, py_2, py_3, py_4⟩ := five_cells hPY
  have fy := five_f hPY 1
  go_upto_region 3 with fail
  replace A := hide (five_side (i := 1) (x := .int .i64 (y.num.tmod 10010000)) (unhide A) (C := w.heap.size + 1) (by omega))
  replace RA := hide (five_side (i := 1) (x := .int .i64 (y.num.tmod 10010000)) (unhide RA) (C := w.heap.size + 1) (by omega))
  replace PY := hide (five_set1 (x := .int .i64 (y.num.tmod 10010000)) (unhide PY))
  replace HB := hide ((unhide HB).setCell (p := ⟨w.heap.size + 1, 1, none⟩) (by simp) (.int .i64 (y.num.tmod 10010000)))
  clear py_0 py_1 py_2 py_3 py_4 fy hPY
  generalize hW : W1.setCell ⟨w.heap.size + 1, 1, none⟩ (.int .i64 (y.num.tmod 10010000)) = WS at A RA PY HB ⊢
  clear hW
  rw [← (unhide HZ).1, ← (unhide HZ).2.1, ← (unhide HZ).2.2.1, ← (unhide HZ).2.2.2.1, ← (unhide HZ).2.2.2.2] at PY
  obtain ⟨py_0, py_1, py_2, py_3, py_4⟩ := five_cells (unhide PY)
  go_wp2_with fail
  refine (unhide HVY _).mono ?_
  rintro e w2 ⟨rfl, b2⟩
  replace PY := hide (five_below (unhide PY) b2 (five_lt (unhide PY)))
  replace A := hide (five_below (unhide A) b2 (five_lt (unhide A)))
  replace RA := hide (five_below (unhide RA) b2 (five_lt (unhide RA)))
  replace HB := hide (below_nx (unhide HB) b2)
  clear b2 py_0 py_1 py_2 py_3 py_4
  have C := hide (five_old w2 28 (.int .i64 Y.kind) (.int .i64 Y.num) (.string Y.text) (.bool Y.tr) (.int .i64 Y.fail) (.cells #[.int .i64 Y.kind, .int .i64 Y.num, .string Y.text, .bool Y.tr, .int .i64 Y.fail] 29))
  have RC := hide (five_new2 w2 (.cells #[.int .i64 Y.kind, .int .i64 Y.num, .string Y.text, .bool Y.tr, .int .i64 Y.fail] 28) 29 (.int .i64 Y.kind) (.int .i64 Y.num) (.string Y.text) (.bool Y.tr) (.int .i64 Y.fail))
  have bb := below_al2 w2 (.cells #[.int .i64 Y.kind, .int .i64 Y.num, .string Y.text, .bool Y.tr, .int .i64 Y.fail] 28) (.cells #[.int .i64 Y.kind, .int .i64 Y.num, .string Y.text, .bool Y.tr, .int .i64 Y.fail] 29)
  replace PY := hide (five_below (unhide PY) bb (five_lt (unhide PY)))
  replace A := hide (five_below (unhide A) bb (five_lt (unhide A)))
  replace RA := hide (five_below (unhide RA) bb (five_lt (unhide RA)))
  replace HB := hide (below_nx (unhide HB) bb)
  clear bb
  go_upto_region 4 with fail
  generalize hW : (w2.alloc (.cells #[.int .i64 Y.kind, .int .i64 Y.num, .string Y.text, .bool Y.tr, .int .i64 Y.fail] 28)).alloc (.cells #[.int .i64 Y.kind, .int .i64 Y.num, .string Y.text, .bool Y.tr, .int .i64 Y.fail] 29) = W2 at C RC HB PY A RA ⊢
  clear hW
  clear PY
  obtain ⟨a_0, a_1, a_2, a_3, a_4⟩ := five_cells (unhide A)
  obtain ⟨c_0, c_1, c_2, c_3, c_4⟩ := five_cells (unhide C)
  go_wp2_with fail
  refine (unhide HP1 _ ((unhide HE).below (unhide HB))).mono ?_
  rintro e w3 ⟨rfl, b3⟩
  replace A := hide (five_below (unhide A) b3 (five_lt (unhide A)))
  replace RA := hide (five_below (unhide RA) b3 (five_lt (unhide RA)))
  replace C := hide (five_below (unhide C) b3 (five_lt (unhide C)))
  replace RC := hide (five_below (unhide RC) b3 (five_lt (unhide RC)))
  replace HB := hide (below_nx (unhide HB) b3)
  clear b3 a_0 a_1 a_2 a_3 a_4 c_0 c_1 c_2 c_3 c_4
  have V1 := hide (five_new w3 28 (.int .i64 V.kind) (.int .i64 V.num) (.string V.text) (.bool V.tr) (.int .i64 V.fail))
  have bb := below_al w3 (.cells #[.int .i64 V.kind, .int .i64 V.num, .string V.text, .bool V.tr, .int .i64 V.fail] 28)
  replace A := hide (five_below (unhide A) bb (five_lt (unhide A)))
  replace RA := hide (five_below (unhide RA) bb (five_lt (unhide RA)))
  replace C := hide (five_below (unhide C) bb (five_lt (unhide C)))
  replace RC := hide (five_below (unhide RC) bb (five_lt (unhide RC)))
  replace HB := hide (below_nx (unhide HB) bb)
  clear bb
  go_upto_region 5 with fail
  generalize hW : w3.alloc (.cells #[.int .i64 V.kind, .int .i64 V.num, .string V.text, .bool V.tr, .int .i64 V.fail] 28) = W4 at V1 HB A RA C RC ⊢
  clear hW
  obtain ⟨ra_0, ra_1, ra_2, ra_3, ra_4⟩ := five_cells (unhide RA)
  obtain ⟨rc_0, rc_1, rc_2, rc_3, rc_4⟩ := five_cells (unhide RC)
  go_wp2_with fail
  refine (unhide HR1 _).mono ?_
  rintro e w5 ⟨rfl, b5⟩
  replace A := hide (five_below (unhide A) b5 (five_lt (unhide A)))
  replace RA := hide (five_below (unhide RA) b5 (five_lt (unhide RA)))
  replace C := hide (five_below (unhide C) b5 (five_lt (unhide C)))
  replace RC := hide (five_below (unhide RC) b5 (five_lt (unhide RC)))
  replace V1 := hide (five_below (unhide V1) b5 (five_lt (unhide V1)))
  replace HB := hide (below_nx (unhide HB) b5)
  clear b5 ra_0 ra_1 ra_2 ra_3 ra_4 rc_0 rc_1 rc_2 rc_3 rc_4
  have V2 := hide (five_new w5 29 (.int .i64 V.kind) (.int .i64 V.num) (.string V.text) (.bool V.tr) (.int .i64 V.fail))
  have bb := below_al w5 (.cells #[.int .i64 V.kind, .int .i64 V.num, .string V.text, .bool V.tr, .int .i64 V.fail] 29)
  replace A := hide (five_below (unhide A) bb (five_lt (unhide A)))
  replace RA := hide (five_below (unhide RA) bb (five_lt (unhide RA)))
  replace C := hide (five_below (unhide C) bb (five_lt (unhide C)))
  replace RC := hide (five_below (unhide RC) bb (five_lt (unhide RC)))
  replace V1 := hide (five_below (unhide V1) bb (five_lt (unhide V1)))
  replace HB := hide (below_nx (unhide HB) bb)
  clear bb
  go_upto_region 6 with fail
  generalize hW : w5.alloc (.cells #[.int .i64 V.kind, .int .i64 V.num, .string V.text, .bool V.tr, .int .i64 V.fail] 29) = W6 at V2 HB A RA C RC V1 ⊢
  clear hW
  clear A
  clear RA
  clear C
  clear RC
  go_wp2_with fail
  refine (unhide HWK _ ((unhide HE).below (unhide HB))).mono ?_
  rintro e w7 ⟨rfl, b7⟩
  replace V1 := hide (five_below (unhide V1) b7 (five_lt (unhide V1)))
  replace V2 := hide (five_below (unhide V2) b7 (five_lt (unhide V2)))
  replace HB := hide (below_nx (unhide HB) b7)
  clear b7
  obtain ⟨v1_0, v1_1, v1_2, v1_3, v1_4⟩ := five_cells (unhide V1)
  obtain ⟨v2_0, v2_1, v2_2, v2_3, v2_4⟩ := five_cells (unhide V2)
  go_wp2_with fail
  refine (unhide HS _).mono ?_
  rintro e w9 ⟨rfl, b9⟩
  replace HB := hide (below_nx (unhide HB) b9)
  clear b9 v1_0 v1_1 v1_2 v1_3 v1_4 v2_0 v2_1 v2_2 v2_3 v2_4
  go_wp2
  go_ret
  exact ⟨rfl, unhide HB⟩
end Go.Proofs.YtbeijnflfmjgfaaGreatDoor
