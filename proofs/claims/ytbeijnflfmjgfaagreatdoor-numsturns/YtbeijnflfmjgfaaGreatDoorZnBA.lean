/- The walk of NumsTurns. -/
import Derived.BigQuiet
import Derived.BigRegion
import Derived.Deep.CutBlock
import Derived.Deep.CutRange
import Derived.Deep.DeepFit
import Derived.Deep.QuietTactic
import Derived.Deep.RegionHeld3
import Derived.Deep.RegionWith
import Derived.Deep.WholeRow
import Derived.Laws.Bits64b
import Derived.Laws.BitsAllLaws
import Derived.Laws.CopyOwn
import Derived.Laws.FloatArith
import Derived.Laws.IdiomStrings
import Derived.Laws.Rows
import Derived.Laws.StructEq
import Derived.Laws.Tables
import Derived.Lib.BitFns
import Derived.Lib.IndexBytes
import Derived.Lib.ItoaMem
import Derived.Lib.ItoaNum
import Derived.Lib.TrimByte
import Derived.Lib.Walk
import Derived.OwnWalk
import Derived.Shelf.Bits.Mul64
import Derived.Shelf.LaysM
import Derived.Shelf.Small.Bits
import Derived.Shelf.Small.Strs
import Derived.Shelf.Small.Wraps
import Derived.Shelf.Strconv.Itoa0
import Derived.Shelf.Strconv.Itoa1
import Derived.Shelf.Strconv.Itoa2
import Derived.Shelf.Strings.AsciiSet
import Derived.Shelf.Strings.Cut
import Derived.Shelf.Strings.Prefix
import Derived.Shelf.Strings.Search1
import Derived.Shelf.Strings.Search2
import Derived.Shelf.Strings.Shaped
import Derived.Shelf.Strings.Trim
import Derived.Test.YtbeijnflfmjgfaaGreatDoorProg
import Derived.Test.YtbeijnflfmjgfaaGreatDoorRows
import Derived.WalkKit
import Derived.WalkLawsBesides
import Derived.WalkSmall
import Derived.WalkSpells
import Ieee.Arith
import Derived.Test.YtbeijnflfmjgfaaGreatDoorZnAA
import Derived.Test.YtbeijnflfmjgfaaGreatDoorZnAB
import Derived.Test.YtbeijnflfmjgfaaGreatDoorZnAC
import Derived.Test.YtbeijnflfmjgfaaGreatDoorZnAD
import Derived.Test.YtbeijnflfmjgfaaGreatDoorZnAE
import Derived.Test.YtbeijnflfmjgfaaGreatDoorZnAF
import Derived.Test.YtbeijnflfmjgfaaGreatDoorZnAG
import Derived.Test.YtbeijnflfmjgfaaGreatDoorZnAH
import Derived.Test.YtbeijnflfmjgfaaGreatDoorZnAI
import Derived.Test.YtbeijnflfmjgfaaGreatDoorZnAJ
import Derived.Test.YtbeijnflfmjgfaaGreatDoorZnAK
import Derived.Test.YtbeijnflfmjgfaaGreatDoorZnAL
import Derived.Test.YtbeijnflfmjgfaaGreatDoorZnAM
import Derived.Test.YtbeijnflfmjgfaaGreatDoorZnAN
import Derived.Test.YtbeijnflfmjgfaaGreatDoorZnAV
namespace Go.Proofs.YtbeijnflfmjgfaaGreatDoor
open Go.RowKit

theorem turns_at {w : World} {G : Nat} {ty : TypeId} (h : w.heap[G]? = some (.cells #[.string ⟨#[43]⟩, .string ⟨#[42]⟩, .string ⟨#[61]⟩, .string ⟨#[60, 62]⟩] ty (0, 0))) (k : Nat) (hk : k < 4) (X Y : Vl) (hX : vGood X = true) (hY : vGood Y = true) (kX : X.kind ≠ 4) (kY : Y.kind ≠ 4) :
    ∃ o : ByteArray, w.cell? ⟨G, k, none⟩ = some (.string o) ∧ o.size ≤ 1000 ∧ binB o.toList = true ∧ binS o.toList X Y = binS o.toList Y X := by
  have e : ∀ i : Nat, w.cell? ⟨G, i, none⟩ = (#[.string ⟨#[43]⟩, .string ⟨#[42]⟩, .string ⟨#[61]⟩, .string ⟨#[60, 62]⟩] : Array Value)[i]? := fun i => by simp [World.cell?, h]
  have hk' : k = 0 ∨ k = 1 ∨ k = 2 ∨ k = 3 := by omega
  have hc := bin_cmp X Y hX hY kX kY
  rcases hk' with rfl | rfl | rfl | rfl
  · exact ⟨_, by rw [e]; rfl, by decide, by rw [ByteArray.toList_eq]; decide, by rw [ByteArray.toList_eq]; exact bin_plus X Y hX hY kX kY⟩
  · exact ⟨_, by rw [e]; rfl, by decide, by rw [ByteArray.toList_eq]; decide, by rw [ByteArray.toList_eq]; exact bin_times X Y hX hY kX kY⟩
  · exact ⟨_, by rw [e]; rfl, by decide, by rw [ByteArray.toList_eq]; decide, by rw [ByteArray.toList_eq]; exact hc.1⟩
  · exact ⟨_, by rw [e]; rfl, by decide, by rw [ByteArray.toList_eq]; decide, by rw [ByteArray.toList_eq]; exact hc.2.1⟩
theorem neg_size (x : Int × Int) : (negV x).text.size ≤ 1000 := by
  unfold negV vN
  split
  · show noText.size ≤ 1000; decide
  · split
    · show noText.size ≤ 1000; decide
    · show noText.size ≤ 1000; decide

set_option maxRecDepth 100000 in
set_option maxHeartbeats 8000000 in
theorem turns_law (hp : PNums) (x y : Vl) (w : World) (hx : x.text.size ≤ maxLen) (hy : y.text.size ≤ maxLen) (he : Env3 w) :
    Calls Tryz.prog 8 #[.agg x.cells, .agg y.cells] w fun e w' => e = .returned (.bool true) ∧ Below w.heap.size w w' := by
  have HE := hide he
  clear he
  have HP := hide hp
  clear hp
  have HWK := hide (fun w he => wakes9 (unhide HP) w he)
  have HVX := hide (fun w => values9_law x w hx)
  clear hx
  have SX : Hid ((cutV x).text.size ≤ 300) := hide (cutT_size x.text)
  obtain ⟨X, eX⟩ : ∃ X, cutV x = X := ⟨_, rfl⟩
  rw [eX] at HVX SX
  clear eX
  have HVY := hide (fun w => values9_law y w hy)
  clear hy
  have SY : Hid ((cutV y).text.size ≤ 300) := hide (cutT_size y.text)
  obtain ⟨Y, eY⟩ : ∃ Y, cutV y = Y := ⟨_, rfl⟩
  rw [eY] at HVY SY
  clear eY
  have HG1 := hide (fun w => good3_val X w (by have := unhide SX; omega))
  have HG2 := hide (fun w => good3_val Y w (by have := unhide SY; omega))
  unfold Vl.cells at HVX HVY HG1 HG2 ⊢
  go_enter Tryz.func8, Tryz.ntmps8
  go_upto_region 1 with fail
  have PX := hide (five_old w 23 (.int .i64 x.kind) (.int .i64 x.num) (.string x.text) (.bool x.tr) (.int .i64 x.fail) (.cells #[.int .i64 y.kind, .int .i64 y.num, .string y.text, .bool y.tr, .int .i64 y.fail] 23))
  have PY := hide (five_new2 w (.cells #[.int .i64 x.kind, .int .i64 x.num, .string x.text, .bool x.tr, .int .i64 x.fail] 23) 23 (.int .i64 y.kind) (.int .i64 y.num) (.string y.text) (.bool y.tr) (.int .i64 y.fail))
  have HB := hide (below_al2 w (.cells #[.int .i64 x.kind, .int .i64 x.num, .string x.text, .bool x.tr, .int .i64 x.fail] 23) (.cells #[.int .i64 y.kind, .int .i64 y.num, .string y.text, .bool y.tr, .int .i64 y.fail] 23))
  generalize hW : (w.alloc (.cells #[.int .i64 x.kind, .int .i64 x.num, .string x.text, .bool x.tr, .int .i64 x.fail] 23)).alloc (.cells #[.int .i64 y.kind, .int .i64 y.num, .string y.text, .bool y.tr, .int .i64 y.fail] 23) = W0 at PX PY HB ⊢
  clear hW
  obtain ⟨px_0, px_1, px_2, px_3, px_4⟩ := five_cells (unhide PX)
  go_wp2_with fail
  refine (unhide HVX _).mono ?_
  rintro e w1 ⟨rfl, b1⟩
  replace PX := hide (five_below (unhide PX) b1 (five_lt (unhide PX)))
  replace PY := hide (five_below (unhide PY) b1 (five_lt (unhide PY)))
  replace HB := hide (below_nx (unhide HB) b1)
  clear b1 px_0 px_1 px_2 px_3 px_4
  have A := hide (five_old w1 28 (.int .i64 X.kind) (.int .i64 X.num) (.string X.text) (.bool X.tr) (.int .i64 X.fail) (.cells #[.int .i64 X.kind, .int .i64 X.num, .string X.text, .bool X.tr, .int .i64 X.fail] 29))
  have RA := hide (five_new2 w1 (.cells #[.int .i64 X.kind, .int .i64 X.num, .string X.text, .bool X.tr, .int .i64 X.fail] 28) 29 (.int .i64 X.kind) (.int .i64 X.num) (.string X.text) (.bool X.tr) (.int .i64 X.fail))
  have bb := below_al2 w1 (.cells #[.int .i64 X.kind, .int .i64 X.num, .string X.text, .bool X.tr, .int .i64 X.fail] 28) (.cells #[.int .i64 X.kind, .int .i64 X.num, .string X.text, .bool X.tr, .int .i64 X.fail] 29)
  replace PX := hide (five_below (unhide PX) bb (five_lt (unhide PX)))
  replace PY := hide (five_below (unhide PY) bb (five_lt (unhide PY)))
  replace HB := hide (below_nx (unhide HB) bb)
  clear bb
  go_upto_region 2 with fail
  generalize hW : (w1.alloc (.cells #[.int .i64 X.kind, .int .i64 X.num, .string X.text, .bool X.tr, .int .i64 X.fail] 28)).alloc (.cells #[.int .i64 X.kind, .int .i64 X.num, .string X.text, .bool X.tr, .int .i64 X.fail] 29) = W1 at A RA HB PX PY ⊢
  clear hW
  clear PX
  obtain ⟨py_0, py_1, py_2, py_3, py_4⟩ := five_cells (unhide PY)
  go_wp2_with fail
  refine (unhide HVY _).mono ?_
  rintro e w2 ⟨rfl, b2⟩
  replace PY := hide (five_below (unhide PY) b2 (five_lt (unhide PY)))
  replace A := hide (five_below (unhide A) b2 (five_lt (unhide A)))
  replace RA := hide (five_below (unhide RA) b2 (five_lt (unhide RA)))
  replace HB := hide (below_nx (unhide HB) b2)
  clear b2 py_0 py_1 py_2 py_3 py_4
  have C := hide (five_old w2 28 (.int .i64 Y.kind) (.int .i64 Y.num) (.string Y.text) (.bool Y.tr) (.int .i64 Y.fail) (.cells #[.int .i64 Y.kind, .int .i64 Y.num, .string Y.text, .bool Y.tr, .int .i64 Y.fail] 29))
  have RC := hide (five_new2 w2 (.cells #[.int .i64 Y.kind, .int .i64 Y.num, .string Y.text, .bool Y.tr, .int .i64 Y.fail] 28) 29 (.int .i64 Y.kind) (.int .i64 Y.num) (.string Y.text) (.bool Y.tr) (.int .i64 Y.fail))
  have bb := below_al2 w2 (.cells #[.int .i64 Y.kind, .int .i64 Y.num, .string Y.text, .bool Y.tr, .int .i64 Y.fail] 28) (.cells #[.int .i64 Y.kind, .int .i64 Y.num, .string Y.text, .bool Y.tr, .int .i64 Y.fail] 29)
  replace PY := hide (five_below (unhide PY) bb (five_lt (unhide PY)))
  replace A := hide (five_below (unhide A) bb (five_lt (unhide A)))
  replace RA := hide (five_below (unhide RA) bb (five_lt (unhide RA)))
  replace HB := hide (below_nx (unhide HB) bb)
  clear bb
  go_upto_region 3 with fail
  generalize hW : (w2.alloc (.cells #[.int .i64 Y.kind, .int .i64 Y.num, .string Y.text, .bool Y.tr, .int .i64 Y.fail] 28)).alloc (.cells #[.int .i64 Y.kind, .int .i64 Y.num, .string Y.text, .bool Y.tr, .int .i64 Y.fail] 29) = W2 at C RC HB PY A RA ⊢
  clear hW
  clear PY
  clear RA
  clear RC
  go_wp2_with fail
  refine (unhide HWK _ ((unhide HE).below (unhide HB))).mono ?_
  rintro e w3 ⟨rfl, b3⟩
  replace A := hide (five_below (unhide A) b3 (five_lt (unhide A)))
  replace C := hide (five_below (unhide C) b3 (five_lt (unhide C)))
  replace HB := hide (below_nx (unhide HB) b3)
  clear b3
  obtain ⟨a_0, a_1, a_2, a_3, a_4⟩ := five_cells (unhide A)
  obtain ⟨c_0, c_1, c_2, c_3, c_4⟩ := five_cells (unhide C)
  by_cases kX : X.kind = 4
  · clear HG1 HG2
    go_wp2_with fail
    refine (unhide HWK _ ((unhide HE).below (unhide HB))).mono ?_
    rintro e w9 ⟨rfl, b9⟩
    replace HB := hide (below_nx (unhide HB) b9)
    clear b9
    go_wp2
    go_ret
    exact ⟨rfl, unhide HB⟩
  by_cases kY : Y.kind = 4
  · clear HG1 HG2
    go_wp2_with fail
    refine (unhide HWK _ ((unhide HE).below (unhide HB))).mono ?_
    rintro e w9 ⟨rfl, b9⟩
    replace HB := hide (below_nx (unhide HB) b9)
    clear b9
    go_wp2
    go_ret
    exact ⟨rfl, unhide HB⟩
  have kXb : (X.kind == 4) = false := by rw [beq_eq_false_iff_ne]; exact kX
  have kYb : (Y.kind == 4) = false := by rw [beq_eq_false_iff_ne]; exact kY
  go_wp2_with fail
  refine (unhide HG1 _).mono ?_
  rintro e wg1 ⟨rfl, bg⟩
  replace A := hide (five_below (unhide A) bg (five_lt (unhide A)))
  replace C := hide (five_below (unhide C) bg (five_lt (unhide C)))
  replace HB := hide (below_nx (unhide HB) bg)
  clear bg a_0 a_1 a_2 a_3 a_4 c_0 c_1 c_2 c_3 c_4
  obtain ⟨a_0, a_1, a_2, a_3, a_4⟩ := five_cells (unhide A)
  obtain ⟨c_0, c_1, c_2, c_3, c_4⟩ := five_cells (unhide C)
  cases hgX : vGood X
  · clear HG1 HG2
    go_wp2_with fail
    refine (unhide HWK _ ((unhide HE).below (unhide HB))).mono ?_
    rintro e w9 ⟨rfl, b9⟩
    replace HB := hide (below_nx (unhide HB) b9)
    clear b9
    go_wp2
    go_ret
    exact ⟨rfl, unhide HB⟩
  have HGX := hide hgX
  clear hgX
  go_wp2_with fail
  refine (unhide HG2 _).mono ?_
  rintro e wg2 ⟨rfl, bg⟩
  replace A := hide (five_below (unhide A) bg (five_lt (unhide A)))
  replace C := hide (five_below (unhide C) bg (five_lt (unhide C)))
  replace HB := hide (below_nx (unhide HB) bg)
  clear bg a_0 a_1 a_2 a_3 a_4 c_0 c_1 c_2 c_3 c_4
  obtain ⟨a_0, a_1, a_2, a_3, a_4⟩ := five_cells (unhide A)
  obtain ⟨c_0, c_1, c_2, c_3, c_4⟩ := five_cells (unhide C)
  cases hgY : vGood Y
  · clear HG1 HG2
    go_wp2_with fail
    refine (unhide HWK _ ((unhide HE).below (unhide HB))).mono ?_
    rintro e w9 ⟨rfl, b9⟩
    replace HB := hide (below_nx (unhide HB) b9)
    clear b9
    go_wp2
    go_ret
    exact ⟨rfl, unhide HB⟩
  have HGY := hide hgY
  clear hgY HG1 HG2
  clear a_0 a_1 a_2 a_3 a_4 c_0 c_1 c_2 c_3 c_4
  have HP1 := hide (fun (o : ByteArray) w (ho : o.size ≤ 1000) (he : Env3 w) => (unhide HP).bin o X Y w ho (by have := unhide SX; omega) (by have := unhide SY; omega) he)
  have HP2 := hide (fun (o : ByteArray) w (ho : o.size ≤ 1000) (he : Env3 w) => (unhide HP).bin o Y X w ho (by have := unhide SY; omega) (by have := unhide SX; omega) he)
  rw [sound_is (unhide HGX), sound_is (unhide HGY)] at HP1 HP2
  unfold Vl.cells at HP1 HP2
  go_upto_region 6 with fail
  have HK := hide (And.intro kX kY)
  clear kX kY kXb kYb
  have HG : Hid ((wg2.alloc (.cells #[.string ⟨#[43]⟩, .string ⟨#[42]⟩, .string ⟨#[61]⟩, .string ⟨#[60, 62]⟩] 9)).heap[wg2.heap.size]? = some (.cells #[.string ⟨#[43]⟩, .string ⟨#[42]⟩, .string ⟨#[61]⟩, .string ⟨#[60, 62]⟩] 9 (0, 0))) := hide (heap_alloc_new _ _)
  have bb := below_al wg2 (.cells #[.string ⟨#[43]⟩, .string ⟨#[42]⟩, .string ⟨#[61]⟩, .string ⟨#[60, 62]⟩] 9)
  replace A := hide (five_below (unhide A) bb (five_lt (unhide A)))
  replace C := hide (five_below (unhide C) bb (five_lt (unhide C)))
  have hgl : wg2.heap.size < (wg2.alloc (.cells #[.string ⟨#[43]⟩, .string ⟨#[42]⟩, .string ⟨#[61]⟩, .string ⟨#[60, 62]⟩] 9)).heap.size := by simp
  have HB0 := hide (below_nx (unhide HB) bb)
  clear bb HB
  generalize hW : wg2.alloc (.cells #[.string ⟨#[43]⟩, .string ⟨#[42]⟩, .string ⟨#[61]⟩, .string ⟨#[60, 62]⟩] 9) = WL at A C HG HB0 hgl ⊢
  clear hW
  generalize wg2.heap.size = G at HG hgl ⊢
  replace HE := hide ((unhide HE).below (unhide HB0))
  go_loopw [58] (fun u wr => ∃ n : Nat, u = .int .i64 (n : Int) ∧ n ≤ 4 ∧ Hid (Below WL.heap.size WL wr)) (fun u _ => 4 - (intOf u).toNat)
  case atStart => exact ⟨0, rfl, Nat.zero_le _, hide (Below.refl _ _)⟩
  case round =>
    obtain ⟨n, rfl, hn, HB⟩ := hrel
    by_cases hlt : (n : Int) < 4
    · replace A := hide (five_below (unhide A) (unhide HB) (five_lt (unhide A)))
      replace C := hide (five_below (unhide C) (unhide HB) (five_lt (unhide C)))
      obtain ⟨o, co, ho, hb1, hb2⟩ := turns_at (((unhide HB).block G hgl).trans (unhide HG)) n (by omega) X Y (unhide HGX) (unhide HGY) (unhide HK).1 (unhide HK).2
      have HPo := hide (fun w he => unhide HP1 o w ho he)
      have HRo := hide (fun w he => unhide HP2 o w ho he)
      rw [← hb2, hb1] at HRo
      obtain ⟨V, eV⟩ : ∃ V, binS o.toList X Y = V := ⟨_, rfl⟩
      rw [eV] at HPo HRo
      rw [hb1] at HPo
      clear eV hb1 hb2 HP1 HP2
      have hne := vl_ne V
      obtain ⟨a_0, a_1, a_2, a_3, a_4⟩ := five_cells (unhide A)
      obtain ⟨c_0, c_1, c_2, c_3, c_4⟩ := five_cells (unhide C)
      go_wp2_with fail
      refine (unhide HPo _ ((unhide HE).below (unhide HB))).mono ?_
      rintro e w4 ⟨rfl, b4⟩
      replace A := hide (five_below (unhide A) b4 (five_lt (unhide A)))
      replace C := hide (five_below (unhide C) b4 (five_lt (unhide C)))
      replace HB := hide (below_nx (unhide HB) b4)
      clear b4 a_0 a_1 a_2 a_3 a_4 c_0 c_1 c_2 c_3 c_4
      have V1 := hide (five_new w4 28 (.int .i64 V.kind) (.int .i64 V.num) (.string V.text) (.bool V.tr) (.int .i64 V.fail))
      have bb := below_al w4 (.cells #[.int .i64 V.kind, .int .i64 V.num, .string V.text, .bool V.tr, .int .i64 V.fail] 28)
      replace A := hide (five_below (unhide A) bb (five_lt (unhide A)))
      replace C := hide (five_below (unhide C) bb (five_lt (unhide C)))
      replace HB := hide (below_nx (unhide HB) bb)
      clear bb
      go_upto_region 9 with fail
      generalize hW : w4.alloc (.cells #[.int .i64 V.kind, .int .i64 V.num, .string V.text, .bool V.tr, .int .i64 V.fail] 28) = W5 at V1 HB A C ⊢
      clear hW
      obtain ⟨a_0, a_1, a_2, a_3, a_4⟩ := five_cells (unhide A)
      obtain ⟨c_0, c_1, c_2, c_3, c_4⟩ := five_cells (unhide C)
      go_wp2_with fail
      refine (unhide HRo _ ((unhide HE).below (unhide HB))).mono ?_
      rintro e w6 ⟨rfl, b6⟩
      replace A := hide (five_below (unhide A) b6 (five_lt (unhide A)))
      replace C := hide (five_below (unhide C) b6 (five_lt (unhide C)))
      replace V1 := hide (five_below (unhide V1) b6 (five_lt (unhide V1)))
      replace HB := hide (below_nx (unhide HB) b6)
      clear b6 a_0 a_1 a_2 a_3 a_4 c_0 c_1 c_2 c_3 c_4
      have V2 := hide (five_new w6 28 (.int .i64 V.kind) (.int .i64 V.num) (.string V.text) (.bool V.tr) (.int .i64 V.fail))
      have bb := below_al w6 (.cells #[.int .i64 V.kind, .int .i64 V.num, .string V.text, .bool V.tr, .int .i64 V.fail] 28)
      replace A := hide (five_below (unhide A) bb (five_lt (unhide A)))
      replace C := hide (five_below (unhide C) bb (five_lt (unhide C)))
      replace V1 := hide (five_below (unhide V1) bb (five_lt (unhide V1)))
      replace HB := hide (below_nx (unhide HB) bb)
      clear bb
      go_upto_region 10 with fail
      generalize hW : w6.alloc (.cells #[.int .i64 V.kind, .int .i64 V.num, .string V.text, .bool V.tr, .int .i64 V.fail] 28) = W7 at V2 HB A C V1 ⊢
      clear hW
      obtain ⟨v1_0, v1_1, v1_2, v1_3, v1_4⟩ := five_cells (unhide V1)
      obtain ⟨v2_0, v2_1, v2_2, v2_3, v2_4⟩ := five_cells (unhide V2)
      go_wp2
      go_roundw
      case rel => exact ⟨n + 1, by go_num, by omega, HB⟩
      case measure => simp [intOf]; omega
    · replace A := hide (five_below (unhide A) (unhide HB) (five_lt (unhide A)))
      replace C := hide (five_below (unhide C) (unhide HB) (five_lt (unhide C)))
      clear HG
      have hc := bin_cmp X Y (unhide HGX) (unhide HGY) (unhide HK).1 (unhide HK).2
      have hm := bin_minus X Y (unhide HGX) (unhide HGY) (unhide HK).1 (unhide HK).2
      have HL1 := hide (fun w he => unhide HP1 ⟨#[60]⟩ w (by decide) he)
      have HL2 := hide (fun w he => unhide HP2 ⟨#[62]⟩ w (by decide) he)
      have HL3 := hide (fun w he => unhide HP1 ⟨#[45]⟩ w (by decide) he)
      rw [ByteArray.toList_eq] at HL1 HL2 HL3
      have HN := hide (fun w (he : Env3 w) => (unhide HP).neg Y w (by have := unhide SY; omega) he)
      rw [sound_is (unhide HGY)] at HN
      have HL4 := hide (fun w (he : Env3 w) => (unhide HP).bin ⟨#[43]⟩ X (negV (asNumV Y)) w (by decide) (by have := unhide SX; omega) (neg_size _) he)
      rw [ByteArray.toList_eq, sound_is (unhide HGX)] at HL4
      obtain ⟨V, eV⟩ : ∃ V, binS [60] X Y = V := ⟨_, rfl⟩
      obtain ⟨D, eD⟩ : ∃ D, binS [45] X Y = D := ⟨_, rfl⟩
      rw [← hc.2.2, eV] at HL2
      rw [eV] at HL1
      rw [← hm, eD] at HL4
      rw [eD] at HL3
      generalize negV (asNumV Y) = N at HN HL4
      have hs1 := vl_same V
      have hs2 := vl_same D
      clear hc hm eV eD HP1 HP2
      unfold Vl.cells at HN HL4
      obtain ⟨a_0, a_1, a_2, a_3, a_4⟩ := five_cells (unhide A)
      obtain ⟨c_0, c_1, c_2, c_3, c_4⟩ := five_cells (unhide C)
      go_wp2_with fail
      refine (unhide HL1 _ ((unhide HE).below (unhide HB))).mono ?_
      rintro e w8 ⟨rfl, b8⟩
      replace A := hide (five_below (unhide A) b8 (five_lt (unhide A)))
      replace C := hide (five_below (unhide C) b8 (five_lt (unhide C)))
      replace HB := hide (below_nx (unhide HB) b8)
      clear b8 a_0 a_1 a_2 a_3 a_4 c_0 c_1 c_2 c_3 c_4
      have V1 := hide (five_new w8 28 (.int .i64 V.kind) (.int .i64 V.num) (.string V.text) (.bool V.tr) (.int .i64 V.fail))
      have bb := below_al w8 (.cells #[.int .i64 V.kind, .int .i64 V.num, .string V.text, .bool V.tr, .int .i64 V.fail] 28)
      replace A := hide (five_below (unhide A) bb (five_lt (unhide A)))
      replace C := hide (five_below (unhide C) bb (five_lt (unhide C)))
      replace HB := hide (below_nx (unhide HB) bb)
      clear bb
      go_upto_region 14 with fail
      generalize hW : w8.alloc (.cells #[.int .i64 V.kind, .int .i64 V.num, .string V.text, .bool V.tr, .int .i64 V.fail] 28) = W9 at V1 HB A C ⊢
      clear hW
      obtain ⟨a_0, a_1, a_2, a_3, a_4⟩ := five_cells (unhide A)
      obtain ⟨c_0, c_1, c_2, c_3, c_4⟩ := five_cells (unhide C)
      go_wp2_with fail
      refine (unhide HL2 _ ((unhide HE).below (unhide HB))).mono ?_
      rintro e w10 ⟨rfl, b10⟩
      replace A := hide (five_below (unhide A) b10 (five_lt (unhide A)))
      replace C := hide (five_below (unhide C) b10 (five_lt (unhide C)))
      replace V1 := hide (five_below (unhide V1) b10 (five_lt (unhide V1)))
      replace HB := hide (below_nx (unhide HB) b10)
      clear b10 a_0 a_1 a_2 a_3 a_4 c_0 c_1 c_2 c_3 c_4
      have V2 := hide (five_new w10 28 (.int .i64 V.kind) (.int .i64 V.num) (.string V.text) (.bool V.tr) (.int .i64 V.fail))
      have bb := below_al w10 (.cells #[.int .i64 V.kind, .int .i64 V.num, .string V.text, .bool V.tr, .int .i64 V.fail] 28)
      replace A := hide (five_below (unhide A) bb (five_lt (unhide A)))
      replace C := hide (five_below (unhide C) bb (five_lt (unhide C)))
      replace V1 := hide (five_below (unhide V1) bb (five_lt (unhide V1)))
      replace HB := hide (below_nx (unhide HB) bb)
      clear bb
      go_upto_region 15 with fail
      generalize hW : w10.alloc (.cells #[.int .i64 V.kind, .int .i64 V.num, .string V.text, .bool V.tr, .int .i64 V.fail] 28) = W11 at V2 HB A C V1 ⊢
      clear hW
      obtain ⟨a_0, a_1, a_2, a_3, a_4⟩ := five_cells (unhide A)
      obtain ⟨c_0, c_1, c_2, c_3, c_4⟩ := five_cells (unhide C)
      go_wp2_with fail
      refine (unhide HL3 _ ((unhide HE).below (unhide HB))).mono ?_
      rintro e w12 ⟨rfl, b12⟩
      replace A := hide (five_below (unhide A) b12 (five_lt (unhide A)))
      replace C := hide (five_below (unhide C) b12 (five_lt (unhide C)))
      replace V1 := hide (five_below (unhide V1) b12 (five_lt (unhide V1)))
      replace V2 := hide (five_below (unhide V2) b12 (five_lt (unhide V2)))
      replace HB := hide (below_nx (unhide HB) b12)
      clear b12 a_0 a_1 a_2 a_3 a_4 c_0 c_1 c_2 c_3 c_4
      have D1 := hide (five_new w12 28 (.int .i64 D.kind) (.int .i64 D.num) (.string D.text) (.bool D.tr) (.int .i64 D.fail))
      have bb := below_al w12 (.cells #[.int .i64 D.kind, .int .i64 D.num, .string D.text, .bool D.tr, .int .i64 D.fail] 28)
      replace A := hide (five_below (unhide A) bb (five_lt (unhide A)))
      replace C := hide (five_below (unhide C) bb (five_lt (unhide C)))
      replace V1 := hide (five_below (unhide V1) bb (five_lt (unhide V1)))
      replace V2 := hide (five_below (unhide V2) bb (five_lt (unhide V2)))
      replace HB := hide (below_nx (unhide HB) bb)
      clear bb
      go_upto_region 16 with fail
      generalize hW : w12.alloc (.cells #[.int .i64 D.kind, .int .i64 D.num, .string D.text, .bool D.tr, .int .i64 D.fail] 28) = W13 at D1 HB A C V1 V2 ⊢
      clear hW
      obtain ⟨a_0, a_1, a_2, a_3, a_4⟩ := five_cells (unhide A)
      obtain ⟨c_0, c_1, c_2, c_3, c_4⟩ := five_cells (unhide C)
      replace A := hide (five_drew (unhide A))
      replace C := hide (five_drew (unhide C))
      replace V1 := hide (five_drew (unhide V1))
      replace V2 := hide (five_drew (unhide V2))
      replace D1 := hide (five_drew (unhide D1))
      replace HB := hide (unhide HB).drew
      go_cut [21] from 113 (fun p wx => ∃ g, p = .pointer (some ⟨g, 0, none⟩) ∧ Hid (FiveAt wx g 28 #[.int .i64 D.kind, .int .i64 D.num, .string D.text, .bool D.tr, .int .i64 D.fail]) ∧ Hid (FiveAt wx (w8.heap.size) 28 #[.int .i64 V.kind, .int .i64 V.num, .string V.text, .bool V.tr, .int .i64 V.fail]) ∧ Hid (FiveAt wx (w10.heap.size) 28 #[.int .i64 V.kind, .int .i64 V.num, .string V.text, .bool V.tr, .int .i64 V.fail]) ∧ Hid (FiveAt wx (w12.heap.size) 28 #[.int .i64 D.kind, .int .i64 D.num, .string D.text, .bool D.tr, .int .i64 D.fail]) ∧ Hid (Below WL.heap.size WL wx))
      case first =>
        go_region_held3 (fun w' => w'.cell? ⟨w1.heap.size, 0, none⟩ = some (.int .i64 X.kind) ∧ w'.cell? ⟨w1.heap.size, 1, none⟩ = some (.int .i64 X.num) ∧ w'.cell? ⟨w1.heap.size, 2, none⟩ = some (.string X.text) ∧ w'.cell? ⟨w1.heap.size, 3, none⟩ = some (.bool X.tr) ∧ w'.cell? ⟨w1.heap.size, 4, none⟩ = some (.int .i64 X.fail) ∧ w'.cell? ⟨w2.heap.size, 0, none⟩ = some (.int .i64 Y.kind) ∧ w'.cell? ⟨w2.heap.size, 1, none⟩ = some (.int .i64 Y.num) ∧ w'.cell? ⟨w2.heap.size, 2, none⟩ = some (.string Y.text) ∧ w'.cell? ⟨w2.heap.size, 3, none⟩ = some (.bool Y.tr) ∧ w'.cell? ⟨w2.heap.size, 4, none⟩ = some (.int .i64 Y.fail)) (go_keep)
          (first
            | (go_at_call 15; refine (unhide HN _ ((unhide HE).below (unhide HB))).mono ?_; rintro e yy ⟨rfl, zz⟩; replace A := hide (five_below (unhide A) zz (five_lt (unhide A))); replace C := hide (five_below (unhide C) zz (five_lt (unhide C))); replace V1 := hide (five_below (unhide V1) zz (five_lt (unhide V1))); replace V2 := hide (five_below (unhide V2) zz (five_lt (unhide V2))); replace D1 := hide (five_below (unhide D1) zz (five_lt (unhide D1))); replace HB := hide (below_nx (unhide HB) zz); (try (replace NB := hide (five_below (unhide NB) zz (five_lt (unhide NB))))); clear zz; clear a_0 a_1 a_2 a_3 a_4 c_0 c_1 c_2 c_3 c_4; obtain ⟨a_0, a_1, a_2, a_3, a_4⟩ := five_cells (unhide A); obtain ⟨c_0, c_1, c_2, c_3, c_4⟩ := five_cells (unhide C))
            | (go_at_call 15; have n_0 := World.new_ne _ _ a_0; have n_1 := World.new_ne _ _ c_0; have t_0 : w8.heap.size < W13.heap.size := five_lt (unhide V1); have t_1 : w10.heap.size < W13.heap.size := five_lt (unhide V2); have t_2 : w12.heap.size < W13.heap.size := five_lt (unhide D1); have t_b : WL.heap.size ≤ W13.heap.size := (unhide HB).size; refine (unhide HN _ ((unhide HE).below (below_nx (unhide HB) (below_al _ (.cells #[.int .i64 0, .int .i64 0, .string ⟨#[]⟩, .bool false, .int .i64 0] 28))))).mono ?_; rintro e yy ⟨rfl, zy⟩; have NB := hide (five_below (five_drew (five_new W13 28 (.int .i64 0) (.int .i64 0) (.string ⟨#[]⟩) (.bool false) (.int .i64 0))) zy (by simp)); have zz := below_nx (below_al _ (.cells #[.int .i64 0, .int .i64 0, .string ⟨#[]⟩, .bool false, .int .i64 0] 28)) zy; replace A := hide (five_below (unhide A) zz (five_lt (unhide A))); replace C := hide (five_below (unhide C) zz (five_lt (unhide C))); replace V1 := hide (five_below (unhide V1) zz (five_lt (unhide V1))); replace V2 := hide (five_below (unhide V2) zz (five_lt (unhide V2))); replace D1 := hide (five_below (unhide D1) zz (five_lt (unhide D1))); replace HB := hide (below_nx (unhide HB) zz); clear zz zy; clear a_0 a_1 a_2 a_3 a_4 c_0 c_1 c_2 c_3 c_4; obtain ⟨a_0, a_1, a_2, a_3, a_4⟩ := five_cells (unhide A); obtain ⟨c_0, c_1, c_2, c_3, c_4⟩ := five_cells (unhide C))
            | (go_at_call 11; refine (unhide HL4 _ ((unhide HE).below (unhide HB))).mono ?_; rintro e yz ⟨rfl, zz⟩; replace A := hide (five_below (unhide A) zz (five_lt (unhide A))); replace C := hide (five_below (unhide C) zz (five_lt (unhide C))); replace V1 := hide (five_below (unhide V1) zz (five_lt (unhide V1))); replace V2 := hide (five_below (unhide V2) zz (five_lt (unhide V2))); replace D1 := hide (five_below (unhide D1) zz (five_lt (unhide D1))); replace HB := hide (below_nx (unhide HB) zz); (try (replace NB := hide (five_below (unhide NB) zz (five_lt (unhide NB))))); clear zz; clear a_0 a_1 a_2 a_3 a_4 c_0 c_1 c_2 c_3 c_4; obtain ⟨a_0, a_1, a_2, a_3, a_4⟩ := five_cells (unhide A); obtain ⟨c_0, c_1, c_2, c_3, c_4⟩ := five_cells (unhide C); (have n_2 := World.new_ne _ _ a_0; have n_3 := World.new_ne _ _ c_0); (try (have NBx := five_all (unhide NB); obtain ⟨⟨⟨m_0, y_0⟩, ⟨m_1, y_1⟩, ⟨m_2, y_2⟩, ⟨m_3, y_3⟩, m_4, y_4⟩, l_0, l_1, l_2, l_3, l_4⟩ := NBx)))
            | (go_at_call 11; have n_0 := World.new_ne _ _ a_0; have n_1 := World.new_ne _ _ c_0; have t_0 : w8.heap.size < _ := five_lt (unhide V1); have t_1 : w10.heap.size < _ := five_lt (unhide V2); have t_2 : w12.heap.size < _ := five_lt (unhide D1); have t_b : WL.heap.size ≤ _ := (unhide HB).size; refine (unhide HL4 _ ((unhide HE).below (below_nx (unhide HB) (below_al _ (.cells #[.int .i64 0, .int .i64 0, .string ⟨#[]⟩, .bool false, .int .i64 0] 28))))).mono ?_; rintro e yz ⟨rfl, zy⟩; have NB := hide (five_below (five_new _ 28 (.int .i64 0) (.int .i64 0) (.string ⟨#[]⟩) (.bool false) (.int .i64 0)) zy (by simp)); have zz := below_nx (below_al _ (.cells #[.int .i64 0, .int .i64 0, .string ⟨#[]⟩, .bool false, .int .i64 0] 28)) zy; replace A := hide (five_below (unhide A) zz (five_lt (unhide A))); replace C := hide (five_below (unhide C) zz (five_lt (unhide C))); replace V1 := hide (five_below (unhide V1) zz (five_lt (unhide V1))); replace V2 := hide (five_below (unhide V2) zz (five_lt (unhide V2))); replace D1 := hide (five_below (unhide D1) zz (five_lt (unhide D1))); replace HB := hide (below_nx (unhide HB) zz); clear zz zy; clear a_0 a_1 a_2 a_3 a_4 c_0 c_1 c_2 c_3 c_4; obtain ⟨a_0, a_1, a_2, a_3, a_4⟩ := five_cells (unhide A); obtain ⟨c_0, c_1, c_2, c_3, c_4⟩ := five_cells (unhide C); have NBx := five_all (unhide NB); obtain ⟨⟨⟨m_0, y_0⟩, ⟨m_1, y_1⟩, ⟨m_2, y_2⟩, ⟨m_3, y_3⟩, m_4, y_4⟩, l_0, l_1, l_2, l_3, l_4⟩ := NBx))
        all_goals (try go_wp2_with fail)
        all_goals go_meet
        all_goals first
          | with_reducible exact ⟨_, rfl, hide (five_new _ _ _ _ _ _ _), hide (five_below (unhide V1) (below_al _ _) (five_lt (unhide V1))), hide (five_below (unhide V2) (below_al _ _) (five_lt (unhide V2))), hide (five_below (unhide D1) (below_al _ _) (five_lt (unhide D1))), hide (below_nx (unhide HB) (below_al _ _))⟩
          | with_reducible exact ⟨_, rfl, hide (five_set (unhide NB) _ _ _ _ _), hide (five_other (unhide V1) _ (Nat.ne_of_lt t_0) _ _ _ _ _), hide (five_other (unhide V2) _ (Nat.ne_of_lt t_1) _ _ _ _ _), hide (five_other (unhide D1) _ (Nat.ne_of_lt t_2) _ _ _ _ _), hide (below_five (unhide HB) t_b _ _ _ _ _)⟩
      case rest =>
        clear a_0 a_1 a_2 a_3 a_4 c_0 c_1 c_2 c_3 c_4 A C V1 V2 D1 HB
        obtain ⟨g, rfl, NB, V1, V2, D1, HB⟩ := hcut
        obtain ⟨b_0, b_1, b_2, b_3, b_4⟩ := five_cells (unhide NB)
        obtain ⟨v1_0, v1_1, v1_2, v1_3, v1_4⟩ := five_cells (unhide V1)
        obtain ⟨v2_0, v2_1, v2_2, v2_3, v2_4⟩ := five_cells (unhide V2)
        obtain ⟨d1_0, d1_1, d1_2, d1_3, d1_4⟩ := five_cells (unhide D1)
        go_wp2
        go_ret
        exact ⟨rfl, below_nx (unhide HB0) (unhide HB)⟩
end Go.Proofs.YtbeijnflfmjgfaaGreatDoor
