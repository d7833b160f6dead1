/- What is asked of the program's layer 9, and what its laws ask first. -/
import Derived.BigQuiet
import Derived.BigRegion
import Derived.Deep.CutBlock
import Derived.Deep.CutRange
import Derived.Deep.DeepFit
import Derived.Deep.QuietTactic
import Derived.Deep.RegionHeld3
import Derived.Deep.RegionWith
import Derived.Deep.WholeRow
import Derived.Laws.Bits64b
import Derived.Laws.BitsAllLaws
import Derived.Laws.CopyOwn
import Derived.Laws.FloatArith
import Derived.Laws.IdiomStrings
import Derived.Laws.Rows
import Derived.Laws.StructEq
import Derived.Laws.Tables
import Derived.Lib.BitFns
import Derived.Lib.IndexBytes
import Derived.Lib.ItoaMem
import Derived.Lib.ItoaNum
import Derived.Lib.TrimByte
import Derived.Lib.Walk
import Derived.OwnWalk
import Derived.Shelf.Bits.Mul64
import Derived.Shelf.LaysM
import Derived.Shelf.Small.Bits
import Derived.Shelf.Small.Strs
import Derived.Shelf.Small.Wraps
import Derived.Shelf.Strconv.Itoa0
import Derived.Shelf.Strconv.Itoa1
import Derived.Shelf.Strconv.Itoa2
import Derived.Shelf.Strings.AsciiSet
import Derived.Shelf.Strings.Cut
import Derived.Shelf.Strings.Prefix
import Derived.Shelf.Strings.Search1
import Derived.Shelf.Strings.Search2
import Derived.Shelf.Strings.Shaped
import Derived.Shelf.Strings.Trim
import Derived.Test.YtbeijnflfmjgfaaGreatDoorProg
import Derived.Test.YtbeijnflfmjgfaaGreatDoorRows
import Derived.WalkKit
import Derived.WalkLawsBesides
import Derived.WalkSmall
import Derived.WalkSpells
import Ieee.Arith
import Derived.Test.YtbeijnflfmjgfaaGreatDoorZnAA
import Derived.Test.YtbeijnflfmjgfaaGreatDoorZnAB
import Derived.Test.YtbeijnflfmjgfaaGreatDoorZnAC
import Derived.Test.YtbeijnflfmjgfaaGreatDoorZnAD
import Derived.Test.YtbeijnflfmjgfaaGreatDoorZnAE
import Derived.Test.YtbeijnflfmjgfaaGreatDoorZnAF
import Derived.Test.YtbeijnflfmjgfaaGreatDoorZnAG
import Derived.Test.YtbeijnflfmjgfaaGreatDoorZnAH
import Derived.Test.YtbeijnflfmjgfaaGreatDoorZnAI
import Derived.Test.YtbeijnflfmjgfaaGreatDoorZnAJ
import Derived.Test.YtbeijnflfmjgfaaGreatDoorZnAK
import Derived.Test.YtbeijnflfmjgfaaGreatDoorZnAL
import Derived.Test.YtbeijnflfmjgfaaGreatDoorZnAM
namespace Go.Proofs.YtbeijnflfmjgfaaGreatDoor
open Go.RowKit

def PBin : Prop := ∀ (s : ByteArray) (a b : Vl) (w : World), s.size ≤ 1000 → a.text.size ≤ 1000 → b.text.size ≤ 1000 → Env3 w →
  Calls Tryz.prog 11 #[.string s, .agg a.cells, .agg b.cells] w fun e w' => e = .returned (.tuple #[.agg (binS s.toList (vSound a) (vSound b)).cells, .bool (binB s.toList)]) ∧ Below w.heap.size w w'
def PCall : Prop := ∀ (s : ByteArray) (va : Value) (vs : List Vl) (w : World), s.size ≤ 1000 → vs.length ≤ 1000 → (∀ x ∈ vs, x.text.size ≤ 1000) → ValsAt w va vs → Env3 w →
  Calls Tryz.prog 21 #[.string s, va] w fun e w' => e = .returned (.tuple #[.agg (callV s.toList vs).cells, .bool (callB s.toList)]) ∧ Below w.heap.size w w'
def PHas : Prop := ∀ (s : ByteArray) (w : World), s.size ≤ 1000 → Env3 w → Calls Tryz.prog 23 #[.string s] w fun e w' => e = .returned (.bool (callB s.toList)) ∧ Below w.heap.size w w'
def PNeg : Prop := ∀ (a : Vl) (w : World), a.text.size ≤ 1000 → Env3 w → Calls Tryz.prog 15 #[.agg a.cells] w fun e w' => e = .returned (.agg (negV (asNumV (vSound a))).cells) ∧ Below w.heap.size w w'
def PPct : Prop := ∀ (a : Vl) (w : World), a.text.size ≤ 1000 → Env3 w → Calls Tryz.prog 17 #[.agg a.cells] w fun e w' => e = .returned (.agg (pctV (asNumV (vSound a))).cells) ∧ Below w.heap.size w w'
structure PNums : Prop where
  bin : PBin
  call : PCall
  has : PHas
  neg : PNeg
  pct : PPct
theorem vals_two (w : World) (t : TypeId) (a b : Vl) :
    ValsAt (w.alloc (.cells #[.int .i64 a.kind, .int .i64 a.num, .string a.text, .bool a.tr, .int .i64 a.fail, .int .i64 b.kind, .int .i64 b.num, .string b.text, .bool b.tr, .int .i64 b.fail] t)) (.slice (some ⟨w.heap.size, 0, none⟩) 2 2) [a, b] := by
  refine ⟨_, 2, rfl, fun _ => ⟨w.heap.size, 0, rfl, by simp, fun i x hx => ?_⟩⟩
  match i, hx with
  | 0, hx => simp at hx; subst hx; simp
  | 1, hx => simp at hx; subst hx; simp
theorem wk_pow : binS [94] (vSound ⟨1, 20000, noText, false, 0⟩) (vSound ⟨1, -20000, noText, false, 0⟩) = ⟨1, 2500, noText, false, 0⟩ := by kernel_rfl
theorem wk_mod : callV [77, 79, 68] [⟨1, -70000, noText, false, 0⟩, ⟨1, 30000, noText, false, 0⟩] = ⟨1, 20000, noText, false, 0⟩ := by kernel_rfl
theorem wk_up : callV [82, 79, 85, 78, 68, 85, 80] [⟨1, 10100, noText, false, 0⟩, ⟨1, 10000, noText, false, 0⟩] = ⟨1, 11000, noText, false, 0⟩ := by kernel_rfl
theorem wk_neg : negV (asNumV (vSound ⟨1, 1, noText, false, 0⟩)) = ⟨1, -1, noText, false, 0⟩ := by kernel_rfl

set_option maxRecDepth 100000 in
set_option maxHeartbeats 8000000 in
theorem wakes9 (hp : PNums) (w : World) (he : Env3 w) : Calls Tryz.prog 14 #[] w fun e w' => e = .returned (.bool true) ∧ Below w.heap.size w w' := by
  have HE := hide he
  clear he
  have HP := hide hp
  clear hp
  have HB := hide (Below.refl w.heap.size w)
  have HN20000 := hide (fun w => n_val 20000 w)
  rw [show vN 20000 = ⟨1, 20000, noText, false, 0⟩ from by kernel_rfl] at HN20000
  have HNm20000 := hide (fun w => n_val (-20000) w)
  rw [show vN (-20000) = ⟨1, -20000, noText, false, 0⟩ from by kernel_rfl] at HNm20000
  have HNm70000 := hide (fun w => n_val (-70000) w)
  rw [show vN (-70000) = ⟨1, -70000, noText, false, 0⟩ from by kernel_rfl] at HNm70000
  have HN30000 := hide (fun w => n_val 30000 w)
  rw [show vN 30000 = ⟨1, 30000, noText, false, 0⟩ from by kernel_rfl] at HN30000
  have HN10100 := hide (fun w => n_val 10100 w)
  rw [show vN 10100 = ⟨1, 10100, noText, false, 0⟩ from by kernel_rfl] at HN10100
  have HN10000 := hide (fun w => n_val 10000 w)
  rw [show vN 10000 = ⟨1, 10000, noText, false, 0⟩ from by kernel_rfl] at HN10000
  have HN2500 := hide (fun w => n_val 2500 w)
  rw [show vN 2500 = ⟨1, 2500, noText, false, 0⟩ from by kernel_rfl] at HN2500
  have HN11000 := hide (fun w => n_val 11000 w)
  rw [show vN 11000 = ⟨1, 11000, noText, false, 0⟩ from by kernel_rfl] at HN11000
  have HN1 := hide (fun w => n_val 1 w)
  rw [show vN 1 = ⟨1, 1, noText, false, 0⟩ from by kernel_rfl] at HN1
  have HNm1 := hide (fun w => n_val (-1) w)
  rw [show vN (-1) = ⟨1, -1, noText, false, 0⟩ from by kernel_rfl] at HNm1
  have HC1 := hide (fun w (he : Env3 w) => (unhide HP).bin ⟨#[94]⟩ ⟨1, 20000, noText, false, 0⟩ ⟨1, -20000, noText, false, 0⟩ w (by decide) (by decide) (by decide) he)
  rw [ByteArray.toList_eq, wk_pow] at HC1
  have HC2 := hide (fun va w (h : ValsAt w va [⟨1, -70000, noText, false, 0⟩, ⟨1, 30000, noText, false, 0⟩]) (he : Env3 w) => (unhide HP).call ⟨#[77, 79, 68]⟩ va [⟨1, -70000, noText, false, 0⟩, ⟨1, 30000, noText, false, 0⟩] w (by decide) (by decide) (by decide) h he)
  rw [ByteArray.toList_eq, wk_mod] at HC2
  have HC3 := hide (fun va w (h : ValsAt w va [⟨1, 10100, noText, false, 0⟩, ⟨1, 10000, noText, false, 0⟩]) (he : Env3 w) => (unhide HP).call ⟨#[82, 79, 85, 78, 68, 85, 80]⟩ va [⟨1, 10100, noText, false, 0⟩, ⟨1, 10000, noText, false, 0⟩] w (by decide) (by decide) (by decide) h he)
  rw [ByteArray.toList_eq, wk_up] at HC3
  have HH := hide (fun w (he : Env3 w) => (unhide HP).has ⟨#[83, 81, 82, 84]⟩ w (by decide) he)
  rw [ByteArray.toList_eq, show callB [83, 81, 82, 84] = true from by decide] at HH
  have HG := hide (fun w (he : Env3 w) => (unhide HP).neg ⟨1, 1, noText, false, 0⟩ w (by decide) he)
  rw [wk_neg] at HG
  unfold Vl.cells noText at HN20000 HNm20000 HNm70000 HN30000 HN10100 HN10000 HN2500 HN11000 HN1 HNm1 HC1 HC2 HC3 HG
  simp only [] at HN20000 HNm20000 HNm70000 HN30000 HN10100 HN10000 HN2500 HN11000 HN1 HNm1 HC1 HC2 HC3 HG
  go_enter Tryz.func14, Tryz.ntmps14
  go_wp2_with fail
  refine (unhide HN20000 _).mono ?_
  rintro e w1 ⟨rfl, b1⟩
  replace HB := hide (below_nx (unhide HB) b1)
  clear b1
  go_wp2_with fail
  refine (unhide HNm20000 _).mono ?_
  rintro e w2 ⟨rfl, b2⟩
  replace HB := hide (below_nx (unhide HB) b2)
  clear b2
  go_wp2_with fail
  refine (unhide HC1 _ ((unhide HE).below (unhide HB))).mono ?_
  rintro e w3 ⟨rfl, b3⟩
  replace HB := hide (below_nx (unhide HB) b3)
  clear b3
  have X1 := hide (five_new w3 28 (.int .i64 1) (.int .i64 2500) (.string ⟨#[]⟩) (.bool false) (.int .i64 0))
  have bb := below_al w3 (.cells #[.int .i64 1, .int .i64 2500, .string ⟨#[]⟩, .bool false, .int .i64 0] 28)
  replace HB := hide (below_nx (unhide HB) bb)
  clear bb
  go_upto_region 2 with fail
  generalize hW : w3.alloc (.cells #[.int .i64 1, .int .i64 2500, .string ⟨#[]⟩, .bool false, .int .i64 0] 28) = W3 at X1 HB  ⊢
  clear hW
  go_wp2_with fail
  refine (unhide HNm70000 _).mono ?_
  rintro e w4 ⟨rfl, b4⟩
  replace X1 := hide (five_below (unhide X1) b4 (five_lt (unhide X1)))
  replace HB := hide (below_nx (unhide HB) b4)
  clear b4
  go_wp2_with fail
  refine (unhide HN30000 _).mono ?_
  rintro e w5 ⟨rfl, b5⟩
  replace X1 := hide (five_below (unhide X1) b5 (five_lt (unhide X1)))
  replace HB := hide (below_nx (unhide HB) b5)
  clear b5
  go_wp2_with fail
  refine (unhide HC2 _ _ (vals_two w5 _ ⟨1, -70000, noText, false, 0⟩ ⟨1, 30000, noText, false, 0⟩) ((unhide HE).below (below_nx (unhide HB) (below_al w5 _)))).mono ?_
  rintro e w6 ⟨rfl, b6⟩
  replace b6 := below_nx (below_al w5 _) b6
  replace X1 := hide (five_below (unhide X1) b6 (five_lt (unhide X1)))
  replace HB := hide (below_nx (unhide HB) b6)
  clear b6
  have X2 := hide (five_new w6 28 (.int .i64 1) (.int .i64 20000) (.string ⟨#[]⟩) (.bool false) (.int .i64 0))
  have bb := below_al w6 (.cells #[.int .i64 1, .int .i64 20000, .string ⟨#[]⟩, .bool false, .int .i64 0] 28)
  replace X1 := hide (five_below (unhide X1) bb (five_lt (unhide X1)))
  replace HB := hide (below_nx (unhide HB) bb)
  clear bb
  go_upto_region 3 with fail
  generalize hW : w6.alloc (.cells #[.int .i64 1, .int .i64 20000, .string ⟨#[]⟩, .bool false, .int .i64 0] 28) = W6 at X2 HB X1 ⊢
  clear hW
  go_wp2_with fail
  refine (unhide HN10100 _).mono ?_
  rintro e w7 ⟨rfl, b7⟩
  replace X1 := hide (five_below (unhide X1) b7 (five_lt (unhide X1)))
  replace X2 := hide (five_below (unhide X2) b7 (five_lt (unhide X2)))
  replace HB := hide (below_nx (unhide HB) b7)
  clear b7
  go_wp2_with fail
  refine (unhide HN10000 _).mono ?_
  rintro e w8 ⟨rfl, b8⟩
  replace X1 := hide (five_below (unhide X1) b8 (five_lt (unhide X1)))
  replace X2 := hide (five_below (unhide X2) b8 (five_lt (unhide X2)))
  replace HB := hide (below_nx (unhide HB) b8)
  clear b8
  go_wp2_with fail
  refine (unhide HC3 _ _ (vals_two w8 _ ⟨1, 10100, noText, false, 0⟩ ⟨1, 10000, noText, false, 0⟩) ((unhide HE).below (below_nx (unhide HB) (below_al w8 _)))).mono ?_
  rintro e w9 ⟨rfl, b9⟩
  replace b9 := below_nx (below_al w8 _) b9
  replace X1 := hide (five_below (unhide X1) b9 (five_lt (unhide X1)))
  replace X2 := hide (five_below (unhide X2) b9 (five_lt (unhide X2)))
  replace HB := hide (below_nx (unhide HB) b9)
  clear b9
  have X3 := hide (five_new w9 28 (.int .i64 1) (.int .i64 11000) (.string ⟨#[]⟩) (.bool false) (.int .i64 0))
  have bb := below_al w9 (.cells #[.int .i64 1, .int .i64 11000, .string ⟨#[]⟩, .bool false, .int .i64 0] 28)
  replace X1 := hide (five_below (unhide X1) bb (five_lt (unhide X1)))
  replace X2 := hide (five_below (unhide X2) bb (five_lt (unhide X2)))
  replace HB := hide (below_nx (unhide HB) bb)
  clear bb
  go_upto_region 4 with fail
  generalize hW : w9.alloc (.cells #[.int .i64 1, .int .i64 11000, .string ⟨#[]⟩, .bool false, .int .i64 0] 28) = W9 at X3 HB X1 X2 ⊢
  clear hW
  have hq0 := fun w => vl_eq 1 2500 ⟨#[]⟩ false 0 1 2500 ⟨#[]⟩ false 0 w
  simp only [show vEq ⟨1, 2500, ⟨#[]⟩, false, 0⟩ ⟨1, 2500, ⟨#[]⟩, false, 0⟩ = true from by kernel_rfl] at hq0
  have hq1 := fun w => vl_eq 1 20000 ⟨#[]⟩ false 0 1 20000 ⟨#[]⟩ false 0 w
  simp only [show vEq ⟨1, 20000, ⟨#[]⟩, false, 0⟩ ⟨1, 20000, ⟨#[]⟩, false, 0⟩ = true from by kernel_rfl] at hq1
  have hq2 := fun w => vl_eq 1 11000 ⟨#[]⟩ false 0 1 11000 ⟨#[]⟩ false 0 w
  simp only [show vEq ⟨1, 11000, ⟨#[]⟩, false, 0⟩ ⟨1, 11000, ⟨#[]⟩, false, 0⟩ = true from by kernel_rfl] at hq2
  have hq3 := fun w => vl_eq 1 (-1) ⟨#[]⟩ false 0 1 (-1) ⟨#[]⟩ false 0 w
  simp only [show vEq ⟨1, (-1), ⟨#[]⟩, false, 0⟩ ⟨1, (-1), ⟨#[]⟩, false, 0⟩ = true from by kernel_rfl] at hq3
  replace X1 := hide (five_drew (unhide X1))
  replace X2 := hide (five_drew (unhide X2))
  replace X3 := hide (five_drew (unhide X3))
  replace HB := hide (unhide HB).drew
  obtain ⟨x1_0, x1_1, x1_2, x1_3, x1_4⟩ := five_cells (unhide X1)
  obtain ⟨x2_0, x2_1, x2_2, x2_3, x2_4⟩ := five_cells (unhide X2)
  obtain ⟨x3_0, x3_1, x3_2, x3_3, x3_4⟩ := five_cells (unhide X3)
  go_region_held3 (fun w' => w'.cell? ⟨w3.heap.size, 0, none⟩ = some (.int .i64 1) ∧ w'.cell? ⟨w3.heap.size, 1, none⟩ = some (.int .i64 2500) ∧ w'.cell? ⟨w3.heap.size, 2, none⟩ = some (.string ⟨#[]⟩) ∧ w'.cell? ⟨w3.heap.size, 3, none⟩ = some (.bool false) ∧ w'.cell? ⟨w3.heap.size, 4, none⟩ = some (.int .i64 0) ∧ w'.cell? ⟨w6.heap.size, 0, none⟩ = some (.int .i64 1) ∧ w'.cell? ⟨w6.heap.size, 1, none⟩ = some (.int .i64 20000) ∧ w'.cell? ⟨w6.heap.size, 2, none⟩ = some (.string ⟨#[]⟩) ∧ w'.cell? ⟨w6.heap.size, 3, none⟩ = some (.bool false) ∧ w'.cell? ⟨w6.heap.size, 4, none⟩ = some (.int .i64 0) ∧ w'.cell? ⟨w9.heap.size, 0, none⟩ = some (.int .i64 1) ∧ w'.cell? ⟨w9.heap.size, 1, none⟩ = some (.int .i64 11000) ∧ w'.cell? ⟨w9.heap.size, 2, none⟩ = some (.string ⟨#[]⟩) ∧ w'.cell? ⟨w9.heap.size, 3, none⟩ = some (.bool false) ∧ w'.cell? ⟨w9.heap.size, 4, none⟩ = some (.int .i64 0)) (first | exact ⟨x1_0, x1_1, x1_2, x1_3, x1_4, x2_0, x2_1, x2_2, x2_3, x2_4, x3_0, x3_1, x3_2, x3_3, x3_4⟩ | go_keep)
    (first
      | (go_at_call_of 25 (Value.int IntKind.i64 2500); refine (unhide HN2500 _).mono ?_; rintro e yy ⟨rfl, zz⟩; replace X1 := hide (five_below (unhide X1) zz (five_lt (unhide X1))); replace X2 := hide (five_below (unhide X2) zz (five_lt (unhide X2))); replace X3 := hide (five_below (unhide X3) zz (five_lt (unhide X3))); replace HB := hide (below_nx (unhide HB) zz); clear zz x1_0 x1_1 x1_2 x1_3 x1_4 x2_0 x2_1 x2_2 x2_3 x2_4 x3_0 x3_1 x3_2 x3_3 x3_4; obtain ⟨x1_0, x1_1, x1_2, x1_3, x1_4⟩ := five_cells (unhide X1); obtain ⟨x2_0, x2_1, x2_2, x2_3, x2_4⟩ := five_cells (unhide X2); obtain ⟨x3_0, x3_1, x3_2, x3_3, x3_4⟩ := five_cells (unhide X3))
      | (go_at_call_of 25 (Value.int IntKind.i64 20000); refine (unhide HN20000 _).mono ?_; rintro e yy ⟨rfl, zz⟩; replace X1 := hide (five_below (unhide X1) zz (five_lt (unhide X1))); replace X2 := hide (five_below (unhide X2) zz (five_lt (unhide X2))); replace X3 := hide (five_below (unhide X3) zz (five_lt (unhide X3))); replace HB := hide (below_nx (unhide HB) zz); clear zz x1_0 x1_1 x1_2 x1_3 x1_4 x2_0 x2_1 x2_2 x2_3 x2_4 x3_0 x3_1 x3_2 x3_3 x3_4; obtain ⟨x1_0, x1_1, x1_2, x1_3, x1_4⟩ := five_cells (unhide X1); obtain ⟨x2_0, x2_1, x2_2, x2_3, x2_4⟩ := five_cells (unhide X2); obtain ⟨x3_0, x3_1, x3_2, x3_3, x3_4⟩ := five_cells (unhide X3))
      | (go_at_call_of 25 (Value.int IntKind.i64 11000); refine (unhide HN11000 _).mono ?_; rintro e yy ⟨rfl, zz⟩; replace X1 := hide (five_below (unhide X1) zz (five_lt (unhide X1))); replace X2 := hide (five_below (unhide X2) zz (five_lt (unhide X2))); replace X3 := hide (five_below (unhide X3) zz (five_lt (unhide X3))); replace HB := hide (below_nx (unhide HB) zz); clear zz x1_0 x1_1 x1_2 x1_3 x1_4 x2_0 x2_1 x2_2 x2_3 x2_4 x3_0 x3_1 x3_2 x3_3 x3_4; obtain ⟨x1_0, x1_1, x1_2, x1_3, x1_4⟩ := five_cells (unhide X1); obtain ⟨x2_0, x2_1, x2_2, x2_3, x2_4⟩ := five_cells (unhide X2); obtain ⟨x3_0, x3_1, x3_2, x3_3, x3_4⟩ := five_cells (unhide X3))
      | (go_at_call_of 25 (Value.int IntKind.i64 1); refine (unhide HN1 _).mono ?_; rintro e yy ⟨rfl, zz⟩; replace X1 := hide (five_below (unhide X1) zz (five_lt (unhide X1))); replace X2 := hide (five_below (unhide X2) zz (five_lt (unhide X2))); replace X3 := hide (five_below (unhide X3) zz (five_lt (unhide X3))); replace HB := hide (below_nx (unhide HB) zz); clear zz x1_0 x1_1 x1_2 x1_3 x1_4 x2_0 x2_1 x2_2 x2_3 x2_4 x3_0 x3_1 x3_2 x3_3 x3_4; obtain ⟨x1_0, x1_1, x1_2, x1_3, x1_4⟩ := five_cells (unhide X1); obtain ⟨x2_0, x2_1, x2_2, x2_3, x2_4⟩ := five_cells (unhide X2); obtain ⟨x3_0, x3_1, x3_2, x3_3, x3_4⟩ := five_cells (unhide X3))
      | (go_at_call 25; refine (unhide HNm1 _).mono ?_; rintro e yy ⟨rfl, zz⟩; replace X1 := hide (five_below (unhide X1) zz (five_lt (unhide X1))); replace X2 := hide (five_below (unhide X2) zz (five_lt (unhide X2))); replace X3 := hide (five_below (unhide X3) zz (five_lt (unhide X3))); replace HB := hide (below_nx (unhide HB) zz); clear zz x1_0 x1_1 x1_2 x1_3 x1_4 x2_0 x2_1 x2_2 x2_3 x2_4 x3_0 x3_1 x3_2 x3_3 x3_4; obtain ⟨x1_0, x1_1, x1_2, x1_3, x1_4⟩ := five_cells (unhide X1); obtain ⟨x2_0, x2_1, x2_2, x2_3, x2_4⟩ := five_cells (unhide X2); obtain ⟨x3_0, x3_1, x3_2, x3_3, x3_4⟩ := five_cells (unhide X3))
      | (go_at_call 23; refine (unhide HH _ ((unhide HE).below (unhide HB))).mono ?_; rintro e yy ⟨rfl, zz⟩; replace X1 := hide (five_below (unhide X1) zz (five_lt (unhide X1))); replace X2 := hide (five_below (unhide X2) zz (five_lt (unhide X2))); replace X3 := hide (five_below (unhide X3) zz (five_lt (unhide X3))); replace HB := hide (below_nx (unhide HB) zz); clear zz x1_0 x1_1 x1_2 x1_3 x1_4 x2_0 x2_1 x2_2 x2_3 x2_4 x3_0 x3_1 x3_2 x3_3 x3_4; obtain ⟨x1_0, x1_1, x1_2, x1_3, x1_4⟩ := five_cells (unhide X1); obtain ⟨x2_0, x2_1, x2_2, x2_3, x2_4⟩ := five_cells (unhide X2); obtain ⟨x3_0, x3_1, x3_2, x3_3, x3_4⟩ := five_cells (unhide X3))
      | (go_at_call 15; refine (unhide HG _ ((unhide HE).below (unhide HB))).mono ?_; rintro e yy ⟨rfl, zz⟩; replace X1 := hide (five_below (unhide X1) zz (five_lt (unhide X1))); replace X2 := hide (five_below (unhide X2) zz (five_lt (unhide X2))); replace X3 := hide (five_below (unhide X3) zz (five_lt (unhide X3))); replace HB := hide (below_nx (unhide HB) zz); clear zz x1_0 x1_1 x1_2 x1_3 x1_4 x2_0 x2_1 x2_2 x2_3 x2_4 x3_0 x3_1 x3_2 x3_3 x3_4; obtain ⟨x1_0, x1_1, x1_2, x1_3, x1_4⟩ := five_cells (unhide X1); obtain ⟨x2_0, x2_1, x2_2, x2_3, x2_4⟩ := five_cells (unhide X2); obtain ⟨x3_0, x3_1, x3_2, x3_3, x3_4⟩ := five_cells (unhide X3)))
  all_goals (try go_wp2_with fail)
  all_goals go_ret
  all_goals exact ⟨rfl, unhide HB⟩
end Go.Proofs.YtbeijnflfmjgfaaGreatDoor

namespace Go.Proofs.YtbeijnflfmjgfaaGreatDoor
open Go.RowKit

set_option maxRecDepth 100000 in
set_option maxHeartbeats 2000000 in
theorem neg9_ref (v : Vl) (w : World) (hs : v.text.size ≤ 1000) :
    Calls Tryz.prog 16 #[.agg v.cells] w fun e w' => e = .returned (.agg (negV (asNumV (vSound v))).cells) ∧ Below w.heap.size w w' := by
  have HN := hide (fun w => asnum_ref v w hs)
  have hr := num_range v
  obtain ⟨r, er⟩ : ∃ r, asNumV (vSound v) = r := ⟨_, rfl⟩
  rw [er] at HN hr ⊢
  clear er
  obtain ⟨hr, r1, r2⟩ := hr
  unfold negV
  by_cases h0 : r.2 = 0
  · rw [if_neg (by omega)]
    clear hr
    have HC := hide (fun w => n_ref (-r.1) w)
    generalize vN (-r.1) = V at HC ⊢
    unfold Vl.cells at HN ⊢
    go_enter Tryz.func16, Tryz.ntmps16
    go_upto_region 1 with fail
    have HA := hide (five_old w 29 (.int .i64 v.kind) (.int .i64 v.num) (.string v.text) (.bool v.tr) (.int .i64 v.fail) (.cells #[.int .i64 0, .int .i64 0, .string ⟨#[]⟩, .bool false, .int .i64 0] 29))
    have HX := hide (five_new2 w (.cells #[.int .i64 v.kind, .int .i64 v.num, .string v.text, .bool v.tr, .int .i64 v.fail] 29) 29 (.int .i64 0) (.int .i64 0) (.string ⟨#[]⟩) (.bool false) (.int .i64 0))
    have HB := hide (below_al2 w (.cells #[.int .i64 v.kind, .int .i64 v.num, .string v.text, .bool v.tr, .int .i64 v.fail] 29) (.cells #[.int .i64 0, .int .i64 0, .string ⟨#[]⟩, .bool false, .int .i64 0] 29))
    generalize hW : (w.alloc (.cells #[.int .i64 v.kind, .int .i64 v.num, .string v.text, .bool v.tr, .int .i64 v.fail] 29)).alloc (.cells #[.int .i64 0, .int .i64 0, .string ⟨#[]⟩, .bool false, .int .i64 0] 29) = w1 at HA HX HB ⊢
    clear hW
    obtain ⟨a_0, a_1, a_2, a_3, a_4⟩ := five_cells (unhide HA)
    go_wp2_with fail
    refine (unhide HN _).mono ?_
    rintro e w2 ⟨rfl, b2⟩
    have HX2 := hide (five_below (unhide HX) b2 (five_lt (unhide HX)))
    have HB2 := hide (below_nx (unhide HB) b2)
    clear b2 a_0 a_1 a_2 a_3 a_4
    go_wp2_with fail
    refine (unhide HC _).mono ?_
    rintro e wz ⟨rfl, bz⟩
    have hf := five_below (unhide HX2) bz (five_lt (unhide HX2))
    obtain ⟨⟨⟨x0, c0⟩, ⟨x1, c1⟩, ⟨x2, c2⟩, ⟨x3, c3⟩, x4, c4⟩, f0, f1, f2, f3, f4⟩ := five_all hf
    have HF := hide hf
    have HB := hide (below_nx (unhide HB2) bz)
    clear hf bz
    unfold Vl.cells
    go_wp2
    refine bodyPost_ret (results_cell_row rfl _ _ _ _ _ _ _ rfl (five_set (unhide HF) _ _ _ _ _).1 Tryz.underlying29 rfl infoRef) rfl ?_
    exact ⟨rfl, below_five (unhide HB) (Nat.le_succ _) _ _ _ _ _⟩
  · rw [if_pos h0]
    have HC := hide (fun w => e9_ref r.2 w (by omega) (by omega))
    generalize vE r.2 = V at HC ⊢
    unfold Vl.cells at HN ⊢
    go_enter Tryz.func16, Tryz.ntmps16
    go_upto_region 1 with fail
    have HA := hide (five_old w 29 (.int .i64 v.kind) (.int .i64 v.num) (.string v.text) (.bool v.tr) (.int .i64 v.fail) (.cells #[.int .i64 0, .int .i64 0, .string ⟨#[]⟩, .bool false, .int .i64 0] 29))
    have HX := hide (five_new2 w (.cells #[.int .i64 v.kind, .int .i64 v.num, .string v.text, .bool v.tr, .int .i64 v.fail] 29) 29 (.int .i64 0) (.int .i64 0) (.string ⟨#[]⟩) (.bool false) (.int .i64 0))
    have HB := hide (below_al2 w (.cells #[.int .i64 v.kind, .int .i64 v.num, .string v.text, .bool v.tr, .int .i64 v.fail] 29) (.cells #[.int .i64 0, .int .i64 0, .string ⟨#[]⟩, .bool false, .int .i64 0] 29))
    generalize hW : (w.alloc (.cells #[.int .i64 v.kind, .int .i64 v.num, .string v.text, .bool v.tr, .int .i64 v.fail] 29)).alloc (.cells #[.int .i64 0, .int .i64 0, .string ⟨#[]⟩, .bool false, .int .i64 0] 29) = w1 at HA HX HB ⊢
    clear hW
    obtain ⟨a_0, a_1, a_2, a_3, a_4⟩ := five_cells (unhide HA)
    go_wp2_with fail
    refine (unhide HN _).mono ?_
    rintro e w2 ⟨rfl, b2⟩
    have HX2 := hide (five_below (unhide HX) b2 (five_lt (unhide HX)))
    have HB2 := hide (below_nx (unhide HB) b2)
    clear b2 a_0 a_1 a_2 a_3 a_4
    go_wp2_with fail
    refine (unhide HC _).mono ?_
    rintro e wz ⟨rfl, bz⟩
    have hf := five_below (unhide HX2) bz (five_lt (unhide HX2))
    obtain ⟨⟨⟨x0, c0⟩, ⟨x1, c1⟩, ⟨x2, c2⟩, ⟨x3, c3⟩, x4, c4⟩, f0, f1, f2, f3, f4⟩ := five_all hf
    have HF := hide hf
    have HB := hide (below_nx (unhide HB2) bz)
    clear hf bz
    unfold Vl.cells
    go_wp2
    refine bodyPost_ret (results_cell_row rfl _ _ _ _ _ _ _ rfl (five_set (unhide HF) _ _ _ _ _).1 Tryz.underlying29 rfl infoRef) rfl ?_
    exact ⟨rfl, below_five (unhide HB) (Nat.le_succ _) _ _ _ _ _⟩

set_option maxRecDepth 100000 in
set_option maxHeartbeats 2000000 in
theorem pct9_ref (v : Vl) (w : World) (hs : v.text.size ≤ 1000) :
    Calls Tryz.prog 18 #[.agg v.cells] w fun e w' => e = .returned (.agg (pctV (asNumV (vSound v))).cells) ∧ Below w.heap.size w w' := by
  have HN := hide (fun w => asnum_ref v w hs)
  have hr := num_range v
  obtain ⟨r, er⟩ : ∃ r, asNumV (vSound v) = r := ⟨_, rfl⟩
  rw [er] at HN hr ⊢
  clear er
  obtain ⟨hr, r1, r2⟩ := hr
  unfold pctV
  by_cases h0 : r.2 = 0
  · rw [if_neg (by omega)]
    clear hr
    have HF := hide (fun w => div_ref r.1 1000000 w)
    have HC := hide (fun w => told_ref (divR r.1 1000000).1 (divR r.1 1000000).2 w)
    rw [show toldV ((divR r.1 1000000).1, (divR r.1 1000000).2) = toldV (divR r.1 1000000) from rfl] at HC
    generalize toldV (divR r.1 1000000) = V at HC ⊢
    generalize divR r.1 1000000 = q at HF HC
    unfold Vl.cells at HN ⊢
    go_enter Tryz.func18, Tryz.ntmps18
    go_upto_region 1 with fail
    have HA := hide (five_old w 29 (.int .i64 v.kind) (.int .i64 v.num) (.string v.text) (.bool v.tr) (.int .i64 v.fail) (.cells #[.int .i64 0, .int .i64 0, .string ⟨#[]⟩, .bool false, .int .i64 0] 29))
    have HX := hide (five_new2 w (.cells #[.int .i64 v.kind, .int .i64 v.num, .string v.text, .bool v.tr, .int .i64 v.fail] 29) 29 (.int .i64 0) (.int .i64 0) (.string ⟨#[]⟩) (.bool false) (.int .i64 0))
    have HB := hide (below_al2 w (.cells #[.int .i64 v.kind, .int .i64 v.num, .string v.text, .bool v.tr, .int .i64 v.fail] 29) (.cells #[.int .i64 0, .int .i64 0, .string ⟨#[]⟩, .bool false, .int .i64 0] 29))
    generalize hW : (w.alloc (.cells #[.int .i64 v.kind, .int .i64 v.num, .string v.text, .bool v.tr, .int .i64 v.fail] 29)).alloc (.cells #[.int .i64 0, .int .i64 0, .string ⟨#[]⟩, .bool false, .int .i64 0] 29) = w1 at HA HX HB ⊢
    clear hW
    obtain ⟨a_0, a_1, a_2, a_3, a_4⟩ := five_cells (unhide HA)
    go_wp2_with fail
    refine (unhide HN _).mono ?_
    rintro e w2 ⟨rfl, b2⟩
    have HX2 := hide (five_below (unhide HX) b2 (five_lt (unhide HX)))
    have HB2 := hide (below_nx (unhide HB) b2)
    clear b2 a_0 a_1 a_2 a_3 a_4
    go_wp2_with fail
    refine (unhide HF _).mono ?_
    rintro e w3 ⟨rfl, b3⟩
    have HX3 := hide (five_below (unhide HX2) b3 (five_lt (unhide HX2)))
    have HB3 := hide (below_nx (unhide HB2) b3)
    clear b3
    go_wp2_with fail
    refine (unhide HC _).mono ?_
    rintro e wz ⟨rfl, bz⟩
    have hf := five_below (unhide HX3) bz (five_lt (unhide HX3))
    obtain ⟨⟨⟨x0, c0⟩, ⟨x1, c1⟩, ⟨x2, c2⟩, ⟨x3, c3⟩, x4, c4⟩, f0, f1, f2, f3, f4⟩ := five_all hf
    have HF := hide hf
    have HB := hide (below_nx (unhide HB3) bz)
    clear hf bz
    unfold Vl.cells
    go_wp2
    refine bodyPost_ret (results_cell_row rfl _ _ _ _ _ _ _ rfl (five_set (unhide HF) _ _ _ _ _).1 Tryz.underlying29 rfl infoRef) rfl ?_
    exact ⟨rfl, below_five (unhide HB) (Nat.le_succ _) _ _ _ _ _⟩
  · rw [if_pos h0]
    have HC := hide (fun w => e9_ref r.2 w (by omega) (by omega))
    generalize vE r.2 = V at HC ⊢
    unfold Vl.cells at HN ⊢
    go_enter Tryz.func18, Tryz.ntmps18
    go_upto_region 1 with fail
    have HA := hide (five_old w 29 (.int .i64 v.kind) (.int .i64 v.num) (.string v.text) (.bool v.tr) (.int .i64 v.fail) (.cells #[.int .i64 0, .int .i64 0, .string ⟨#[]⟩, .bool false, .int .i64 0] 29))
    have HX := hide (five_new2 w (.cells #[.int .i64 v.kind, .int .i64 v.num, .string v.text, .bool v.tr, .int .i64 v.fail] 29) 29 (.int .i64 0) (.int .i64 0) (.string ⟨#[]⟩) (.bool false) (.int .i64 0))
    have HB := hide (below_al2 w (.cells #[.int .i64 v.kind, .int .i64 v.num, .string v.text, .bool v.tr, .int .i64 v.fail] 29) (.cells #[.int .i64 0, .int .i64 0, .string ⟨#[]⟩, .bool false, .int .i64 0] 29))
    generalize hW : (w.alloc (.cells #[.int .i64 v.kind, .int .i64 v.num, .string v.text, .bool v.tr, .int .i64 v.fail] 29)).alloc (.cells #[.int .i64 0, .int .i64 0, .string ⟨#[]⟩, .bool false, .int .i64 0] 29) = w1 at HA HX HB ⊢
    clear hW
    obtain ⟨a_0, a_1, a_2, a_3, a_4⟩ := five_cells (unhide HA)
    go_wp2_with fail
    refine (unhide HN _).mono ?_
    rintro e w2 ⟨rfl, b2⟩
    have HX2 := hide (five_below (unhide HX) b2 (five_lt (unhide HX)))
    have HB2 := hide (below_nx (unhide HB) b2)
    clear b2 a_0 a_1 a_2 a_3 a_4
    go_wp2_with fail
    refine (unhide HC _).mono ?_
    rintro e wz ⟨rfl, bz⟩
    have hf := five_below (unhide HX2) bz (five_lt (unhide HX2))
    obtain ⟨⟨⟨x0, c0⟩, ⟨x1, c1⟩, ⟨x2, c2⟩, ⟨x3, c3⟩, x4, c4⟩, f0, f1, f2, f3, f4⟩ := five_all hf
    have HF := hide hf
    have HB := hide (below_nx (unhide HB2) bz)
    clear hf bz
    unfold Vl.cells
    go_wp2
    refine bodyPost_ret (results_cell_row rfl _ _ _ _ _ _ _ rfl (five_set (unhide HF) _ _ _ _ _).1 Tryz.underlying29 rfl infoRef) rfl ?_
    exact ⟨rfl, below_five (unhide HB) (Nat.le_succ _) _ _ _ _ _⟩

end Go.Proofs.YtbeijnflfmjgfaaGreatDoor

namespace Go.Proofs.YtbeijnflfmjgfaaGreatDoor
open Go.RowKit

theorem cut4_size (s : ByteArray) : (s.extract 0 (min (s.size : Int) 4).toNat).size ≤ 4 := by
  rw [ByteArray.size_extract]; omega
theorem ops_at {w : World} {G : Nat} {ty : TypeId} {t : ByteArray} (ht : t.size ≤ 4) (h : w.heap[G]? = some (.cells #[.string t, .string ⟨#[43]⟩, .string ⟨#[45]⟩, .string ⟨#[42]⟩, .string ⟨#[47]⟩, .string ⟨#[38]⟩, .string ⟨#[61]⟩, .string ⟨#[60, 62]⟩, .string ⟨#[60]⟩, .string ⟨#[60, 61]⟩, .string ⟨#[62]⟩, .string ⟨#[62, 61]⟩] ty (0, 0))) (k : Nat) (hk : k < 12) : ∃ o : ByteArray, w.cell? ⟨G, k, none⟩ = some (.string o) ∧ o.size ≤ 1000 := by
  have e : ∀ i : Nat, w.cell? ⟨G, i, none⟩ = (#[.string t, .string ⟨#[43]⟩, .string ⟨#[45]⟩, .string ⟨#[42]⟩, .string ⟨#[47]⟩, .string ⟨#[38]⟩, .string ⟨#[61]⟩, .string ⟨#[60, 62]⟩, .string ⟨#[60]⟩, .string ⟨#[60, 61]⟩, .string ⟨#[62]⟩, .string ⟨#[62, 61]⟩] : Array Value)[i]? := fun i => by simp [World.cell?, h]
  have hk' : k = 0 ∨ k = 1 ∨ k = 2 ∨ k = 3 ∨ k = 4 ∨ k = 5 ∨ k = 6 ∨ k = 7 ∨ k = 8 ∨ k = 9 ∨ k = 10 ∨ k = 11 := by omega
  rcases hk' with rfl | rfl | rfl | rfl | rfl | rfl | rfl | rfl | rfl | rfl | rfl | rfl
  · exact ⟨t, by rw [e]; rfl, by omega⟩
  all_goals exact ⟨_, by rw [e]; rfl, by decide⟩

set_option maxRecDepth 100000 in
set_option maxHeartbeats 8000000 in
theorem bin_law (hp : PNums) (s : ByteArray) (x y : Vl) (w : World) (_hs : s.size ≤ maxLen) (hx : x.text.size ≤ maxLen) (hy : y.text.size ≤ maxLen) (he : Env3 w) :
    Calls Tryz.prog 3 #[.string s, .agg x.cells, .agg y.cells] w fun e w' => e = .returned (.bool true) ∧ Below w.heap.size w w' := by
  have HE := hide he
  clear he
  have HP := hide hp
  clear hp
  have HWK := hide (fun w he => wakes9 (unhide HP) w he)
  have HVX := hide (fun w => values9_law x w hx)
  clear hx
  have SX : Hid ((cutV x).text.size ≤ 300) := hide (cutT_size x.text)
  obtain ⟨X, eX⟩ : ∃ X, cutV x = X := ⟨_, rfl⟩
  rw [eX] at HVX SX
  clear eX
  have HVY := hide (fun w => values9_law y w hy)
  clear hy
  have SY : Hid ((cutV y).text.size ≤ 300) := hide (cutT_size y.text)
  obtain ⟨Y, eY⟩ : ∃ Y, cutV y = Y := ⟨_, rfl⟩
  rw [eY] at HVY SY
  clear eY
  have HP1 := hide (fun (o : ByteArray) w (ho : o.size ≤ 1000) (he : Env3 w) => (unhide HP).bin o X Y w ho (by have := unhide SX; omega) (by have := unhide SY; omega) he)
  have HR1 := hide (fun (o : ByteArray) w => bin9_ref o X Y w (by have := unhide SX; omega) (by have := unhide SY; omega))
  have HN1 := hide (fun w (he : Env3 w) => (unhide HP).neg X w (by have := unhide SX; omega) he)
  have HN2 := hide (fun w => neg9_ref X w (by have := unhide SX; omega))
  have HN3 := hide (fun w => same9_law (negV (asNumV (vSound X))) w)
  obtain ⟨cN, ecN⟩ : ∃ c, (negV (asNumV (vSound X))).cells = c := ⟨_, rfl⟩
  rw [ecN] at HN1 HN2 HN3
  have HC1 := hide (fun w (he : Env3 w) => (unhide HP).pct X w (by have := unhide SX; omega) he)
  have HC2 := hide (fun w => pct9_ref X w (by have := unhide SX; omega))
  have HC3 := hide (fun w => same9_law (pctV (asNumV (vSound X))) w)
  obtain ⟨cP, ecP⟩ : ∃ c, (pctV (asNumV (vSound X))).cells = c := ⟨_, rfl⟩
  rw [ecP] at HC1 HC2 HC3
  clear ecN ecP
  unfold Vl.cells at HVX HVY HP1 HR1 HN1 HN2 HC1 HC2 ⊢
  go_enter Tryz.func3, Tryz.ntmps3
  go_upto_region 1 with fail
  have PX := hide (five_old w 23 (.int .i64 x.kind) (.int .i64 x.num) (.string x.text) (.bool x.tr) (.int .i64 x.fail) (.cells #[.int .i64 y.kind, .int .i64 y.num, .string y.text, .bool y.tr, .int .i64 y.fail] 23))
  have PY := hide (five_new2 w (.cells #[.int .i64 x.kind, .int .i64 x.num, .string x.text, .bool x.tr, .int .i64 x.fail] 23) 23 (.int .i64 y.kind) (.int .i64 y.num) (.string y.text) (.bool y.tr) (.int .i64 y.fail))
  have HB := hide (below_al2 w (.cells #[.int .i64 x.kind, .int .i64 x.num, .string x.text, .bool x.tr, .int .i64 x.fail] 23) (.cells #[.int .i64 y.kind, .int .i64 y.num, .string y.text, .bool y.tr, .int .i64 y.fail] 23))
  generalize hW : (w.alloc (.cells #[.int .i64 x.kind, .int .i64 x.num, .string x.text, .bool x.tr, .int .i64 x.fail] 23)).alloc (.cells #[.int .i64 y.kind, .int .i64 y.num, .string y.text, .bool y.tr, .int .i64 y.fail] 23) = W0 at PX PY HB ⊢
  clear hW
  obtain ⟨px_0, px_1, px_2, px_3, px_4⟩ := five_cells (unhide PX)
  go_wp2_with fail
  refine (unhide HVX _).mono ?_
  rintro e w1 ⟨rfl, b1⟩
  replace PX := hide (five_below (unhide PX) b1 (five_lt (unhide PX)))
  replace PY := hide (five_below (unhide PY) b1 (five_lt (unhide PY)))
  replace HB := hide (below_nx (unhide HB) b1)
  clear b1 px_0 px_1 px_2 px_3 px_4
  have A := hide (five_old w1 28 (.int .i64 X.kind) (.int .i64 X.num) (.string X.text) (.bool X.tr) (.int .i64 X.fail) (.cells #[.int .i64 X.kind, .int .i64 X.num, .string X.text, .bool X.tr, .int .i64 X.fail] 29))
  have RA := hide (five_new2 w1 (.cells #[.int .i64 X.kind, .int .i64 X.num, .string X.text, .bool X.tr, .int .i64 X.fail] 28) 29 (.int .i64 X.kind) (.int .i64 X.num) (.string X.text) (.bool X.tr) (.int .i64 X.fail))
  have bb := below_al2 w1 (.cells #[.int .i64 X.kind, .int .i64 X.num, .string X.text, .bool X.tr, .int .i64 X.fail] 28) (.cells #[.int .i64 X.kind, .int .i64 X.num, .string X.text, .bool X.tr, .int .i64 X.fail] 29)
  replace PX := hide (five_below (unhide PX) bb (five_lt (unhide PX)))
  replace PY := hide (five_below (unhide PY) bb (five_lt (unhide PY)))
  replace HB := hide (below_nx (unhide HB) bb)
  clear bb
  go_upto_region 2 with fail
  generalize hW : (w1.alloc (.cells #[.int .i64 X.kind, .int .i64 X.num, .string X.text, .bool X.tr, .int .i64 X.fail] 28)).alloc (.cells #[.int .i64 X.kind, .int .i64 X.num, .string X.text, .bool X.tr, .int .i64 X.fail] 29) = W1 at A RA HB PX PY ⊢
  clear hW
  clear PX
  obtain ⟨py_0, py_1, py_2, py_3, py_4⟩ := five_cells (unhide PY)
  go_wp2_with fail
  refine (unhide HVY _).mono ?_
  rintro e w2 ⟨rfl, b2⟩
  replace PY := hide (five_below (unhide PY) b2 (five_lt (unhide PY)))
  replace A := hide (five_below (unhide A) b2 (five_lt (unhide A)))
  replace RA := hide (five_below (unhide RA) b2 (five_lt (unhide RA)))
  replace HB := hide (below_nx (unhide HB) b2)
  clear b2 py_0 py_1 py_2 py_3 py_4
  have C := hide (five_old w2 28 (.int .i64 Y.kind) (.int .i64 Y.num) (.string Y.text) (.bool Y.tr) (.int .i64 Y.fail) (.cells #[.int .i64 Y.kind, .int .i64 Y.num, .string Y.text, .bool Y.tr, .int .i64 Y.fail] 29))
  have RC := hide (five_new2 w2 (.cells #[.int .i64 Y.kind, .int .i64 Y.num, .string Y.text, .bool Y.tr, .int .i64 Y.fail] 28) 29 (.int .i64 Y.kind) (.int .i64 Y.num) (.string Y.text) (.bool Y.tr) (.int .i64 Y.fail))
  have bb := below_al2 w2 (.cells #[.int .i64 Y.kind, .int .i64 Y.num, .string Y.text, .bool Y.tr, .int .i64 Y.fail] 28) (.cells #[.int .i64 Y.kind, .int .i64 Y.num, .string Y.text, .bool Y.tr, .int .i64 Y.fail] 29)
  replace PY := hide (five_below (unhide PY) bb (five_lt (unhide PY)))
  replace A := hide (five_below (unhide A) bb (five_lt (unhide A)))
  replace RA := hide (five_below (unhide RA) bb (five_lt (unhide RA)))
  replace HB := hide (below_nx (unhide HB) bb)
  clear bb
  go_upto_region 3 with fail
  generalize hW : (w2.alloc (.cells #[.int .i64 Y.kind, .int .i64 Y.num, .string Y.text, .bool Y.tr, .int .i64 Y.fail] 28)).alloc (.cells #[.int .i64 Y.kind, .int .i64 Y.num, .string Y.text, .bool Y.tr, .int .i64 Y.fail] 29) = W2 at C RC HB PY A RA ⊢
  clear hW
  clear PY
  go_upto_region 4 with fail
  have ST := hide (cut4_size s)
  clear _hs
  generalize s.extract 0 (min (s.size : Int) 4).toNat = t at ST ⊢
  go_upto_region 5 with fail
  have HG : Hid ((W2.alloc (.cells #[.string t, .string ⟨#[43]⟩, .string ⟨#[45]⟩, .string ⟨#[42]⟩, .string ⟨#[47]⟩, .string ⟨#[38]⟩, .string ⟨#[61]⟩, .string ⟨#[60, 62]⟩, .string ⟨#[60]⟩, .string ⟨#[60, 61]⟩, .string ⟨#[62]⟩, .string ⟨#[62, 61]⟩] 9)).heap[W2.heap.size]? = some (.cells #[.string t, .string ⟨#[43]⟩, .string ⟨#[45]⟩, .string ⟨#[42]⟩, .string ⟨#[47]⟩, .string ⟨#[38]⟩, .string ⟨#[61]⟩, .string ⟨#[60, 62]⟩, .string ⟨#[60]⟩, .string ⟨#[60, 61]⟩, .string ⟨#[62]⟩, .string ⟨#[62, 61]⟩] 9 (0, 0))) := hide (heap_alloc_new _ _)
  have bb := below_al W2 (.cells #[.string t, .string ⟨#[43]⟩, .string ⟨#[45]⟩, .string ⟨#[42]⟩, .string ⟨#[47]⟩, .string ⟨#[38]⟩, .string ⟨#[61]⟩, .string ⟨#[60, 62]⟩, .string ⟨#[60]⟩, .string ⟨#[60, 61]⟩, .string ⟨#[62]⟩, .string ⟨#[62, 61]⟩] 9)
  replace A := hide (five_below (unhide A) bb (five_lt (unhide A)))
  replace RA := hide (five_below (unhide RA) bb (five_lt (unhide RA)))
  replace C := hide (five_below (unhide C) bb (five_lt (unhide C)))
  replace RC := hide (five_below (unhide RC) bb (five_lt (unhide RC)))
  have hgl : W2.heap.size < (W2.alloc (.cells #[.string t, .string ⟨#[43]⟩, .string ⟨#[45]⟩, .string ⟨#[42]⟩, .string ⟨#[47]⟩, .string ⟨#[38]⟩, .string ⟨#[61]⟩, .string ⟨#[60, 62]⟩, .string ⟨#[60]⟩, .string ⟨#[60, 61]⟩, .string ⟨#[62]⟩, .string ⟨#[62, 61]⟩] 9)).heap.size := by simp
  have HB0 := hide (below_nx (unhide HB) bb)
  clear bb HB
  generalize hW : W2.alloc (.cells #[.string t, .string ⟨#[43]⟩, .string ⟨#[45]⟩, .string ⟨#[42]⟩, .string ⟨#[47]⟩, .string ⟨#[38]⟩, .string ⟨#[61]⟩, .string ⟨#[60, 62]⟩, .string ⟨#[60]⟩, .string ⟨#[60, 61]⟩, .string ⟨#[62]⟩, .string ⟨#[62, 61]⟩] 9) = WL at A RA C RC HG HB0 hgl ⊢
  clear hW
  generalize W2.heap.size = G at HG hgl ⊢
  replace HE := hide ((unhide HE).below (unhide HB0))
  go_loopw [35] (fun u wr => ∃ n : Nat, u = .int .i64 (n : Int) ∧ n ≤ 12 ∧ Hid (Below WL.heap.size WL wr)) (fun u _ => 12 - (intOf u).toNat)
  case atStart => exact ⟨0, rfl, Nat.zero_le _, hide (Below.refl _ _)⟩
  case round =>
    obtain ⟨n, rfl, hn, HB⟩ := hrel
    by_cases hlt : (n : Int) < 12
    · replace A := hide (five_below (unhide A) (unhide HB) (five_lt (unhide A)))
      replace RA := hide (five_below (unhide RA) (unhide HB) (five_lt (unhide RA)))
      replace C := hide (five_below (unhide C) (unhide HB) (five_lt (unhide C)))
      replace RC := hide (five_below (unhide RC) (unhide HB) (five_lt (unhide RC)))
      obtain ⟨o, co, ho⟩ := ops_at (unhide ST) (((unhide HB).block G hgl).trans (unhide HG)) n (by omega)
      have HPo := hide (fun w he => unhide HP1 o w ho he)
      have HRo := hide (fun w => unhide HR1 o w)
      obtain ⟨V, eV⟩ : ∃ V, binS o.toList (vSound X) (vSound Y) = V := ⟨_, rfl⟩
      obtain ⟨b, eb⟩ : ∃ b, binB o.toList = b := ⟨_, rfl⟩
      rw [eV, eb] at HPo HRo
      clear eV eb HP1 HR1
      have HS := hide (fun w => same9_law V w)
      unfold Vl.cells at HS
      obtain ⟨a_0, a_1, a_2, a_3, a_4⟩ := five_cells (unhide A)
      obtain ⟨c_0, c_1, c_2, c_3, c_4⟩ := five_cells (unhide C)
      go_wp2_with fail
      refine (unhide HPo _ ((unhide HE).below (unhide HB))).mono ?_
      rintro e w3 ⟨rfl, b3⟩
      replace A := hide (five_below (unhide A) b3 (five_lt (unhide A)))
      replace RA := hide (five_below (unhide RA) b3 (five_lt (unhide RA)))
      replace C := hide (five_below (unhide C) b3 (five_lt (unhide C)))
      replace RC := hide (five_below (unhide RC) b3 (five_lt (unhide RC)))
      replace HB := hide (below_nx (unhide HB) b3)
      clear b3 a_0 a_1 a_2 a_3 a_4 c_0 c_1 c_2 c_3 c_4
      have V1 := hide (five_new w3 28 (.int .i64 V.kind) (.int .i64 V.num) (.string V.text) (.bool V.tr) (.int .i64 V.fail))
      have bb := below_al w3 (.cells #[.int .i64 V.kind, .int .i64 V.num, .string V.text, .bool V.tr, .int .i64 V.fail] 28)
      replace A := hide (five_below (unhide A) bb (five_lt (unhide A)))
      replace RA := hide (five_below (unhide RA) bb (five_lt (unhide RA)))
      replace C := hide (five_below (unhide C) bb (five_lt (unhide C)))
      replace RC := hide (five_below (unhide RC) bb (five_lt (unhide RC)))
      replace HB := hide (below_nx (unhide HB) bb)
      clear bb
      go_upto_region 8 with fail
      generalize hW : w3.alloc (.cells #[.int .i64 V.kind, .int .i64 V.num, .string V.text, .bool V.tr, .int .i64 V.fail] 28) = W4 at V1 HB A RA C RC ⊢
      clear hW
      obtain ⟨ra_0, ra_1, ra_2, ra_3, ra_4⟩ := five_cells (unhide RA)
      obtain ⟨rc_0, rc_1, rc_2, rc_3, rc_4⟩ := five_cells (unhide RC)
      go_wp2_with fail
      refine (unhide HRo _).mono ?_
      rintro e w5 ⟨rfl, b5⟩
      replace A := hide (five_below (unhide A) b5 (five_lt (unhide A)))
      replace RA := hide (five_below (unhide RA) b5 (five_lt (unhide RA)))
      replace C := hide (five_below (unhide C) b5 (five_lt (unhide C)))
      replace RC := hide (five_below (unhide RC) b5 (five_lt (unhide RC)))
      replace V1 := hide (five_below (unhide V1) b5 (five_lt (unhide V1)))
      replace HB := hide (below_nx (unhide HB) b5)
      clear b5 ra_0 ra_1 ra_2 ra_3 ra_4 rc_0 rc_1 rc_2 rc_3 rc_4
      have V2 := hide (five_new w5 29 (.int .i64 V.kind) (.int .i64 V.num) (.string V.text) (.bool V.tr) (.int .i64 V.fail))
      have bb := below_al w5 (.cells #[.int .i64 V.kind, .int .i64 V.num, .string V.text, .bool V.tr, .int .i64 V.fail] 29)
      replace A := hide (five_below (unhide A) bb (five_lt (unhide A)))
      replace RA := hide (five_below (unhide RA) bb (five_lt (unhide RA)))
      replace C := hide (five_below (unhide C) bb (five_lt (unhide C)))
      replace RC := hide (five_below (unhide RC) bb (five_lt (unhide RC)))
      replace V1 := hide (five_below (unhide V1) bb (five_lt (unhide V1)))
      replace HB := hide (below_nx (unhide HB) bb)
      clear bb
      go_upto_region 9 with fail
      generalize hW : w5.alloc (.cells #[.int .i64 V.kind, .int .i64 V.num, .string V.text, .bool V.tr, .int .i64 V.fail] 29) = W6 at V2 HB A RA C RC V1 ⊢
      clear hW
      obtain ⟨v1_0, v1_1, v1_2, v1_3, v1_4⟩ := five_cells (unhide V1)
      obtain ⟨v2_0, v2_1, v2_2, v2_3, v2_4⟩ := five_cells (unhide V2)
      have hbb : (b != b) = false := bne_self_eq_false b
      go_wp2_with fail
      refine (unhide HS _).mono ?_
      rintro e w9 ⟨rfl, b9⟩
      replace HB := hide (below_nx (unhide HB) b9)
      clear b9 v1_0 v1_1 v1_2 v1_3 v1_4 v2_0 v2_1 v2_2 v2_3 v2_4
      go_wp2
      go_roundw
      case rel => exact ⟨n + 1, by go_num, by omega, HB⟩
      case measure => simp [intOf]; omega
    · replace A := hide (five_below (unhide A) (unhide HB) (five_lt (unhide A)))
      replace RA := hide (five_below (unhide RA) (unhide HB) (five_lt (unhide RA)))
      replace C := hide (five_below (unhide C) (unhide HB) (five_lt (unhide C)))
      replace RC := hide (five_below (unhide RC) (unhide HB) (five_lt (unhide RC)))
      clear C
      clear RC
      clear HP1 HR1 HG
      go_upto_region 12 with fail
      replace A := hide (five_drew (unhide A))
      replace RA := hide (five_drew (unhide RA))
      replace HB := hide (unhide HB).drew
      obtain ⟨a_0, a_1, a_2, a_3, a_4⟩ := five_cells (unhide A)
      obtain ⟨ra_0, ra_1, ra_2, ra_3, ra_4⟩ := five_cells (unhide RA)
      go_region_held3 (fun w' => w'.cell? ⟨w1.heap.size, 0, none⟩ = some (.int .i64 X.kind) ∧ w'.cell? ⟨w1.heap.size, 1, none⟩ = some (.int .i64 X.num) ∧ w'.cell? ⟨w1.heap.size, 2, none⟩ = some (.string X.text) ∧ w'.cell? ⟨w1.heap.size, 3, none⟩ = some (.bool X.tr) ∧ w'.cell? ⟨w1.heap.size, 4, none⟩ = some (.int .i64 X.fail) ∧ w'.cell? ⟨w1.heap.size + 1, 0, none⟩ = some (.int .i64 X.kind) ∧ w'.cell? ⟨w1.heap.size + 1, 1, none⟩ = some (.int .i64 X.num) ∧ w'.cell? ⟨w1.heap.size + 1, 2, none⟩ = some (.string X.text) ∧ w'.cell? ⟨w1.heap.size + 1, 3, none⟩ = some (.bool X.tr) ∧ w'.cell? ⟨w1.heap.size + 1, 4, none⟩ = some (.int .i64 X.fail)) (first | exact ⟨a_0, a_1, a_2, a_3, a_4, ra_0, ra_1, ra_2, ra_3, ra_4⟩ | go_keep)
        (first
          | (go_at_call 14; refine (unhide HWK _ ((unhide HE).below (unhide HB))).mono ?_; rintro e yy ⟨rfl, zz⟩; replace A := hide (five_below (unhide A) zz (five_lt (unhide A))); replace RA := hide (five_below (unhide RA) zz (five_lt (unhide RA))); replace HB := hide (below_nx (unhide HB) zz); clear zz a_0 a_1 a_2 a_3 a_4 ra_0 ra_1 ra_2 ra_3 ra_4; obtain ⟨a_0, a_1, a_2, a_3, a_4⟩ := five_cells (unhide A); obtain ⟨ra_0, ra_1, ra_2, ra_3, ra_4⟩ := five_cells (unhide RA))
          | (go_at_call 15; refine (unhide HN1 _ ((unhide HE).below (unhide HB))).mono ?_; rintro e yy ⟨rfl, zz⟩; replace A := hide (five_below (unhide A) zz (five_lt (unhide A))); replace RA := hide (five_below (unhide RA) zz (five_lt (unhide RA))); replace HB := hide (below_nx (unhide HB) zz); clear zz a_0 a_1 a_2 a_3 a_4 ra_0 ra_1 ra_2 ra_3 ra_4; obtain ⟨a_0, a_1, a_2, a_3, a_4⟩ := five_cells (unhide A); obtain ⟨ra_0, ra_1, ra_2, ra_3, ra_4⟩ := five_cells (unhide RA))
          | (go_at_call 16; refine (unhide HN2 _).mono ?_; rintro e yy ⟨rfl, zz⟩; replace A := hide (five_below (unhide A) zz (five_lt (unhide A))); replace RA := hide (five_below (unhide RA) zz (five_lt (unhide RA))); replace HB := hide (below_nx (unhide HB) zz); clear zz a_0 a_1 a_2 a_3 a_4 ra_0 ra_1 ra_2 ra_3 ra_4; obtain ⟨a_0, a_1, a_2, a_3, a_4⟩ := five_cells (unhide A); obtain ⟨ra_0, ra_1, ra_2, ra_3, ra_4⟩ := five_cells (unhide RA))
          | (go_at_call_of 13 cN; refine (unhide HN3 _).mono ?_; rintro e yy ⟨rfl, zz⟩; replace A := hide (five_below (unhide A) zz (five_lt (unhide A))); replace RA := hide (five_below (unhide RA) zz (five_lt (unhide RA))); replace HB := hide (below_nx (unhide HB) zz); clear zz a_0 a_1 a_2 a_3 a_4 ra_0 ra_1 ra_2 ra_3 ra_4; obtain ⟨a_0, a_1, a_2, a_3, a_4⟩ := five_cells (unhide A); obtain ⟨ra_0, ra_1, ra_2, ra_3, ra_4⟩ := five_cells (unhide RA))
          | (go_at_call 17; refine (unhide HC1 _ ((unhide HE).below (unhide HB))).mono ?_; rintro e yy ⟨rfl, zz⟩; replace A := hide (five_below (unhide A) zz (five_lt (unhide A))); replace RA := hide (five_below (unhide RA) zz (five_lt (unhide RA))); replace HB := hide (below_nx (unhide HB) zz); clear zz a_0 a_1 a_2 a_3 a_4 ra_0 ra_1 ra_2 ra_3 ra_4; obtain ⟨a_0, a_1, a_2, a_3, a_4⟩ := five_cells (unhide A); obtain ⟨ra_0, ra_1, ra_2, ra_3, ra_4⟩ := five_cells (unhide RA))
          | (go_at_call 18; refine (unhide HC2 _).mono ?_; rintro e yy ⟨rfl, zz⟩; replace A := hide (five_below (unhide A) zz (five_lt (unhide A))); replace RA := hide (five_below (unhide RA) zz (five_lt (unhide RA))); replace HB := hide (below_nx (unhide HB) zz); clear zz a_0 a_1 a_2 a_3 a_4 ra_0 ra_1 ra_2 ra_3 ra_4; obtain ⟨a_0, a_1, a_2, a_3, a_4⟩ := five_cells (unhide A); obtain ⟨ra_0, ra_1, ra_2, ra_3, ra_4⟩ := five_cells (unhide RA))
          | (go_at_call_of 13 cP; refine (unhide HC3 _).mono ?_; rintro e yy ⟨rfl, zz⟩; replace A := hide (five_below (unhide A) zz (five_lt (unhide A))); replace RA := hide (five_below (unhide RA) zz (five_lt (unhide RA))); replace HB := hide (below_nx (unhide HB) zz); clear zz a_0 a_1 a_2 a_3 a_4 ra_0 ra_1 ra_2 ra_3 ra_4; obtain ⟨a_0, a_1, a_2, a_3, a_4⟩ := five_cells (unhide A); obtain ⟨ra_0, ra_1, ra_2, ra_3, ra_4⟩ := five_cells (unhide RA)))
      all_goals (try go_wp2_with fail)
      all_goals go_ret
      all_goals exact ⟨rfl, below_nx (unhide HB0) (unhide HB)⟩
end Go.Proofs.YtbeijnflfmjgfaaGreatDoor

namespace Go.Proofs.YtbeijnflfmjgfaaGreatDoor
open Go.RowKit

def absG (a : Int) : Int × Int := ((a.natAbs : Int), 0)
def signG (a : Int) : Int × Int := (if a < 0 then -10000 else if 0 < a then 10000 else 0, 0)
def floorG (a : Int) : Int × Int := (floorV a, 0)
def truncG (a : Int) : Int × Int := (a.tdiv 10000 * 10000, 0)
def sqrtG (a : Int) : Int × Int := if a < 0 then (0, 5) else (rootV a, 0)
def factG (a : Int) : Int × Int := if a.tmod 10000 ≠ 0 ∨ a < 0 then (0, 5) else factL (a / 10000 - 1).toNat 20000 10000
def powP (a b : Int) : Int × Int := if (powL a (b.tdiv 10000).natAbs 10000).2 ≠ 0 ∨ 0 ≤ b then powL a (b.tdiv 10000).natAbs 10000 else divR 10000 (powL a (b.tdiv 10000).natAbs 10000).1
def powG (a b : Int) : Int × Int := if b.tmod 10000 ≠ 0 ∨ b < -10000000 ∨ 10000000 < b then (0, 5) else powP a b
def rndG (a p : Int) : Int × Int := if p.tmod 10000 ≠ 0 ∨ p < -150000 ∨ 150000 < p then (0, 5) else roundR a (p.tdiv 10000)
def upQ (a p : Int) : Int × Int := if 3 < p then (a, 0) else (sgnN (decide (a < 0)) (upP a.natAbs (4 - p).toNat : Nat), sgnE (upP a.natAbs (4 - p).toNat : Nat))
def upG (a p : Int) : Int × Int := if p.tmod 10000 ≠ 0 ∨ p < -150000 ∨ 150000 < p then (0, 5) else upQ a (p.tdiv 10000)
def quoG (a b : Int) : Int × Int := if b = 0 then (0, 6) else (if wholeB (a.tdiv b) = true then a.tdiv b * 10000 else 0, if wholeB (a.tdiv b) = true then 0 else 5)
def gcdG (a b : Int) : Int × Int := if a.tmod 10000 ≠ 0 ∨ b.tmod 10000 ≠ 0 ∨ a < 0 ∨ b < 0 then (0, 5) else ((Nat.gcd a.toNat b.toNat : Nat), 0)
def ratG (a b : Int) : Int × Int := if b = 0 then (0, 6) else (frN (ratW a b), frE (ratW a b))
def evenV (a : Int) : Vl := if a.tmod 10000 ≠ 0 then vE 2 else vB (decide (a.tmod 20000 = 0))

theorem told_ok (n : Int) : toldV (n, 0) = vN n := rfl
theorem told_bad : toldV (0, 5) = vE 2 := rfl
theorem told_pow (a b : Int) : toldV (powG a b) = powV a b := by
  unfold powG powV powP
  split
  · exact told_bad
  · generalize powL a (b.tdiv 10000).natAbs 10000 = r
    by_cases h : r.2 = 0
    · by_cases hb : b < 0
      · rw [if_neg (by rintro (h' | h') <;> omega), if_neg (by omega), if_pos hb]
      · rw [if_pos (Or.inr (by omega)), if_neg (by omega), if_neg hb]
        unfold toldV
        rw [if_neg (by omega), if_pos h]
    · rw [if_pos (Or.inl h), if_pos h]
theorem one_abs (a : Int) : oneV [65, 66, 83] a = toldV (absG a) := by unfold oneV; rw [if_pos rfl]; rfl
theorem one_sign (a : Int) : oneV [83, 73, 71, 78] a = toldV (signG a) := by
  unfold oneV signG
  rw [if_neg (by decide), if_pos rfl, told_ok]
  split
  · rfl
  · split <;> rfl
theorem one_int (a : Int) : oneV [73, 78, 84] a = toldV (floorG a) := by unfold oneV; rw [if_neg (by decide), if_neg (by decide), if_pos rfl]; rfl
theorem one_trunc (a : Int) : oneV [84, 82, 85, 78, 67] a = toldV (truncG a) := by
  unfold oneV truncG
  rw [if_neg (by decide), if_neg (by decide), if_neg (by decide), if_pos rfl, told_ok]
  have := Int.tdiv_mul_add_tmod a 10000
  rw [show a - a.tmod 10000 = a.tdiv 10000 * 10000 by omega]
theorem one_sqrt (a : Int) : oneV [83, 81, 82, 84] a = toldV (sqrtG a) := by
  unfold oneV sqrtG
  rw [if_neg (by decide), if_neg (by decide), if_neg (by decide), if_neg (by decide), if_pos rfl]
  split <;> rfl
theorem one_fact (a : Int) : oneV [70, 65, 67, 84] a = toldV (factG a) := by
  unfold oneV factG factV
  rw [if_neg (by decide), if_neg (by decide), if_neg (by decide), if_neg (by decide), if_neg (by decide), if_pos rfl]
  split <;> rfl
theorem one_even (a : Int) : oneV [69, 86, 69, 78] a = evenV a := by
  unfold oneV evenV
  rw [if_neg (by decide), if_neg (by decide), if_neg (by decide), if_neg (by decide), if_neg (by decide), if_neg (by decide)]
theorem two_round (a b : Int) : twoV [82, 79, 85, 78, 68] a b = toldV (rndG a b) := by
  unfold twoV rndG
  rw [if_pos (Or.inl rfl)]
  split
  · rfl
  · rw [if_neg (by decide)]
theorem two_up (a b : Int) : twoV [82, 79, 85, 78, 68, 85, 80] a b = toldV (upG a b) := by
  unfold twoV upG upQ upV
  rw [if_pos (Or.inr rfl)]
  split
  · rfl
  · rw [if_pos rfl]
    split <;> rfl
theorem two_mod (a b : Int) : twoV [77, 79, 68] a b = toldV (modR a b) := by unfold twoV; rw [if_neg (by decide), if_pos rfl]
theorem two_quo (a b : Int) : twoV [81, 85, 79, 84, 73, 69, 78, 84] a b = toldV (quoG a b) := by
  unfold twoV quoV quoG
  rw [if_neg (by decide), if_neg (by decide), if_pos rfl]
  split
  · rfl
  · cases wholeB (a.tdiv b)
    · rfl
    · rw [if_pos rfl, if_pos rfl, if_pos rfl, told_ok, Int.mul_comm]
theorem two_power (a b : Int) : twoV [80, 79, 87, 69, 82] a b = toldV (powG a b) := by
  unfold twoV
  rw [if_neg (by decide), if_neg (by decide), if_neg (by decide), if_pos rfl, told_pow]
theorem two_gcd (a b : Int) : twoV [71, 67, 68] a b = toldV (gcdG a b) := by
  unfold twoV gcdV gcdG
  rw [if_neg (by decide), if_neg (by decide), if_neg (by decide), if_neg (by decide), if_pos rfl]
  split <;> rfl
theorem two_ratio (a b : Int) : twoV [82, 65, 84, 73, 79] a b = toldV (ratG a b) := by
  unfold twoV ratV ratG
  rw [if_neg (by decide), if_neg (by decide), if_neg (by decide), if_neg (by decide), if_neg (by decide)]
  split <;> rfl
theorem floor_whole (a : Int) (h1 : -9000000000000000000 ≤ a) (h2 : a ≤ 9000000000000000000) : (floorV a == a) = decide (a.tmod 10000 = 0) := by
  have hg : goodB a = true := (goodB_iff a).2 ⟨h1, h2⟩
  unfold floorV
  rw [if_pos hg]
  obtain ⟨p1, p2, k, hk⟩ := modV_pos a 10000 (by omega)
  have hm : modV a 10000 = 0 ↔ a.tmod 10000 = 0 := by
    have e : a.tmod 10000 = 0 ↔ a % 10000 = 0 := by rw [← Int.dvd_iff_tmod_eq_zero, ← Int.dvd_iff_emod_eq_zero]
    rw [e]
    omega
  by_cases h : a.tmod 10000 = 0
  · rw [decide_eq_true h, beq_iff_eq, hm.2 h, Int.sub_zero]
  · rw [decide_eq_false h, beq_eq_false_iff_ne]
    intro h'
    exact h (hm.1 (by omega))
theorem whole_is (a : Int) (h1 : -9000000000000000000 ≤ a) (h2 : a ≤ 9000000000000000000) : wholeV a = a.tdiv 10000 := by
  unfold wholeV
  rw [if_pos ((goodB_iff a).2 ⟨h1, h2⟩)]
theorem tdiv_range (a : Int) (h1 : -9000000000000000000 ≤ a) (h2 : a ≤ 9000000000000000000) : -900000000000000 ≤ a.tdiv 10000 ∧ a.tdiv 10000 ≤ 900000000000000 := by
  have := Int.tdiv_mul_add_tmod a 10000
  have h : (a.tmod 10000).natAbs = a.natAbs % 10000 := Int.natAbs_tmod a 10000
  have h3 : a.natAbs % 10000 < 10000 := Nat.mod_lt _ (by omega)
  rcases Int.lt_or_le a 0 with h4 | h4
  · have : a.tmod 10000 ≤ 0 := by
      have := Int.neg_tmod (-a) 10000
      have := Int.tmod_nonneg 10000 (show 0 ≤ -a by omega)
      rw [Int.neg_neg] at *
      omega
    omega
  · have := Int.tmod_nonneg 10000 h4
    omega
end Go.Proofs.YtbeijnflfmjgfaaGreatDoor
