/- The walks of named at a name. -/
import Derived.BigQuiet
import Derived.BigRegion
import Derived.Deep.CutBlock
import Derived.Deep.CutRange
import Derived.Deep.DeepFit
import Derived.Deep.QuietTactic
import Derived.Deep.RegionHeld3
import Derived.Laws.Bits64b
import Derived.Laws.IdiomStrings
import Derived.Laws.Rows
import Derived.Laws.StructEq
import Derived.Lib.Atoi
import Derived.Lib.AtoiErrMem
import Derived.Lib.BitFns
import Derived.Lib.CutLaws
import Derived.Lib.IndexMore
import Derived.Lib.ItoaMem
import Derived.Lib.ItoaNum
import Derived.Lib.Join
import Derived.Lib.Replace
import Derived.Lib.Walk
import Derived.Shelf.Bits.Mul64
import Derived.Shelf.LaysM
import Derived.Shelf.Small.Bits
import Derived.Shelf.Small.Strs
import Derived.Shelf.Small.Utf8
import Derived.Shelf.Small.Wraps
import Derived.Shelf.Strconv.Atoi
import Derived.Shelf.Strconv.Itoa0
import Derived.Shelf.Strconv.Itoa1
import Derived.Shelf.Strconv.Itoa2
import Derived.Shelf.Strconv.Itoa3
import Derived.Shelf.Strings.AsciiSet
import Derived.Shelf.Strings.Builder1
import Derived.Shelf.Strings.Builder2
import Derived.Shelf.Strings.Count
import Derived.Shelf.Strings.Cut
import Derived.Shelf.Strings.OnBuilder
import Derived.Shelf.Strings.Prefix
import Derived.Shelf.Strings.Replace
import Derived.Shelf.Strings.Runes
import Derived.Shelf.Strings.Search1
import Derived.Shelf.Strings.Search2
import Derived.Shelf.Strings.Search3
import Derived.Shelf.Strings.Shaped
import Derived.Shelf.Strings.Split
import Derived.Shelf.Strings.SplitShaped
import Derived.Shelf.Strings.Trim
import Derived.Shelf.Unicode.DecodeSlow
import Derived.Test.YtloamahbghjjgaaGreatDoorProg
import Derived.Test.YtloamahbghjjgaaGreatDoorRows
import Derived.WalkKit
import Derived.WalkLawsBesides
import Derived.WalkSmall
import Derived.WalkSpells
import Derived.Test.YtloamahbghjjgaaGreatDoorZgAA
import Derived.Test.YtloamahbghjjgaaGreatDoorZgAB
import Derived.Test.YtloamahbghjjgaaGreatDoorZgAC
import Derived.Test.YtloamahbghjjgaaGreatDoorZgAE
import Derived.Test.YtloamahbghjjgaaGreatDoorZgAF
import Derived.Test.YtloamahbghjjgaaGreatDoorZgAG
import Derived.Test.YtloamahbghjjgaaGreatDoorZgAH
import Derived.Test.YtloamahbghjjgaaGreatDoorZgAI
import Derived.Test.YtloamahbghjjgaaGreatDoorZgAJ
import Derived.Test.YtloamahbghjjgaaGreatDoorZgAK
namespace Go.Proofs.YtloamahbghjjgaaGreatDoor
open Go.RowKit

set_option maxRecDepth 100000 in
set_option maxHeartbeats 4000000 in
theorem nd_called (s rb ub xb : ByteArray) (w : World) (i1 : (0 : Int) ≤ (rb.size : Int)) (i2 : (rb.size : Int) ≤ (s.size : Int)) (HL : Hid (∀ w, Calls Tryz.prog 141 #[.string s, .func (.func 145) #[] #[]] w fun e w' => e = .returned (.string rb) ∧ w' = w)) (HU : Hid (∀ w : World, Calls Tryz.prog 146 #[.string rb] w fun e w' => e = .returned (.string ub) ∧ Below w.heap.size w w')) (HN : Hid (∀ w : World, Calls Tryz.prog 110 #[.string rb] w fun e w' => e = .returned (.bool true) ∧ Below w.heap.size w w')) (HB1 : Hid (∀ w, Calls Tryz.prog 57 #[.string (s.extract rb.size s.size)] w fun e w' => e = .returned (.string xb) ∧ w' = w)) (HP1 : Hid (∀ w, Calls Tryz.prog 147 #[.string xb, .string ⟨#[40]⟩] w fun e w' => e = .returned (.bool true) ∧ w' = w)) :
    Calls Tryz.prog 92 #[.string s] w fun e w' => e = .returned (.tuple #[.agg #[.int .i64 4, .string ub, .int .i64 0, .int .i64 0, .string ⟨#[]⟩, .string ⟨#[]⟩, .int .i64 0, .int .i64 0, .bool false, .bool false, .int .i64 0, .int .i64 0, .bool false, .bool false, .bool false, .int .i64 0], .int .i64 (rb.size : Int), .int .i64 0]) ∧ Below w.heap.size w w' := by
  go_enter Tryz.func92, Tryz.ntmps92
  go_upto_region 1 with fail
  have R := hide (cells_new w 116 #[.int .i64 0, .string ⟨#[]⟩, .int .i64 0, .int .i64 0, .string ⟨#[]⟩, .string ⟨#[]⟩, .int .i64 0, .int .i64 0, .bool false, .bool false, .int .i64 0, .int .i64 0, .bool false, .bool false, .bool false, .int .i64 0])
  have HB : Hid (Below w.heap.size w (w.alloc (.cells #[.int .i64 0, .string ⟨#[]⟩, .int .i64 0, .int .i64 0, .string ⟨#[]⟩, .string ⟨#[]⟩, .int .i64 0, .int .i64 0, .bool false, .bool false, .int .i64 0, .int .i64 0, .bool false, .bool false, .bool false, .int .i64 0] 116))) := hide (below_al _ _)
  generalize hW : w.alloc (.cells #[.int .i64 0, .string ⟨#[]⟩, .int .i64 0, .int .i64 0, .string ⟨#[]⟩, .string ⟨#[]⟩, .int .i64 0, .int .i64 0, .bool false, .bool false, .int .i64 0, .int .i64 0, .bool false, .bool false, .bool false, .int .i64 0] 116) = W0 at R HB ⊢
  clear hW
  go_wp2_with fail
  refine (unhide HL _).mono ?_
  rintro e wk1 ⟨rfl, rfl⟩
  go_wp2_with fail
  refine (unhide HU _).mono ?_
  rintro e wk2 ⟨rfl, bk2⟩
  replace R := hide (cells_nx (unhide R) bk2)
  replace HB := hide (below_nx (unhide HB) bk2)
  clear bk2
  have hlt := cells_lt (unhide R)
  go_upto_region 3 with fail
  have V := hide (cells_new wk2 116 #[.int .i64 4, .string ub, .int .i64 0, .int .i64 0, .string ⟨#[]⟩, .string ⟨#[]⟩, .int .i64 0, .int .i64 0, .bool false, .bool false, .int .i64 0, .int .i64 0, .bool false, .bool false, .bool false, .int .i64 0])
  replace R := hide (cells_al (unhide R) (.cells #[.int .i64 4, .string ub, .int .i64 0, .int .i64 0, .string ⟨#[]⟩, .string ⟨#[]⟩, .int .i64 0, .int .i64 0, .bool false, .bool false, .int .i64 0, .int .i64 0, .bool false, .bool false, .bool false, .int .i64 0] 116))
  replace HB := hide ((unhide HB).alloc (unhide HB).size (.cells #[.int .i64 4, .string ub, .int .i64 0, .int .i64 0, .string ⟨#[]⟩, .string ⟨#[]⟩, .int .i64 0, .int .i64 0, .bool false, .bool false, .int .i64 0, .int .i64 0, .bool false, .bool false, .bool false, .int .i64 0] 116))
  have hne : w.heap.size ≠ wk2.heap.size := by omega
  clear hlt
  generalize hW : wk2.alloc (.cells #[.int .i64 4, .string ub, .int .i64 0, .int .i64 0, .string ⟨#[]⟩, .string ⟨#[]⟩, .int .i64 0, .int .i64 0, .bool false, .bool false, .int .i64 0, .int .i64 0, .bool false, .bool false, .bool false, .int .i64 0] 116) = W1 at R V HB ⊢
  clear hW
  go_wp2_with fail
  refine (unhide HN _).mono ?_
  rintro e wk3 ⟨rfl, bk3⟩
  replace R := hide (cells_nx (unhide R) bk3)
  replace V := hide (cells_nx (unhide V) bk3)
  replace HB := hide (below_nx (unhide HB) bk3)
  clear bk3
  go_wp2_with fail
  refine (unhide HB1 _).mono ?_
  rintro e wk4 ⟨rfl, rfl⟩
  go_wp2_with fail
  refine (unhide HP1 _).mono ?_
  rintro e wk5 ⟨rfl, rfl⟩
  obtain ⟨v_0, v_1, v_2, v_3, v_4, v_5, v_6, v_7, v_8, v_9, v_10, v_11, v_12, v_13, v_14, v_15⟩ := cells16 (unhide V)
  obtain ⟨r_0, r_1, r_2, r_3, r_4, r_5, r_6, r_7, r_8, r_9, r_10, r_11, r_12, r_13, r_14, r_15⟩ := cells16 (unhide R)
  obtain ⟨fz_0, fz_1, fz_2, fz_3, fz_4, fz_5, fz_6, fz_7, fz_8, fz_9, fz_10, fz_11, fz_12, fz_13, fz_14, fz_15⟩ := frz16 (unhide R)
  go_wp2
  refine bodyPost_ret (results_c1tt rfl _ _ _ _ _ _ rfl (cells_set16 (unhide R) _ _ _ _ _ _ _ _ _ _ _ _ _ _ _ _) Tryz.underlying116 rfl (by exact infoTk) _ rfl _ rfl) rfl ?_
  exact ⟨rfl, below_set16 (unhide HB) (Nat.le_refl _) _ _ _ _ _ _ _ _ _ _ _ _ _ _ _ _⟩
set_option maxRecDepth 100000 in
set_option maxHeartbeats 4000000 in
theorem nd_ref_n (s rb ub xb : ByteArray) (w : World) (HE : Hid (Env5 w)) (i1 : (0 : Int) ≤ (rb.size : Int)) (i2 : (rb.size : Int) ≤ (s.size : Int)) (HL : Hid (∀ w, Calls Tryz.prog 141 #[.string s, .func (.func 145) #[] #[]] w fun e w' => e = .returned (.string rb) ∧ w' = w)) (HU : Hid (∀ w : World, Calls Tryz.prog 146 #[.string rb] w fun e w' => e = .returned (.string ub) ∧ Below w.heap.size w w')) (HN : Hid (∀ w : World, Calls Tryz.prog 110 #[.string rb] w fun e w' => e = .returned (.bool true) ∧ Below w.heap.size w w')) (HB1 : Hid (∀ w, Calls Tryz.prog 57 #[.string (s.extract rb.size s.size)] w fun e w' => e = .returned (.string xb) ∧ w' = w)) (HP1 : Hid (∀ w, Calls Tryz.prog 147 #[.string xb, .string ⟨#[40]⟩] w fun e w' => e = .returned (.bool false) ∧ w' = w)) (bk sh : ByteArray) (c1 r1 c2 r2 : Int) (f1 g1 f2 g2 wd : Bool)  (HF : Hid (∀ w : World, Env4 w → Calls Tryz.prog 148 #[.string rb] w fun e w' => e = .returned (.tuple #[.agg #[.string bk, .string sh, .int .i64 c1, .int .i64 r1, .bool f1, .bool g1, .int .i64 c2, .int .i64 r2, .bool f2, .bool g2, .bool wd], .int .i64 0]) ∧ Below w.heap.size w w')) :
    Calls Tryz.prog 92 #[.string s] w fun e w' => e = .returned (.tuple #[.agg #[.int .i64 3, .string ⟨#[]⟩, .int .i64 0, .int .i64 0, .string bk, .string sh, .int .i64 c1, .int .i64 r1, .bool f1, .bool g1, .int .i64 c2, .int .i64 r2, .bool f2, .bool g2, .bool wd, .int .i64 0], .int .i64 (rb.size : Int), .int .i64 0]) ∧ Below w.heap.size w w' := by
  go_enter Tryz.func92, Tryz.ntmps92
  go_upto_region 1 with fail
  have R := hide (cells_new w 116 #[.int .i64 0, .string ⟨#[]⟩, .int .i64 0, .int .i64 0, .string ⟨#[]⟩, .string ⟨#[]⟩, .int .i64 0, .int .i64 0, .bool false, .bool false, .int .i64 0, .int .i64 0, .bool false, .bool false, .bool false, .int .i64 0])
  have HB : Hid (Below w.heap.size w (w.alloc (.cells #[.int .i64 0, .string ⟨#[]⟩, .int .i64 0, .int .i64 0, .string ⟨#[]⟩, .string ⟨#[]⟩, .int .i64 0, .int .i64 0, .bool false, .bool false, .int .i64 0, .int .i64 0, .bool false, .bool false, .bool false, .int .i64 0] 116))) := hide (below_al _ _)
  generalize hW : w.alloc (.cells #[.int .i64 0, .string ⟨#[]⟩, .int .i64 0, .int .i64 0, .string ⟨#[]⟩, .string ⟨#[]⟩, .int .i64 0, .int .i64 0, .bool false, .bool false, .int .i64 0, .int .i64 0, .bool false, .bool false, .bool false, .int .i64 0] 116) = W0 at R HB ⊢
  clear hW
  go_wp2_with fail
  refine (unhide HL _).mono ?_
  rintro e wk1 ⟨rfl, rfl⟩
  go_wp2_with fail
  refine (unhide HU _).mono ?_
  rintro e wk2 ⟨rfl, bk2⟩
  replace R := hide (cells_nx (unhide R) bk2)
  replace HB := hide (below_nx (unhide HB) bk2)
  clear bk2
  have hlt := cells_lt (unhide R)
  go_upto_region 3 with fail
  have V := hide (cells_new wk2 116 #[.int .i64 4, .string ub, .int .i64 0, .int .i64 0, .string ⟨#[]⟩, .string ⟨#[]⟩, .int .i64 0, .int .i64 0, .bool false, .bool false, .int .i64 0, .int .i64 0, .bool false, .bool false, .bool false, .int .i64 0])
  replace R := hide (cells_al (unhide R) (.cells #[.int .i64 4, .string ub, .int .i64 0, .int .i64 0, .string ⟨#[]⟩, .string ⟨#[]⟩, .int .i64 0, .int .i64 0, .bool false, .bool false, .int .i64 0, .int .i64 0, .bool false, .bool false, .bool false, .int .i64 0] 116))
  replace HB := hide ((unhide HB).alloc (unhide HB).size (.cells #[.int .i64 4, .string ub, .int .i64 0, .int .i64 0, .string ⟨#[]⟩, .string ⟨#[]⟩, .int .i64 0, .int .i64 0, .bool false, .bool false, .int .i64 0, .int .i64 0, .bool false, .bool false, .bool false, .int .i64 0] 116))
  have hne : w.heap.size ≠ wk2.heap.size := by omega
  clear hlt
  generalize hW : wk2.alloc (.cells #[.int .i64 4, .string ub, .int .i64 0, .int .i64 0, .string ⟨#[]⟩, .string ⟨#[]⟩, .int .i64 0, .int .i64 0, .bool false, .bool false, .int .i64 0, .int .i64 0, .bool false, .bool false, .bool false, .int .i64 0] 116) = W1 at R V HB ⊢
  clear hW
  go_wp2_with fail
  refine (unhide HN _).mono ?_
  rintro e wk3 ⟨rfl, bk3⟩
  replace R := hide (cells_nx (unhide R) bk3)
  replace V := hide (cells_nx (unhide V) bk3)
  replace HB := hide (below_nx (unhide HB) bk3)
  clear bk3
  go_wp2_with fail
  refine (unhide HB1 _).mono ?_
  rintro e wk4 ⟨rfl, rfl⟩
  go_wp2_with fail
  refine (unhide HP1 _).mono ?_
  rintro e wk5 ⟨rfl, rfl⟩
  go_wp2_with fail
  refine (unhide HF _ ((unhide HE).below (unhide HB)).e4).mono ?_
  rintro e wk6 ⟨rfl, bk6⟩
  replace R := hide (cells_nx (unhide R) bk6)
  replace V := hide (cells_nx (unhide V) bk6)
  replace HB := hide (below_nx (unhide HB) bk6)
  clear bk6
  have hlt := cells_lt (unhide R)
  have hlv := cells_lt (unhide V)
  go_upto_region 7 with fail
  have G := hide (cells_new wk6 52 #[.string bk, .string sh, .int .i64 c1, .int .i64 r1, .bool f1, .bool g1, .int .i64 c2, .int .i64 r2, .bool f2, .bool g2, .bool wd])
  replace R := hide (cells_al (unhide R) (.cells #[.string bk, .string sh, .int .i64 c1, .int .i64 r1, .bool f1, .bool g1, .int .i64 c2, .int .i64 r2, .bool f2, .bool g2, .bool wd] 52))
  replace V := hide (cells_al (unhide V) (.cells #[.string bk, .string sh, .int .i64 c1, .int .i64 r1, .bool f1, .bool g1, .int .i64 c2, .int .i64 r2, .bool f2, .bool g2, .bool wd] 52))
  replace HB := hide ((unhide HB).alloc (unhide HB).size (.cells #[.string bk, .string sh, .int .i64 c1, .int .i64 r1, .bool f1, .bool g1, .int .i64 c2, .int .i64 r2, .bool f2, .bool g2, .bool wd] 52))
  have hne2 : w.heap.size ≠ wk6.heap.size := by omega
  clear hlt hlv
  generalize hW : wk6.alloc (.cells #[.string bk, .string sh, .int .i64 c1, .int .i64 r1, .bool f1, .bool g1, .int .i64 c2, .int .i64 r2, .bool f2, .bool g2, .bool wd] 52) = W2 at R V G HB ⊢
  clear hW
  obtain ⟨g_0, g_1, g_2, g_3, g_4, g_5, g_6, g_7, g_8, g_9, g_10⟩ := cells11 (unhide G)
  obtain ⟨r_0, r_1, r_2, r_3, r_4, r_5, r_6, r_7, r_8, r_9, r_10, r_11, r_12, r_13, r_14, r_15⟩ := cells16 (unhide R)
  obtain ⟨fz_0, fz_1, fz_2, fz_3, fz_4, fz_5, fz_6, fz_7, fz_8, fz_9, fz_10, fz_11, fz_12, fz_13, fz_14, fz_15⟩ := frz16 (unhide R)
  go_wp2
  refine bodyPost_ret (results_c1tt rfl _ _ _ _ _ _ rfl (cells_set16 (unhide R) _ _ _ _ _ _ _ _ _ _ _ _ _ _ _ _) Tryz.underlying116 rfl (by exact infoTk) _ rfl _ rfl) rfl ?_
  exact ⟨rfl, below_set16 (unhide HB) (Nat.le_refl _) _ _ _ _ _ _ _ _ _ _ _ _ _ _ _ _⟩
set_option maxRecDepth 100000 in
set_option maxHeartbeats 4000000 in
theorem nd_word (s rb ub xb : ByteArray) (w : World) (HE : Hid (Env5 w)) (i1 : (0 : Int) ≤ (rb.size : Int)) (i2 : (rb.size : Int) ≤ (s.size : Int)) (HL : Hid (∀ w, Calls Tryz.prog 141 #[.string s, .func (.func 145) #[] #[]] w fun e w' => e = .returned (.string rb) ∧ w' = w)) (HU : Hid (∀ w : World, Calls Tryz.prog 146 #[.string rb] w fun e w' => e = .returned (.string ub) ∧ Below w.heap.size w w')) (HN : Hid (∀ w : World, Calls Tryz.prog 110 #[.string rb] w fun e w' => e = .returned (.bool true) ∧ Below w.heap.size w w')) (HB1 : Hid (∀ w, Calls Tryz.prog 57 #[.string (s.extract rb.size s.size)] w fun e w' => e = .returned (.string xb) ∧ w' = w)) (HP1 : Hid (∀ w, Calls Tryz.prog 147 #[.string xb, .string ⟨#[40]⟩] w fun e w' => e = .returned (.bool false) ∧ w' = w)) (bk sh : ByteArray) (c1 r1 c2 r2 : Int) (f1 g1 f2 g2 wd : Bool)  (HF : Hid (∀ w : World, Env4 w → Calls Tryz.prog 148 #[.string rb] w fun e w' => e = .returned (.tuple #[.agg #[.string bk, .string sh, .int .i64 c1, .int .i64 r1, .bool f1, .bool g1, .int .i64 c2, .int .i64 r2, .bool f2, .bool g2, .bool wd], .int .i64 4]) ∧ Below w.heap.size w w')) :
    Calls Tryz.prog 92 #[.string s] w fun e w' => e = .returned (.tuple #[.agg #[.int .i64 4, .string ub, .int .i64 0, .int .i64 0, .string ⟨#[]⟩, .string ⟨#[]⟩, .int .i64 0, .int .i64 0, .bool false, .bool false, .int .i64 0, .int .i64 0, .bool false, .bool false, .bool false, .int .i64 0], .int .i64 (rb.size : Int), .int .i64 0]) ∧ Below w.heap.size w w' := by
  go_enter Tryz.func92, Tryz.ntmps92
  go_upto_region 1 with fail
  have R := hide (cells_new w 116 #[.int .i64 0, .string ⟨#[]⟩, .int .i64 0, .int .i64 0, .string ⟨#[]⟩, .string ⟨#[]⟩, .int .i64 0, .int .i64 0, .bool false, .bool false, .int .i64 0, .int .i64 0, .bool false, .bool false, .bool false, .int .i64 0])
  have HB : Hid (Below w.heap.size w (w.alloc (.cells #[.int .i64 0, .string ⟨#[]⟩, .int .i64 0, .int .i64 0, .string ⟨#[]⟩, .string ⟨#[]⟩, .int .i64 0, .int .i64 0, .bool false, .bool false, .int .i64 0, .int .i64 0, .bool false, .bool false, .bool false, .int .i64 0] 116))) := hide (below_al _ _)
  generalize hW : w.alloc (.cells #[.int .i64 0, .string ⟨#[]⟩, .int .i64 0, .int .i64 0, .string ⟨#[]⟩, .string ⟨#[]⟩, .int .i64 0, .int .i64 0, .bool false, .bool false, .int .i64 0, .int .i64 0, .bool false, .bool false, .bool false, .int .i64 0] 116) = W0 at R HB ⊢
  clear hW
  go_wp2_with fail
  refine (unhide HL _).mono ?_
  rintro e wk1 ⟨rfl, rfl⟩
  go_wp2_with fail
  refine (unhide HU _).mono ?_
  rintro e wk2 ⟨rfl, bk2⟩
  replace R := hide (cells_nx (unhide R) bk2)
  replace HB := hide (below_nx (unhide HB) bk2)
  clear bk2
  have hlt := cells_lt (unhide R)
  go_upto_region 3 with fail
  have V := hide (cells_new wk2 116 #[.int .i64 4, .string ub, .int .i64 0, .int .i64 0, .string ⟨#[]⟩, .string ⟨#[]⟩, .int .i64 0, .int .i64 0, .bool false, .bool false, .int .i64 0, .int .i64 0, .bool false, .bool false, .bool false, .int .i64 0])
  replace R := hide (cells_al (unhide R) (.cells #[.int .i64 4, .string ub, .int .i64 0, .int .i64 0, .string ⟨#[]⟩, .string ⟨#[]⟩, .int .i64 0, .int .i64 0, .bool false, .bool false, .int .i64 0, .int .i64 0, .bool false, .bool false, .bool false, .int .i64 0] 116))
  replace HB := hide ((unhide HB).alloc (unhide HB).size (.cells #[.int .i64 4, .string ub, .int .i64 0, .int .i64 0, .string ⟨#[]⟩, .string ⟨#[]⟩, .int .i64 0, .int .i64 0, .bool false, .bool false, .int .i64 0, .int .i64 0, .bool false, .bool false, .bool false, .int .i64 0] 116))
  have hne : w.heap.size ≠ wk2.heap.size := by omega
  clear hlt
  generalize hW : wk2.alloc (.cells #[.int .i64 4, .string ub, .int .i64 0, .int .i64 0, .string ⟨#[]⟩, .string ⟨#[]⟩, .int .i64 0, .int .i64 0, .bool false, .bool false, .int .i64 0, .int .i64 0, .bool false, .bool false, .bool false, .int .i64 0] 116) = W1 at R V HB ⊢
  clear hW
  go_wp2_with fail
  refine (unhide HN _).mono ?_
  rintro e wk3 ⟨rfl, bk3⟩
  replace R := hide (cells_nx (unhide R) bk3)
  replace V := hide (cells_nx (unhide V) bk3)
  replace HB := hide (below_nx (unhide HB) bk3)
  clear bk3
  go_wp2_with fail
  refine (unhide HB1 _).mono ?_
  rintro e wk4 ⟨rfl, rfl⟩
  go_wp2_with fail
  refine (unhide HP1 _).mono ?_
  rintro e wk5 ⟨rfl, rfl⟩
  go_wp2_with fail
  refine (unhide HF _ ((unhide HE).below (unhide HB)).e4).mono ?_
  rintro e wk6 ⟨rfl, bk6⟩
  replace R := hide (cells_nx (unhide R) bk6)
  replace V := hide (cells_nx (unhide V) bk6)
  replace HB := hide (below_nx (unhide HB) bk6)
  clear bk6
  have hlt := cells_lt (unhide R)
  have hlv := cells_lt (unhide V)
  go_upto_region 7 with fail
  have G := hide (cells_new wk6 52 #[.string bk, .string sh, .int .i64 c1, .int .i64 r1, .bool f1, .bool g1, .int .i64 c2, .int .i64 r2, .bool f2, .bool g2, .bool wd])
  replace R := hide (cells_al (unhide R) (.cells #[.string bk, .string sh, .int .i64 c1, .int .i64 r1, .bool f1, .bool g1, .int .i64 c2, .int .i64 r2, .bool f2, .bool g2, .bool wd] 52))
  replace V := hide (cells_al (unhide V) (.cells #[.string bk, .string sh, .int .i64 c1, .int .i64 r1, .bool f1, .bool g1, .int .i64 c2, .int .i64 r2, .bool f2, .bool g2, .bool wd] 52))
  replace HB := hide ((unhide HB).alloc (unhide HB).size (.cells #[.string bk, .string sh, .int .i64 c1, .int .i64 r1, .bool f1, .bool g1, .int .i64 c2, .int .i64 r2, .bool f2, .bool g2, .bool wd] 52))
  have hne2 : w.heap.size ≠ wk6.heap.size := by omega
  clear hlt hlv
  generalize hW : wk6.alloc (.cells #[.string bk, .string sh, .int .i64 c1, .int .i64 r1, .bool f1, .bool g1, .int .i64 c2, .int .i64 r2, .bool f2, .bool g2, .bool wd] 52) = W2 at R V G HB ⊢
  clear hW
  obtain ⟨v_0, v_1, v_2, v_3, v_4, v_5, v_6, v_7, v_8, v_9, v_10, v_11, v_12, v_13, v_14, v_15⟩ := cells16 (unhide V)
  obtain ⟨r_0, r_1, r_2, r_3, r_4, r_5, r_6, r_7, r_8, r_9, r_10, r_11, r_12, r_13, r_14, r_15⟩ := cells16 (unhide R)
  obtain ⟨fz_0, fz_1, fz_2, fz_3, fz_4, fz_5, fz_6, fz_7, fz_8, fz_9, fz_10, fz_11, fz_12, fz_13, fz_14, fz_15⟩ := frz16 (unhide R)
  go_wp2
  refine bodyPost_ret (results_c1tt rfl _ _ _ _ _ _ rfl (cells_set16 (unhide R) _ _ _ _ _ _ _ _ _ _ _ _ _ _ _ _) Tryz.underlying116 rfl (by exact infoTk) _ rfl _ rfl) rfl ?_
  exact ⟨rfl, below_set16 (unhide HB) (Nat.le_refl _) _ _ _ _ _ _ _ _ _ _ _ _ _ _ _ _⟩
set_option maxRecDepth 100000 in
set_option maxHeartbeats 4000000 in
theorem nd_bad_n (s rb ub xb : ByteArray) (w : World) (HE : Hid (Env5 w)) (i1 : (0 : Int) ≤ (rb.size : Int)) (i2 : (rb.size : Int) ≤ (s.size : Int)) (HL : Hid (∀ w, Calls Tryz.prog 141 #[.string s, .func (.func 145) #[] #[]] w fun e w' => e = .returned (.string rb) ∧ w' = w)) (HU : Hid (∀ w : World, Calls Tryz.prog 146 #[.string rb] w fun e w' => e = .returned (.string ub) ∧ Below w.heap.size w w')) (HN : Hid (∀ w : World, Calls Tryz.prog 110 #[.string rb] w fun e w' => e = .returned (.bool true) ∧ Below w.heap.size w w')) (HB1 : Hid (∀ w, Calls Tryz.prog 57 #[.string (s.extract rb.size s.size)] w fun e w' => e = .returned (.string xb) ∧ w' = w)) (HP1 : Hid (∀ w, Calls Tryz.prog 147 #[.string xb, .string ⟨#[40]⟩] w fun e w' => e = .returned (.bool false) ∧ w' = w)) (bk sh : ByteArray) (c1 r1 c2 r2 : Int) (f1 g1 f2 g2 wd : Bool) (x : Int) (HF : Hid (∀ w : World, Env4 w → Calls Tryz.prog 148 #[.string rb] w fun e w' => e = .returned (.tuple #[.agg #[.string bk, .string sh, .int .i64 c1, .int .i64 r1, .bool f1, .bool g1, .int .i64 c2, .int .i64 r2, .bool f2, .bool g2, .bool wd], .int .i64 x]) ∧ Below w.heap.size w w')) (q2 : ¬ x = 0) (q3 : ¬ x = 4) :
    Calls Tryz.prog 92 #[.string s] w fun e w' => e = .returned (.tuple #[.agg #[.int .i64 0, .string ⟨#[]⟩, .int .i64 0, .int .i64 0, .string ⟨#[]⟩, .string ⟨#[]⟩, .int .i64 0, .int .i64 0, .bool false, .bool false, .int .i64 0, .int .i64 0, .bool false, .bool false, .bool false, .int .i64 0], .int .i64 0, .int .i64 x]) ∧ Below w.heap.size w w' := by
  go_enter Tryz.func92, Tryz.ntmps92
  go_upto_region 1 with fail
  have R := hide (cells_new w 116 #[.int .i64 0, .string ⟨#[]⟩, .int .i64 0, .int .i64 0, .string ⟨#[]⟩, .string ⟨#[]⟩, .int .i64 0, .int .i64 0, .bool false, .bool false, .int .i64 0, .int .i64 0, .bool false, .bool false, .bool false, .int .i64 0])
  have HB : Hid (Below w.heap.size w (w.alloc (.cells #[.int .i64 0, .string ⟨#[]⟩, .int .i64 0, .int .i64 0, .string ⟨#[]⟩, .string ⟨#[]⟩, .int .i64 0, .int .i64 0, .bool false, .bool false, .int .i64 0, .int .i64 0, .bool false, .bool false, .bool false, .int .i64 0] 116))) := hide (below_al _ _)
  generalize hW : w.alloc (.cells #[.int .i64 0, .string ⟨#[]⟩, .int .i64 0, .int .i64 0, .string ⟨#[]⟩, .string ⟨#[]⟩, .int .i64 0, .int .i64 0, .bool false, .bool false, .int .i64 0, .int .i64 0, .bool false, .bool false, .bool false, .int .i64 0] 116) = W0 at R HB ⊢
  clear hW
  go_wp2_with fail
  refine (unhide HL _).mono ?_
  rintro e wk1 ⟨rfl, rfl⟩
  go_wp2_with fail
  refine (unhide HU _).mono ?_
  rintro e wk2 ⟨rfl, bk2⟩
  replace R := hide (cells_nx (unhide R) bk2)
  replace HB := hide (below_nx (unhide HB) bk2)
  clear bk2
  have hlt := cells_lt (unhide R)
  go_upto_region 3 with fail
  have V := hide (cells_new wk2 116 #[.int .i64 4, .string ub, .int .i64 0, .int .i64 0, .string ⟨#[]⟩, .string ⟨#[]⟩, .int .i64 0, .int .i64 0, .bool false, .bool false, .int .i64 0, .int .i64 0, .bool false, .bool false, .bool false, .int .i64 0])
  replace R := hide (cells_al (unhide R) (.cells #[.int .i64 4, .string ub, .int .i64 0, .int .i64 0, .string ⟨#[]⟩, .string ⟨#[]⟩, .int .i64 0, .int .i64 0, .bool false, .bool false, .int .i64 0, .int .i64 0, .bool false, .bool false, .bool false, .int .i64 0] 116))
  replace HB := hide ((unhide HB).alloc (unhide HB).size (.cells #[.int .i64 4, .string ub, .int .i64 0, .int .i64 0, .string ⟨#[]⟩, .string ⟨#[]⟩, .int .i64 0, .int .i64 0, .bool false, .bool false, .int .i64 0, .int .i64 0, .bool false, .bool false, .bool false, .int .i64 0] 116))
  have hne : w.heap.size ≠ wk2.heap.size := by omega
  clear hlt
  generalize hW : wk2.alloc (.cells #[.int .i64 4, .string ub, .int .i64 0, .int .i64 0, .string ⟨#[]⟩, .string ⟨#[]⟩, .int .i64 0, .int .i64 0, .bool false, .bool false, .int .i64 0, .int .i64 0, .bool false, .bool false, .bool false, .int .i64 0] 116) = W1 at R V HB ⊢
  clear hW
  go_wp2_with fail
  refine (unhide HN _).mono ?_
  rintro e wk3 ⟨rfl, bk3⟩
  replace R := hide (cells_nx (unhide R) bk3)
  replace V := hide (cells_nx (unhide V) bk3)
  replace HB := hide (below_nx (unhide HB) bk3)
  clear bk3
  go_wp2_with fail
  refine (unhide HB1 _).mono ?_
  rintro e wk4 ⟨rfl, rfl⟩
  go_wp2_with fail
  refine (unhide HP1 _).mono ?_
  rintro e wk5 ⟨rfl, rfl⟩
  go_wp2_with fail
  refine (unhide HF _ ((unhide HE).below (unhide HB)).e4).mono ?_
  rintro e wk6 ⟨rfl, bk6⟩
  replace R := hide (cells_nx (unhide R) bk6)
  replace V := hide (cells_nx (unhide V) bk6)
  replace HB := hide (below_nx (unhide HB) bk6)
  clear bk6
  have hlt := cells_lt (unhide R)
  have hlv := cells_lt (unhide V)
  go_upto_region 7 with fail
  have G := hide (cells_new wk6 52 #[.string bk, .string sh, .int .i64 c1, .int .i64 r1, .bool f1, .bool g1, .int .i64 c2, .int .i64 r2, .bool f2, .bool g2, .bool wd])
  replace R := hide (cells_al (unhide R) (.cells #[.string bk, .string sh, .int .i64 c1, .int .i64 r1, .bool f1, .bool g1, .int .i64 c2, .int .i64 r2, .bool f2, .bool g2, .bool wd] 52))
  replace V := hide (cells_al (unhide V) (.cells #[.string bk, .string sh, .int .i64 c1, .int .i64 r1, .bool f1, .bool g1, .int .i64 c2, .int .i64 r2, .bool f2, .bool g2, .bool wd] 52))
  replace HB := hide ((unhide HB).alloc (unhide HB).size (.cells #[.string bk, .string sh, .int .i64 c1, .int .i64 r1, .bool f1, .bool g1, .int .i64 c2, .int .i64 r2, .bool f2, .bool g2, .bool wd] 52))
  have hne2 : w.heap.size ≠ wk6.heap.size := by omega
  clear hlt hlv
  generalize hW : wk6.alloc (.cells #[.string bk, .string sh, .int .i64 c1, .int .i64 r1, .bool f1, .bool g1, .int .i64 c2, .int .i64 r2, .bool f2, .bool g2, .bool wd] 52) = W2 at R V G HB ⊢
  clear hW
  obtain ⟨r_0, r_1, r_2, r_3, r_4, r_5, r_6, r_7, r_8, r_9, r_10, r_11, r_12, r_13, r_14, r_15⟩ := cells16 (unhide R)
  obtain ⟨fz_0, fz_1, fz_2, fz_3, fz_4, fz_5, fz_6, fz_7, fz_8, fz_9, fz_10, fz_11, fz_12, fz_13, fz_14, fz_15⟩ := frz16 (unhide R)
  go_wp2
  refine bodyPost_ret (results_c1tt rfl _ _ _ _ _ _ rfl (cells_set16 (unhide R) _ _ _ _ _ _ _ _ _ _ _ _ _ _ _ _) Tryz.underlying116 rfl (by exact infoTk) _ rfl _ rfl) rfl ?_
  exact ⟨rfl, below_set16 (unhide HB) (Nat.le_refl _) _ _ _ _ _ _ _ _ _ _ _ _ _ _ _ _⟩
end Go.Proofs.YtloamahbghjjgaaGreatDoor
