/- The contracts of the reference's Ref1 and ParseRef. -/
import Derived.BigQuiet
import Derived.Deep.CutBlock
import Derived.Deep.CutRange
import Derived.Deep.QuietTactic
import Derived.Deep.RegionHeld3
import Derived.Laws.IdiomStrings
import Derived.Laws.Rows
import Derived.Lib.Atoi
import Derived.Lib.AtoiErrMem
import Derived.Lib.CutLaws
import Derived.Lib.IndexMore
import Derived.Lib.ItoaMem
import Derived.Lib.ItoaNum
import Derived.Shelf.Bits.Mul64
import Derived.Shelf.LaysM
import Derived.Shelf.Small.Bits
import Derived.Shelf.Small.Strs
import Derived.Shelf.Small.Utf8
import Derived.Shelf.Small.Wraps
import Derived.Shelf.Strconv.Atoi
import Derived.Shelf.Strconv.Itoa0
import Derived.Shelf.Strconv.Itoa1
import Derived.Shelf.Strconv.Itoa2
import Derived.Shelf.Strconv.Itoa3
import Derived.Shelf.Strings.AsciiSet
import Derived.Shelf.Strings.Builder1
import Derived.Shelf.Strings.Builder2
import Derived.Shelf.Strings.Count
import Derived.Shelf.Strings.Cut
import Derived.Shelf.Strings.OnBuilder
import Derived.Shelf.Strings.Prefix
import Derived.Shelf.Strings.Replace
import Derived.Shelf.Strings.Runes
import Derived.Shelf.Strings.Search1
import Derived.Shelf.Strings.Search2
import Derived.Shelf.Strings.Search3
import Derived.Shelf.Strings.Shaped
import Derived.Shelf.Strings.Split
import Derived.Shelf.Strings.SplitShaped
import Derived.Shelf.Strings.Trim
import Derived.Shelf.Unicode.DecodeSlow
import Derived.Test.YtloamahbghjjgaaGreatDoorProg
import Derived.Test.YtloamahbghjjgaaGreatDoorRows
import Derived.WalkKit
import Derived.WalkLawsBesides
import Derived.WalkSmall
import Derived.WalkSpells
import Derived.Test.YtloamahbghjjgaaGreatDoorZdAA
import Derived.Test.YtloamahbghjjgaaGreatDoorZdAB
import Derived.Test.YtloamahbghjjgaaGreatDoorZdAC
import Derived.Test.YtloamahbghjjgaaGreatDoorZdAE
import Derived.Test.YtloamahbghjjgaaGreatDoorZdAF
namespace Go.Proofs.YtloamahbghjjgaaGreatDoor
open Go.RowKit

end Go.Proofs.YtloamahbghjjgaaGreatDoor

namespace Go.Proofs.YtloamahbghjjgaaGreatDoor
open Go.RowKit

theorem infoA : (Tryz.prog.info? 154).map (·.size) = some 4 := by kernel_rfl
theorem cells_new3 (w : World) (o p : Obj) (t : TypeId) (cs : Array Value) : CellsAt (((w.alloc o).alloc p).alloc (.cells cs t)) (w.heap.size + 2) t cs := by
  unfold CellsAt
  show (((w.heap.push o).push p).push _)[w.heap.size + 2]? = _
  rw [Array.getElem?_push, if_pos (by simp)]
theorem below_al3 (w : World) (o p q : Obj) : Below w.heap.size w (((w.alloc o).alloc p).alloc q) := (below_al2 w o p).alloc (by simp; omega) _
theorem prod_le (x y : Int) (h0 : 0 ≤ x) (h1 : x ≤ 64) (h2 : 0 ≤ y) (h3 : y ≤ 1024) : 0 ≤ x * y ∧ x * y ≤ 65536 :=
  ⟨Int.mul_nonneg h0 h2, by have := Int.mul_le_mul h1 h3 h2 (by omega); omega⟩
set_option maxRecDepth 100000 in
set_option maxHeartbeats 2000000 in
theorem count_val (a b c d : Int) (w : World) (h1 : cellG a b = true) (h2 : cellG c d = true) (h3 : a ≤ c) (h4 : b ≤ d) :
    Calls Tryz.prog 163 #[.agg #[.int .i64 a, .int .i64 b, .int .i64 c, .int .i64 d]] w fun e w' => e = .returned (.int .i64 (areaC a b c d)) ∧ Below w.heap.size w w' := by
  rw [cellG_iff] at h1 h2
  obtain ⟨a1, a2, a3, a4⟩ := h1
  obtain ⟨c1, c2, c3, c4⟩ := h2
  obtain ⟨q1, q2⟩ := prod_le (c - a + 1) (d - b + 1) (by omega) (by omega) (by omega) (by omega)
  unfold areaC
  go_enter Tryz.func163, Tryz.ntmps163
  go_wp2
  go_ret
  exact ⟨rfl, below_al _ _⟩

set_option maxRecDepth 100000 in
set_option maxHeartbeats 2000000 in
theorem areaGood_val (a b c d : Int) (w : World) :
    Calls Tryz.prog 112 #[.agg #[.int .i64 a, .int .i64 b, .int .i64 c, .int .i64 d]] w fun e w' => e = .returned (.bool (areaG a b c d)) ∧ Below w.heap.size w w' := by
  have H1 := hide (fun w => cellGood_val a b w)
  have H2 := hide (fun w => cellGood_val c d w)
  cases g1 : cellG a b
  · rw [g1] at H1
    have E : areaG a b c d = false := by rw [← Bool.not_eq_true, areaG_iff]; rw [g1]; simp
    rw [E]
    clear E
    clear g1
    go_enter Tryz.func112, Tryz.ntmps112
    go_upto_region 1 with fail
    have P := hide (cells_new w 154 #[.int .i64 a, .int .i64 b, .int .i64 c, .int .i64 d])
    have HB : Hid (Below w.heap.size w (w.alloc (.cells #[.int .i64 a, .int .i64 b, .int .i64 c, .int .i64 d] 154))) := hide (below_al _ _)
    generalize hW : w.alloc (.cells #[.int .i64 a, .int .i64 b, .int .i64 c, .int .i64 d] 154) = W0 at P HB ⊢
    clear hW
    obtain ⟨p_0, p_1, p_2, p_3⟩ := cells4 (unhide P)
    go_wp2_with fail
    refine (unhide H1 _).mono ?_
    rintro e wk1 ⟨rfl, bk1⟩
    replace P := hide (cells_nx (unhide P) bk1)
    replace HB := hide (below_nx (unhide HB) bk1)
    clear bk1
    clear p_0 p_1 p_2 p_3
    go_wp2
    go_ret
    exact ⟨rfl, unhide HB⟩
  · rw [g1] at H1
    cases g2 : cellG c d
    · rw [g2] at H2
      have E : areaG a b c d = false := by rw [← Bool.not_eq_true, areaG_iff]; rw [g2]; simp
      rw [E]
      clear E
      clear g1 g2
      go_enter Tryz.func112, Tryz.ntmps112
      go_upto_region 1 with fail
      have P := hide (cells_new w 154 #[.int .i64 a, .int .i64 b, .int .i64 c, .int .i64 d])
      have HB : Hid (Below w.heap.size w (w.alloc (.cells #[.int .i64 a, .int .i64 b, .int .i64 c, .int .i64 d] 154))) := hide (below_al _ _)
      generalize hW : w.alloc (.cells #[.int .i64 a, .int .i64 b, .int .i64 c, .int .i64 d] 154) = W0 at P HB ⊢
      clear hW
      obtain ⟨p_0, p_1, p_2, p_3⟩ := cells4 (unhide P)
      go_wp2_with fail
      refine (unhide H1 _).mono ?_
      rintro e wk1 ⟨rfl, bk1⟩
      replace P := hide (cells_nx (unhide P) bk1)
      replace HB := hide (below_nx (unhide HB) bk1)
      clear bk1
      clear p_0 p_1 p_2 p_3
      obtain ⟨p_0, p_1, p_2, p_3⟩ := cells4 (unhide P)
      go_wp2_with fail
      refine (unhide H2 _).mono ?_
      rintro e wk2 ⟨rfl, bk2⟩
      replace P := hide (cells_nx (unhide P) bk2)
      replace HB := hide (below_nx (unhide HB) bk2)
      clear bk2
      clear p_0 p_1 p_2 p_3
      go_wp2
      go_ret
      exact ⟨rfl, unhide HB⟩
    · rw [g2] at H2
      by_cases h3 : a ≤ c
      · by_cases h4 : b ≤ d
        · have HC := hide (fun w => count_val a b c d w g1 g2 h3 h4)
          have E : areaG a b c d = decide (areaC a b c d ≤ 4096) := by unfold areaG; rw [g1, g2, decide_eq_true h3, decide_eq_true h4]; rfl
          rw [E]
          clear E g1 g2
          generalize areaC a b c d = n at HC ⊢
          go_enter Tryz.func112, Tryz.ntmps112
          go_upto_region 1 with fail
          have P := hide (cells_new w 154 #[.int .i64 a, .int .i64 b, .int .i64 c, .int .i64 d])
          have HB : Hid (Below w.heap.size w (w.alloc (.cells #[.int .i64 a, .int .i64 b, .int .i64 c, .int .i64 d] 154))) := hide (below_al _ _)
          generalize hW : w.alloc (.cells #[.int .i64 a, .int .i64 b, .int .i64 c, .int .i64 d] 154) = W0 at P HB ⊢
          clear hW
          obtain ⟨p_0, p_1, p_2, p_3⟩ := cells4 (unhide P)
          go_wp2_with fail
          refine (unhide H1 _).mono ?_
          rintro e wk1 ⟨rfl, bk1⟩
          replace P := hide (cells_nx (unhide P) bk1)
          replace HB := hide (below_nx (unhide HB) bk1)
          clear bk1
          clear p_0 p_1 p_2 p_3
          obtain ⟨p_0, p_1, p_2, p_3⟩ := cells4 (unhide P)
          go_wp2_with fail
          refine (unhide H2 _).mono ?_
          rintro e wk2 ⟨rfl, bk2⟩
          replace P := hide (cells_nx (unhide P) bk2)
          replace HB := hide (below_nx (unhide HB) bk2)
          clear bk2
          clear p_0 p_1 p_2 p_3
          obtain ⟨p_0, p_1, p_2, p_3⟩ := cells4 (unhide P)
          go_wp2_with fail
          refine (unhide HC _).mono ?_
          rintro e wk3 ⟨rfl, bk3⟩
          replace P := hide (cells_nx (unhide P) bk3)
          replace HB := hide (below_nx (unhide HB) bk3)
          clear bk3
          clear p_0 p_1 p_2 p_3
          go_wp2
          go_ret
          exact ⟨rfl, unhide HB⟩
        · have d4 : decide (d < b) = true := decide_eq_true (by omega)
          have d3 : decide (c < a) = false := decide_eq_false (by omega)
          have E : areaG a b c d = false := by rw [← Bool.not_eq_true, areaG_iff]; omega
          rw [E]
          clear E
          clear g1 g2
          replace h4 : d < b := by omega
          go_enter Tryz.func112, Tryz.ntmps112
          go_upto_region 1 with fail
          have P := hide (cells_new w 154 #[.int .i64 a, .int .i64 b, .int .i64 c, .int .i64 d])
          have HB : Hid (Below w.heap.size w (w.alloc (.cells #[.int .i64 a, .int .i64 b, .int .i64 c, .int .i64 d] 154))) := hide (below_al _ _)
          generalize hW : w.alloc (.cells #[.int .i64 a, .int .i64 b, .int .i64 c, .int .i64 d] 154) = W0 at P HB ⊢
          clear hW
          obtain ⟨p_0, p_1, p_2, p_3⟩ := cells4 (unhide P)
          go_wp2_with fail
          refine (unhide H1 _).mono ?_
          rintro e wk1 ⟨rfl, bk1⟩
          replace P := hide (cells_nx (unhide P) bk1)
          replace HB := hide (below_nx (unhide HB) bk1)
          clear bk1
          clear p_0 p_1 p_2 p_3
          obtain ⟨p_0, p_1, p_2, p_3⟩ := cells4 (unhide P)
          go_wp2_with fail
          refine (unhide H2 _).mono ?_
          rintro e wk2 ⟨rfl, bk2⟩
          replace P := hide (cells_nx (unhide P) bk2)
          replace HB := hide (below_nx (unhide HB) bk2)
          clear bk2
          clear p_0 p_1 p_2 p_3
          obtain ⟨p_0, p_1, p_2, p_3⟩ := cells4 (unhide P)
          go_wp2
          go_ret
          exact ⟨rfl, unhide HB⟩
      · have d3 : decide (c < a) = true := decide_eq_true (by omega)
        have E : areaG a b c d = false := by rw [← Bool.not_eq_true, areaG_iff]; omega
        rw [E]
        clear E
        clear g1 g2
        replace h3 : c < a := by omega
        go_enter Tryz.func112, Tryz.ntmps112
        go_upto_region 1 with fail
        have P := hide (cells_new w 154 #[.int .i64 a, .int .i64 b, .int .i64 c, .int .i64 d])
        have HB : Hid (Below w.heap.size w (w.alloc (.cells #[.int .i64 a, .int .i64 b, .int .i64 c, .int .i64 d] 154))) := hide (below_al _ _)
        generalize hW : w.alloc (.cells #[.int .i64 a, .int .i64 b, .int .i64 c, .int .i64 d] 154) = W0 at P HB ⊢
        clear hW
        obtain ⟨p_0, p_1, p_2, p_3⟩ := cells4 (unhide P)
        go_wp2_with fail
        refine (unhide H1 _).mono ?_
        rintro e wk1 ⟨rfl, bk1⟩
        replace P := hide (cells_nx (unhide P) bk1)
        replace HB := hide (below_nx (unhide HB) bk1)
        clear bk1
        clear p_0 p_1 p_2 p_3
        obtain ⟨p_0, p_1, p_2, p_3⟩ := cells4 (unhide P)
        go_wp2_with fail
        refine (unhide H2 _).mono ?_
        rintro e wk2 ⟨rfl, bk2⟩
        replace P := hide (cells_nx (unhide P) bk2)
        replace HB := hide (below_nx (unhide HB) bk2)
        clear bk2
        clear p_0 p_1 p_2 p_3
        obtain ⟨p_0, p_1, p_2, p_3⟩ := cells4 (unhide P)
        go_wp2
        go_ret
        exact ⟨rfl, unhide HB⟩

end Go.Proofs.YtloamahbghjjgaaGreatDoor

namespace Go.Proofs.YtloamahbghjjgaaGreatDoor
open Go.RowKit

end Go.Proofs.YtloamahbghjjgaaGreatDoor
