/- The contracts of the reference's ParseRef and Area; of the program's areas, but for Cells. -/
import Derived.Test.YtlgmpoofcdkaeaaDoorAdH
namespace Go.Proofs.YtlgmpoofcdkaeaaDoor
open Go.RowKit

theorem infoA : (Tryd.prog.info? 48).map (·.size) = some 4 := by kernel_rfl
theorem cells_new3 (w : World) (o p : Obj) (t : TypeId) (cs : Array Value) : CellsAt (((w.alloc o).alloc p).alloc (.cells cs t)) (w.heap.size + 2) t cs := by
  unfold CellsAt
  show (((w.heap.push o).push p).push _)[w.heap.size + 2]? = _
  rw [Array.getElem?_push, if_pos (by simp)]
theorem below_al3 (w : World) (o p q : Obj) : Below w.heap.size w (((w.alloc o).alloc p).alloc q) := (below_al2 w o p).alloc (by simp; omega) _
theorem prod_le (x y : Int) (h0 : 0 ≤ x) (h1 : x ≤ 64) (h2 : 0 ≤ y) (h3 : y ≤ 1024) : 0 ≤ x * y ∧ x * y ≤ 65536 :=
  ⟨Int.mul_nonneg h0 h2, by have := Int.mul_le_mul h1 h3 h2 (by omega); omega⟩
def hasG (a b c d x y : Int) : Bool := areaG a b c d && (decide (a ≤ x) && (decide (x ≤ c) && (decide (b ≤ y) && decide (y ≤ d))))
def meetB (a b c d a' b' c' d' : Int) : Bool := areaG a b c d && (areaG a' b' c' d' && areaG (max a a') (max b b') (min c c') (min d d'))

set_option maxRecDepth 100000 in
set_option maxHeartbeats 4000000 in
theorem parseRef_ref (s : ByteArray) (w : World) (hs : s.size ≤ 140000000000000) :
    Calls Tryd.prog 27 #[.string s] w fun e w' => e = .returned (.tuple #[.agg (refP s.data.toList).1.cells, .int .i64 (refP s.data.toList).2]) ∧ Below w.heap.size w w' := by
  have HF := hide (fun w => ref1_ref s w hs)
  clear hs
  generalize s.data.toList = l at HF ⊢
  cases hr : ref1B l
  · have e : refP l = (zeroR, 4) := by unfold refP ref1; rw [hr]; rfl
    rw [e]
    rw [hr] at HF
    clear e hr
    generalize formV l = r at HF
    unfold Rf.cells at HF
    go_enter Tryd.func27, Tryd.ntmps27
    go_upto_region 1 with fail
    have P0 := hide (cells_new w 33 #[.int .i64 0, .int .i64 0, .bool false, .bool false])
    have HB := hide (below_al w (.cells #[.int .i64 0, .int .i64 0, .bool false, .bool false] 33))
    generalize hW : w.alloc (.cells #[.int .i64 0, .int .i64 0, .bool false, .bool false] 33) = W0 at P0 HB ⊢
    clear hW
    go_wp2_with fail
    refine (unhide HF _).mono ?_
    rintro e w1 ⟨rfl, b1⟩
    replace P0 := hide (cells_nx (unhide P0) b1)
    replace HB := hide (below_nx (unhide HB) b1)
    clear b1
    go_upto_region 2 with fail
    have P1 := hide (cells_new w1 33 #[.int .i64 r.col, .int .i64 r.row, .bool r.fc, .bool r.fr])
    replace P0 := hide (cells_al (unhide P0) (.cells #[.int .i64 r.col, .int .i64 r.row, .bool r.fc, .bool r.fr] 33))
    replace HB := hide ((unhide HB).alloc (unhide HB).size (.cells #[.int .i64 r.col, .int .i64 r.row, .bool r.fc, .bool r.fr] 33))
    generalize hW : w1.alloc (.cells #[.int .i64 r.col, .int .i64 r.row, .bool r.fc, .bool r.fr] 33) = W1 at P0 P1 HB ⊢
    clear hW
    obtain ⟨x0, x1, x2, x3⟩ := cells4 (unhide P0)
    have h0 := cells_f (unhide P0) 0
    have h1 := cells_f (unhide P0) 1
    have h2 := cells_f (unhide P0) 2
    have h3 := cells_f (unhide P0) 3
    go_wp2
    refine bodyPost_ret (results_c1t rfl _ _ _ _ _ _ rfl (cells_set4 (unhide P0) _ _ _ _) Tryd.underlying33 rfl (by exact infoRR) _ rfl) rfl ?_
    exact ⟨rfl, below_set4 (unhide HB) (Nat.le_refl _) _ _ _ _⟩
  · have e : formV l = ref1V l := by unfold formV; rw [hr]; rfl
    have e2 : refP l = if cellG (ref1V l).col (ref1V l).row = true then (ref1V l, 0) else (zeroR, 3) := by unfold refP ref1; rw [hr]; rfl
    rw [e2]
    rw [e, hr] at HF
    clear e e2 hr
    generalize ref1V l = r at HF ⊢
    have HG := hide (fun w => cell_ref r.col r.row w)
    cases hg : cellG r.col r.row
    · rw [hg] at HG
      clear hg
      unfold Rf.cells at HF
      go_enter Tryd.func27, Tryd.ntmps27
      go_upto_region 1 with fail
      have P0 := hide (cells_new w 33 #[.int .i64 0, .int .i64 0, .bool false, .bool false])
      have HB := hide (below_al w (.cells #[.int .i64 0, .int .i64 0, .bool false, .bool false] 33))
      generalize hW : w.alloc (.cells #[.int .i64 0, .int .i64 0, .bool false, .bool false] 33) = W0 at P0 HB ⊢
      clear hW
      go_wp2_with fail
      refine (unhide HF _).mono ?_
      rintro e w1 ⟨rfl, b1⟩
      replace P0 := hide (cells_nx (unhide P0) b1)
      replace HB := hide (below_nx (unhide HB) b1)
      clear b1
      go_upto_region 2 with fail
      have P1 := hide (cells_new w1 33 #[.int .i64 r.col, .int .i64 r.row, .bool r.fc, .bool r.fr])
      replace P0 := hide (cells_al (unhide P0) (.cells #[.int .i64 r.col, .int .i64 r.row, .bool r.fc, .bool r.fr] 33))
      replace HB := hide ((unhide HB).alloc (unhide HB).size (.cells #[.int .i64 r.col, .int .i64 r.row, .bool r.fc, .bool r.fr] 33))
      generalize hW : w1.alloc (.cells #[.int .i64 r.col, .int .i64 r.row, .bool r.fc, .bool r.fr] 33) = W1 at P0 P1 HB ⊢
      clear hW
      obtain ⟨x0, x1, x2, x3⟩ := cells4 (unhide P0)
      have h0 := cells_f (unhide P0) 0
      have h1 := cells_f (unhide P0) 1
      have h2 := cells_f (unhide P0) 2
      have h3 := cells_f (unhide P0) 3
      obtain ⟨y0, y1, y2, y3⟩ := cells4 (unhide P1)
      go_wp2_with fail
      refine (unhide HG _).mono ?_
      rintro e w2 ⟨rfl, rfl⟩
      go_wp2
      refine bodyPost_ret (results_c1t rfl _ _ _ _ _ _ rfl (cells_set4 (unhide P0) _ _ _ _) Tryd.underlying33 rfl (by exact infoRR) _ rfl) rfl ?_
      exact ⟨rfl, below_set4 (unhide HB) (Nat.le_refl _) _ _ _ _⟩
    · rw [hg] at HG
      clear hg
      unfold Rf.cells at HF ⊢
      go_enter Tryd.func27, Tryd.ntmps27
      go_upto_region 1 with fail
      have P0 := hide (cells_new w 33 #[.int .i64 0, .int .i64 0, .bool false, .bool false])
      have HB := hide (below_al w (.cells #[.int .i64 0, .int .i64 0, .bool false, .bool false] 33))
      generalize hW : w.alloc (.cells #[.int .i64 0, .int .i64 0, .bool false, .bool false] 33) = W0 at P0 HB ⊢
      clear hW
      go_wp2_with fail
      refine (unhide HF _).mono ?_
      rintro e w1 ⟨rfl, b1⟩
      replace P0 := hide (cells_nx (unhide P0) b1)
      replace HB := hide (below_nx (unhide HB) b1)
      clear b1
      go_upto_region 2 with fail
      have P1 := hide (cells_new w1 33 #[.int .i64 r.col, .int .i64 r.row, .bool r.fc, .bool r.fr])
      replace P0 := hide (cells_al (unhide P0) (.cells #[.int .i64 r.col, .int .i64 r.row, .bool r.fc, .bool r.fr] 33))
      replace HB := hide ((unhide HB).alloc (unhide HB).size (.cells #[.int .i64 r.col, .int .i64 r.row, .bool r.fc, .bool r.fr] 33))
      generalize hW : w1.alloc (.cells #[.int .i64 r.col, .int .i64 r.row, .bool r.fc, .bool r.fr] 33) = W1 at P0 P1 HB ⊢
      clear hW
      obtain ⟨x0, x1, x2, x3⟩ := cells4 (unhide P0)
      have h0 := cells_f (unhide P0) 0
      have h1 := cells_f (unhide P0) 1
      have h2 := cells_f (unhide P0) 2
      have h3 := cells_f (unhide P0) 3
      obtain ⟨y0, y1, y2, y3⟩ := cells4 (unhide P1)
      go_wp2_with fail
      refine (unhide HG _).mono ?_
      rintro e w2 ⟨rfl, rfl⟩
      go_wp2
      refine bodyPost_ret (results_c1t rfl _ _ _ _ _ _ rfl (cells_set4 (unhide P0) _ _ _ _) Tryd.underlying33 rfl (by exact infoRR) _ rfl) rfl ?_
      exact ⟨rfl, below_set4 (unhide HB) (Nat.le_refl _) _ _ _ _⟩

set_option maxRecDepth 100000 in
set_option maxHeartbeats 2000000 in
theorem count_val (a b c d : Int) (w : World) (h1 : cellG a b = true) (h2 : cellG c d = true) (h3 : a ≤ c) (h4 : b ≤ d) :
    Calls Tryd.prog 46 #[.agg #[.int .i64 a, .int .i64 b, .int .i64 c, .int .i64 d]] w fun e w' => e = .returned (.int .i64 (areaC a b c d)) ∧ Below w.heap.size w w' := by
  rw [cellG_iff] at h1 h2
  obtain ⟨a1, a2, a3, a4⟩ := h1
  obtain ⟨c1, c2, c3, c4⟩ := h2
  obtain ⟨q1, q2⟩ := prod_le (c - a + 1) (d - b + 1) (by omega) (by omega) (by omega) (by omega)
  unfold areaC
  go_enter Tryd.func46, Tryd.ntmps46
  go_wp2
  go_ret
  exact ⟨rfl, below_al _ _⟩

set_option maxRecDepth 100000 in
set_option maxHeartbeats 2000000 in
theorem areaGood_val (a b c d : Int) (w : World) :
    Calls Tryd.prog 22 #[.agg #[.int .i64 a, .int .i64 b, .int .i64 c, .int .i64 d]] w fun e w' => e = .returned (.bool (areaG a b c d)) ∧ Below w.heap.size w w' := by
  have H1 := hide (fun w => cellGood_val a b w)
  have H2 := hide (fun w => cellGood_val c d w)
  cases g1 : cellG a b
  · rw [g1] at H1
    have E : areaG a b c d = false := by rw [← Bool.not_eq_true, areaG_iff]; rw [g1]; simp
    rw [E]
    clear E
    clear g1
    go_enter Tryd.func22, Tryd.ntmps22
    go_upto_region 1 with fail
    have P := hide (cells_new w 48 #[.int .i64 a, .int .i64 b, .int .i64 c, .int .i64 d])
    have HB : Hid (Below w.heap.size w (w.alloc (.cells #[.int .i64 a, .int .i64 b, .int .i64 c, .int .i64 d] 48))) := hide (below_al _ _)
    generalize hW : w.alloc (.cells #[.int .i64 a, .int .i64 b, .int .i64 c, .int .i64 d] 48) = W0 at P HB ⊢
    clear hW
    obtain ⟨p_0, p_1, p_2, p_3⟩ := cells4 (unhide P)
    go_wp2_with fail
    refine (unhide H1 _).mono ?_
    rintro e wk1 ⟨rfl, bk1⟩
    replace P := hide (cells_nx (unhide P) bk1)
    replace HB := hide (below_nx (unhide HB) bk1)
    clear bk1
    clear p_0 p_1 p_2 p_3
    go_wp2
    go_ret
    exact ⟨rfl, unhide HB⟩
  · rw [g1] at H1
    cases g2 : cellG c d
    · rw [g2] at H2
      have E : areaG a b c d = false := by rw [← Bool.not_eq_true, areaG_iff]; rw [g2]; simp
      rw [E]
      clear E
      clear g1 g2
      go_enter Tryd.func22, Tryd.ntmps22
      go_upto_region 1 with fail
      have P := hide (cells_new w 48 #[.int .i64 a, .int .i64 b, .int .i64 c, .int .i64 d])
      have HB : Hid (Below w.heap.size w (w.alloc (.cells #[.int .i64 a, .int .i64 b, .int .i64 c, .int .i64 d] 48))) := hide (below_al _ _)
      generalize hW : w.alloc (.cells #[.int .i64 a, .int .i64 b, .int .i64 c, .int .i64 d] 48) = W0 at P HB ⊢
      clear hW
      obtain ⟨p_0, p_1, p_2, p_3⟩ := cells4 (unhide P)
      go_wp2_with fail
      refine (unhide H1 _).mono ?_
      rintro e wk1 ⟨rfl, bk1⟩
      replace P := hide (cells_nx (unhide P) bk1)
      replace HB := hide (below_nx (unhide HB) bk1)
      clear bk1
      clear p_0 p_1 p_2 p_3
      obtain ⟨p_0, p_1, p_2, p_3⟩ := cells4 (unhide P)
      go_wp2_with fail
      refine (unhide H2 _).mono ?_
      rintro e wk2 ⟨rfl, bk2⟩
      replace P := hide (cells_nx (unhide P) bk2)
      replace HB := hide (below_nx (unhide HB) bk2)
      clear bk2
      clear p_0 p_1 p_2 p_3
      go_wp2
      go_ret
      exact ⟨rfl, unhide HB⟩
    · rw [g2] at H2
      by_cases h3 : a ≤ c
      · by_cases h4 : b ≤ d
        · have HC := hide (fun w => count_val a b c d w g1 g2 h3 h4)
          have E : areaG a b c d = decide (areaC a b c d ≤ 4096) := by unfold areaG; rw [g1, g2, decide_eq_true h3, decide_eq_true h4]; rfl
          rw [E]
          clear E g1 g2
          generalize areaC a b c d = n at HC ⊢
          go_enter Tryd.func22, Tryd.ntmps22
          go_upto_region 1 with fail
          have P := hide (cells_new w 48 #[.int .i64 a, .int .i64 b, .int .i64 c, .int .i64 d])
          have HB : Hid (Below w.heap.size w (w.alloc (.cells #[.int .i64 a, .int .i64 b, .int .i64 c, .int .i64 d] 48))) := hide (below_al _ _)
          generalize hW : w.alloc (.cells #[.int .i64 a, .int .i64 b, .int .i64 c, .int .i64 d] 48) = W0 at P HB ⊢
          clear hW
          obtain ⟨p_0, p_1, p_2, p_3⟩ := cells4 (unhide P)
          go_wp2_with fail
          refine (unhide H1 _).mono ?_
          rintro e wk1 ⟨rfl, bk1⟩
          replace P := hide (cells_nx (unhide P) bk1)
          replace HB := hide (below_nx (unhide HB) bk1)
          clear bk1
          clear p_0 p_1 p_2 p_3
          obtain ⟨p_0, p_1, p_2, p_3⟩ := cells4 (unhide P)
          go_wp2_with fail
          refine (unhide H2 _).mono ?_
          rintro e wk2 ⟨rfl, bk2⟩
          replace P := hide (cells_nx (unhide P) bk2)
          replace HB := hide (below_nx (unhide HB) bk2)
          clear bk2
          clear p_0 p_1 p_2 p_3
          obtain ⟨p_0, p_1, p_2, p_3⟩ := cells4 (unhide P)
          go_wp2_with fail
          refine (unhide HC _).mono ?_
          rintro e wk3 ⟨rfl, bk3⟩
          replace P := hide (cells_nx (unhide P) bk3)
          replace HB := hide (below_nx (unhide HB) bk3)
          clear bk3
          clear p_0 p_1 p_2 p_3
          go_wp2
          go_ret
          exact ⟨rfl, unhide HB⟩
        · have d4 : decide (d < b) = true := decide_eq_true (by omega)
          have d3 : decide (c < a) = false := decide_eq_false (by omega)
          have E : areaG a b c d = false := by rw [← Bool.not_eq_true, areaG_iff]; omega
          rw [E]
          clear E
          clear g1 g2
          replace h4 : d < b := by omega
          go_enter Tryd.func22, Tryd.ntmps22
          go_upto_region 1 with fail
          have P := hide (cells_new w 48 #[.int .i64 a, .int .i64 b, .int .i64 c, .int .i64 d])
          have HB : Hid (Below w.heap.size w (w.alloc (.cells #[.int .i64 a, .int .i64 b, .int .i64 c, .int .i64 d] 48))) := hide (below_al _ _)
          generalize hW : w.alloc (.cells #[.int .i64 a, .int .i64 b, .int .i64 c, .int .i64 d] 48) = W0 at P HB ⊢
          clear hW
          obtain ⟨p_0, p_1, p_2, p_3⟩ := cells4 (unhide P)
          go_wp2_with fail
          refine (unhide H1 _).mono ?_
          rintro e wk1 ⟨rfl, bk1⟩
          replace P := hide (cells_nx (unhide P) bk1)
          replace HB := hide (below_nx (unhide HB) bk1)
          clear bk1
          clear p_0 p_1 p_2 p_3
          obtain ⟨p_0, p_1, p_2, p_3⟩ := cells4 (unhide P)
          go_wp2_with fail
          refine (unhide H2 _).mono ?_
          rintro e wk2 ⟨rfl, bk2⟩
          replace P := hide (cells_nx (unhide P) bk2)
          replace HB := hide (below_nx (unhide HB) bk2)
          clear bk2
          clear p_0 p_1 p_2 p_3
          obtain ⟨p_0, p_1, p_2, p_3⟩ := cells4 (unhide P)
          go_wp2
          go_ret
          exact ⟨rfl, unhide HB⟩
      · have d3 : decide (c < a) = true := decide_eq_true (by omega)
        have E : areaG a b c d = false := by rw [← Bool.not_eq_true, areaG_iff]; omega
        rw [E]
        clear E
        clear g1 g2
        replace h3 : c < a := by omega
        go_enter Tryd.func22, Tryd.ntmps22
        go_upto_region 1 with fail
        have P := hide (cells_new w 48 #[.int .i64 a, .int .i64 b, .int .i64 c, .int .i64 d])
        have HB : Hid (Below w.heap.size w (w.alloc (.cells #[.int .i64 a, .int .i64 b, .int .i64 c, .int .i64 d] 48))) := hide (below_al _ _)
        generalize hW : w.alloc (.cells #[.int .i64 a, .int .i64 b, .int .i64 c, .int .i64 d] 48) = W0 at P HB ⊢
        clear hW
        obtain ⟨p_0, p_1, p_2, p_3⟩ := cells4 (unhide P)
        go_wp2_with fail
        refine (unhide H1 _).mono ?_
        rintro e wk1 ⟨rfl, bk1⟩
        replace P := hide (cells_nx (unhide P) bk1)
        replace HB := hide (below_nx (unhide HB) bk1)
        clear bk1
        clear p_0 p_1 p_2 p_3
        obtain ⟨p_0, p_1, p_2, p_3⟩ := cells4 (unhide P)
        go_wp2_with fail
        refine (unhide H2 _).mono ?_
        rintro e wk2 ⟨rfl, bk2⟩
        replace P := hide (cells_nx (unhide P) bk2)
        replace HB := hide (below_nx (unhide HB) bk2)
        clear bk2
        clear p_0 p_1 p_2 p_3
        obtain ⟨p_0, p_1, p_2, p_3⟩ := cells4 (unhide P)
        go_wp2
        go_ret
        exact ⟨rfl, unhide HB⟩

set_option maxRecDepth 100000 in
set_option maxHeartbeats 2000000 in
theorem size_val (a b c d : Int) (w : World) :
    Calls Tryd.prog 24 #[.agg #[.int .i64 a, .int .i64 b, .int .i64 c, .int .i64 d]] w fun e w' => e = .returned (.int .i64 (areaN a b c d)) ∧ Below w.heap.size w w' := by
  have HG := hide (fun w => areaGood_val a b c d w)
  unfold areaN
  cases g : areaG a b c d
  · rw [g] at HG
    clear g
    rw [if_neg (by simp)]
    go_enter Tryd.func24, Tryd.ntmps24
    go_upto_region 1 with fail
    have P := hide (cells_new w 48 #[.int .i64 a, .int .i64 b, .int .i64 c, .int .i64 d])
    have HB : Hid (Below w.heap.size w (w.alloc (.cells #[.int .i64 a, .int .i64 b, .int .i64 c, .int .i64 d] 48))) := hide (below_al _ _)
    generalize hW : w.alloc (.cells #[.int .i64 a, .int .i64 b, .int .i64 c, .int .i64 d] 48) = W0 at P HB ⊢
    clear hW
    obtain ⟨p_0, p_1, p_2, p_3⟩ := cells4 (unhide P)
    go_wp2_with fail
    refine (unhide HG _).mono ?_
    rintro e wk1 ⟨rfl, bk1⟩
    replace P := hide (cells_nx (unhide P) bk1)
    replace HB := hide (below_nx (unhide HB) bk1)
    clear bk1
    clear p_0 p_1 p_2 p_3
    go_wp2
    go_ret
    exact ⟨rfl, unhide HB⟩
  · rw [g] at HG
    rw [if_pos rfl]
    obtain ⟨g1, g2, g3, g4, _⟩ := (areaG_iff _ _ _ _).1 g
    have HC := hide (fun w => count_val a b c d w g1 g2 g3 g4)
    clear g g1 g2
    generalize areaC a b c d = n at HC ⊢
    go_enter Tryd.func24, Tryd.ntmps24
    go_upto_region 1 with fail
    have P := hide (cells_new w 48 #[.int .i64 a, .int .i64 b, .int .i64 c, .int .i64 d])
    have HB : Hid (Below w.heap.size w (w.alloc (.cells #[.int .i64 a, .int .i64 b, .int .i64 c, .int .i64 d] 48))) := hide (below_al _ _)
    generalize hW : w.alloc (.cells #[.int .i64 a, .int .i64 b, .int .i64 c, .int .i64 d] 48) = W0 at P HB ⊢
    clear hW
    obtain ⟨p_0, p_1, p_2, p_3⟩ := cells4 (unhide P)
    go_wp2_with fail
    refine (unhide HG _).mono ?_
    rintro e wk1 ⟨rfl, bk1⟩
    replace P := hide (cells_nx (unhide P) bk1)
    replace HB := hide (below_nx (unhide HB) bk1)
    clear bk1
    clear p_0 p_1 p_2 p_3
    obtain ⟨p_0, p_1, p_2, p_3⟩ := cells4 (unhide P)
    go_wp2_with fail
    refine (unhide HC _).mono ?_
    rintro e wk2 ⟨rfl, bk2⟩
    replace P := hide (cells_nx (unhide P) bk2)
    replace HB := hide (below_nx (unhide HB) bk2)
    clear bk2
    clear p_0 p_1 p_2 p_3
    go_wp2
    go_ret
    exact ⟨rfl, unhide HB⟩

set_option maxRecDepth 100000 in
set_option maxHeartbeats 2000000 in
theorem has_val (a b c d x y : Int) (w : World) :
    Calls Tryd.prog 25 #[.agg #[.int .i64 a, .int .i64 b, .int .i64 c, .int .i64 d], .agg #[.int .i64 x, .int .i64 y]] w fun e w' => e = .returned (.bool (hasG a b c d x y)) ∧ Below w.heap.size w w' := by
  have HG := hide (fun w => areaGood_val a b c d w)
  unfold hasG
  cases g : areaG a b c d
  · rw [g] at HG
    clear g
    rw [Bool.false_and]
    go_enter Tryd.func25, Tryd.ntmps25
    go_upto_region 1 with fail
    have P := hide (cells_al (cells_new w 48 #[.int .i64 a, .int .i64 b, .int .i64 c, .int .i64 d]) (.cells #[.int .i64 x, .int .i64 y] 27))
    have Q := hide (cells_new2 w (.cells #[.int .i64 a, .int .i64 b, .int .i64 c, .int .i64 d] 48) 27 #[.int .i64 x, .int .i64 y])
    have HB : Hid (Below w.heap.size w ((w.alloc (.cells #[.int .i64 a, .int .i64 b, .int .i64 c, .int .i64 d] 48)).alloc (.cells #[.int .i64 x, .int .i64 y] 27))) := hide (below_al2 _ _ _)
    generalize hW : (w.alloc (.cells #[.int .i64 a, .int .i64 b, .int .i64 c, .int .i64 d] 48)).alloc (.cells #[.int .i64 x, .int .i64 y] 27) = W0 at P Q HB ⊢
    clear hW
    obtain ⟨p_0, p_1, p_2, p_3⟩ := cells4 (unhide P)
    go_wp2_with fail
    refine (unhide HG _).mono ?_
    rintro e wk1 ⟨rfl, bk1⟩
    replace P := hide (cells_nx (unhide P) bk1)
    replace Q := hide (cells_nx (unhide Q) bk1)
    replace HB := hide (below_nx (unhide HB) bk1)
    clear bk1
    clear p_0 p_1 p_2 p_3
    go_wp2
    go_ret
    exact ⟨rfl, unhide HB⟩
  · rw [g] at HG
    clear g
    rw [Bool.true_and]
    by_cases h1 : a ≤ x
    · rw [decide_eq_true h1]
      by_cases h2 : x ≤ c
      · rw [decide_eq_true h2]
        by_cases h3 : b ≤ y
        · rw [decide_eq_true h3]
          by_cases h4 : y ≤ d
          · rw [decide_eq_true h4]
            go_enter Tryd.func25, Tryd.ntmps25
            go_upto_region 1 with fail
            have P := hide (cells_al (cells_new w 48 #[.int .i64 a, .int .i64 b, .int .i64 c, .int .i64 d]) (.cells #[.int .i64 x, .int .i64 y] 27))
            have Q := hide (cells_new2 w (.cells #[.int .i64 a, .int .i64 b, .int .i64 c, .int .i64 d] 48) 27 #[.int .i64 x, .int .i64 y])
            have HB : Hid (Below w.heap.size w ((w.alloc (.cells #[.int .i64 a, .int .i64 b, .int .i64 c, .int .i64 d] 48)).alloc (.cells #[.int .i64 x, .int .i64 y] 27))) := hide (below_al2 _ _ _)
            generalize hW : (w.alloc (.cells #[.int .i64 a, .int .i64 b, .int .i64 c, .int .i64 d] 48)).alloc (.cells #[.int .i64 x, .int .i64 y] 27) = W0 at P Q HB ⊢
            clear hW
            obtain ⟨p_0, p_1, p_2, p_3⟩ := cells4 (unhide P)
            go_wp2_with fail
            refine (unhide HG _).mono ?_
            rintro e wk1 ⟨rfl, bk1⟩
            replace P := hide (cells_nx (unhide P) bk1)
            replace Q := hide (cells_nx (unhide Q) bk1)
            replace HB := hide (below_nx (unhide HB) bk1)
            clear bk1
            clear p_0 p_1 p_2 p_3
            obtain ⟨p_0, p_1, p_2, p_3⟩ := cells4 (unhide P)
            obtain ⟨q_0, q_1⟩ := cells2 (unhide Q)
            go_wp2
            go_ret
            exact ⟨rfl, unhide HB⟩
          · rw [decide_eq_false h4]
            have h4d : decide (y ≤ d) = false := decide_eq_false h4
            replace h4 : d < y := by omega
            go_enter Tryd.func25, Tryd.ntmps25
            go_upto_region 1 with fail
            have P := hide (cells_al (cells_new w 48 #[.int .i64 a, .int .i64 b, .int .i64 c, .int .i64 d]) (.cells #[.int .i64 x, .int .i64 y] 27))
            have Q := hide (cells_new2 w (.cells #[.int .i64 a, .int .i64 b, .int .i64 c, .int .i64 d] 48) 27 #[.int .i64 x, .int .i64 y])
            have HB : Hid (Below w.heap.size w ((w.alloc (.cells #[.int .i64 a, .int .i64 b, .int .i64 c, .int .i64 d] 48)).alloc (.cells #[.int .i64 x, .int .i64 y] 27))) := hide (below_al2 _ _ _)
            generalize hW : (w.alloc (.cells #[.int .i64 a, .int .i64 b, .int .i64 c, .int .i64 d] 48)).alloc (.cells #[.int .i64 x, .int .i64 y] 27) = W0 at P Q HB ⊢
            clear hW
            obtain ⟨p_0, p_1, p_2, p_3⟩ := cells4 (unhide P)
            go_wp2_with fail
            refine (unhide HG _).mono ?_
            rintro e wk1 ⟨rfl, bk1⟩
            replace P := hide (cells_nx (unhide P) bk1)
            replace Q := hide (cells_nx (unhide Q) bk1)
            replace HB := hide (below_nx (unhide HB) bk1)
            clear bk1
            clear p_0 p_1 p_2 p_3
            obtain ⟨p_0, p_1, p_2, p_3⟩ := cells4 (unhide P)
            obtain ⟨q_0, q_1⟩ := cells2 (unhide Q)
            go_wp2
            go_ret
            exact ⟨rfl, unhide HB⟩
        · rw [decide_eq_false h3]
          have h3d : decide (b ≤ y) = false := decide_eq_false h3
          replace h3 : y < b := by omega
          have hz : ∀ b : Bool, (false && b) = false := fun _ => rfl
          rw [hz]
          clear hz
          go_enter Tryd.func25, Tryd.ntmps25
          go_upto_region 1 with fail
          have P := hide (cells_al (cells_new w 48 #[.int .i64 a, .int .i64 b, .int .i64 c, .int .i64 d]) (.cells #[.int .i64 x, .int .i64 y] 27))
          have Q := hide (cells_new2 w (.cells #[.int .i64 a, .int .i64 b, .int .i64 c, .int .i64 d] 48) 27 #[.int .i64 x, .int .i64 y])
          have HB : Hid (Below w.heap.size w ((w.alloc (.cells #[.int .i64 a, .int .i64 b, .int .i64 c, .int .i64 d] 48)).alloc (.cells #[.int .i64 x, .int .i64 y] 27))) := hide (below_al2 _ _ _)
          generalize hW : (w.alloc (.cells #[.int .i64 a, .int .i64 b, .int .i64 c, .int .i64 d] 48)).alloc (.cells #[.int .i64 x, .int .i64 y] 27) = W0 at P Q HB ⊢
          clear hW
          obtain ⟨p_0, p_1, p_2, p_3⟩ := cells4 (unhide P)
          go_wp2_with fail
          refine (unhide HG _).mono ?_
          rintro e wk1 ⟨rfl, bk1⟩
          replace P := hide (cells_nx (unhide P) bk1)
          replace Q := hide (cells_nx (unhide Q) bk1)
          replace HB := hide (below_nx (unhide HB) bk1)
          clear bk1
          clear p_0 p_1 p_2 p_3
          obtain ⟨p_0, p_1, p_2, p_3⟩ := cells4 (unhide P)
          obtain ⟨q_0, q_1⟩ := cells2 (unhide Q)
          go_wp2
          go_ret
          exact ⟨rfl, unhide HB⟩
      · rw [decide_eq_false h2]
        have h2d : decide (x ≤ c) = false := decide_eq_false h2
        replace h2 : c < x := by omega
        have hz : ∀ b : Bool, (false && b) = false := fun _ => rfl
        rw [hz]
        clear hz
        go_enter Tryd.func25, Tryd.ntmps25
        go_upto_region 1 with fail
        have P := hide (cells_al (cells_new w 48 #[.int .i64 a, .int .i64 b, .int .i64 c, .int .i64 d]) (.cells #[.int .i64 x, .int .i64 y] 27))
        have Q := hide (cells_new2 w (.cells #[.int .i64 a, .int .i64 b, .int .i64 c, .int .i64 d] 48) 27 #[.int .i64 x, .int .i64 y])
        have HB : Hid (Below w.heap.size w ((w.alloc (.cells #[.int .i64 a, .int .i64 b, .int .i64 c, .int .i64 d] 48)).alloc (.cells #[.int .i64 x, .int .i64 y] 27))) := hide (below_al2 _ _ _)
        generalize hW : (w.alloc (.cells #[.int .i64 a, .int .i64 b, .int .i64 c, .int .i64 d] 48)).alloc (.cells #[.int .i64 x, .int .i64 y] 27) = W0 at P Q HB ⊢
        clear hW
        obtain ⟨p_0, p_1, p_2, p_3⟩ := cells4 (unhide P)
        go_wp2_with fail
        refine (unhide HG _).mono ?_
        rintro e wk1 ⟨rfl, bk1⟩
        replace P := hide (cells_nx (unhide P) bk1)
        replace Q := hide (cells_nx (unhide Q) bk1)
        replace HB := hide (below_nx (unhide HB) bk1)
        clear bk1
        clear p_0 p_1 p_2 p_3
        obtain ⟨p_0, p_1, p_2, p_3⟩ := cells4 (unhide P)
        obtain ⟨q_0, q_1⟩ := cells2 (unhide Q)
        go_wp2
        go_ret
        exact ⟨rfl, unhide HB⟩
    · rw [decide_eq_false h1]
      have h1d : decide (a ≤ x) = false := decide_eq_false h1
      replace h1 : x < a := by omega
      have hz : ∀ b : Bool, (false && b) = false := fun _ => rfl
      rw [hz]
      clear hz
      go_enter Tryd.func25, Tryd.ntmps25
      go_upto_region 1 with fail
      have P := hide (cells_al (cells_new w 48 #[.int .i64 a, .int .i64 b, .int .i64 c, .int .i64 d]) (.cells #[.int .i64 x, .int .i64 y] 27))
      have Q := hide (cells_new2 w (.cells #[.int .i64 a, .int .i64 b, .int .i64 c, .int .i64 d] 48) 27 #[.int .i64 x, .int .i64 y])
      have HB : Hid (Below w.heap.size w ((w.alloc (.cells #[.int .i64 a, .int .i64 b, .int .i64 c, .int .i64 d] 48)).alloc (.cells #[.int .i64 x, .int .i64 y] 27))) := hide (below_al2 _ _ _)
      generalize hW : (w.alloc (.cells #[.int .i64 a, .int .i64 b, .int .i64 c, .int .i64 d] 48)).alloc (.cells #[.int .i64 x, .int .i64 y] 27) = W0 at P Q HB ⊢
      clear hW
      obtain ⟨p_0, p_1, p_2, p_3⟩ := cells4 (unhide P)
      go_wp2_with fail
      refine (unhide HG _).mono ?_
      rintro e wk1 ⟨rfl, bk1⟩
      replace P := hide (cells_nx (unhide P) bk1)
      replace Q := hide (cells_nx (unhide Q) bk1)
      replace HB := hide (below_nx (unhide HB) bk1)
      clear bk1
      clear p_0 p_1 p_2 p_3
      obtain ⟨p_0, p_1, p_2, p_3⟩ := cells4 (unhide P)
      obtain ⟨q_0, q_1⟩ := cells2 (unhide Q)
      go_wp2
      go_ret
      exact ⟨rfl, unhide HB⟩

set_option maxRecDepth 100000 in
set_option maxHeartbeats 2000000 in
theorem between_val (a b c d : Int) (w : World) :
    Calls Tryd.prog 32 #[.agg #[.int .i64 a, .int .i64 b], .agg #[.int .i64 c, .int .i64 d]] w fun e w' => e = .returned (.agg #[.int .i64 (min a c), .int .i64 (min b d), .int .i64 (max a c), .int .i64 (max b d)]) ∧ Below w.heap.size w w' := by
  go_enter Tryd.func32, Tryd.ntmps32
  go_wp2
  refine bodyPost_ret (results_c1 rfl _ _ _ _ _ _ rfl (cells_new3 _ _ _ _ _) Tryd.underlying48 rfl (by exact infoA)) rfl ?_
  exact ⟨rfl, below_al3 _ _ _ _⟩
end Go.Proofs.YtlgmpoofcdkaeaaDoor
