/- The contracts of Meet, and of the reference's Area. -/
import Derived.Test.YtlgmpoofcdkaeaaDoorAdI
namespace Go.Proofs.YtlgmpoofcdkaeaaDoor
open Go.RowKit

set_option maxRecDepth 100000 in
set_option maxHeartbeats 4000000 in
theorem meet_val (a b c d a' b' c' d' : Int) (w : World) :
    Calls Tryd.prog 33 #[.agg #[.int .i64 a, .int .i64 b, .int .i64 c, .int .i64 d], .agg #[.int .i64 a', .int .i64 b', .int .i64 c', .int .i64 d']] w fun e w' => e = .returned (.tuple #[.agg (if meetB a b c d a' b' c' d' = true then #[.int .i64 (max a a'), .int .i64 (max b b'), .int .i64 (min c c'), .int .i64 (min d d')] else #[.int .i64 0, .int .i64 0, .int .i64 0, .int .i64 0]), .bool (meetB a b c d a' b' c' d')]) ∧ Below w.heap.size w w' := by
  have H1 := hide (fun w => areaGood_val a b c d w)
  have H2 := hide (fun w => areaGood_val a' b' c' d' w)
  have H3 := hide (fun w => areaGood_val (max a a') (max b b') (min c c') (min d d') w)
  cases g1 : areaG a b c d
  · have E : meetB a b c d a' b' c' d' = false := by unfold meetB; rw [g1]; rfl
    rw [E]
    clear E
    rw [if_neg (by simp)]
    rw [g1] at H1
    clear g1
    go_enter Tryd.func33, Tryd.ntmps33
    go_upto_region 1 with fail
    have P := hide (cells_al (cells_al (cells_new w 48 #[.int .i64 a, .int .i64 b, .int .i64 c, .int .i64 d]) (.cells #[.int .i64 a', .int .i64 b', .int .i64 c', .int .i64 d'] 48)) (.cells #[.int .i64 0, .int .i64 0, .int .i64 0, .int .i64 0] 48))
    have Q := hide (cells_al (cells_new2 w (.cells #[.int .i64 a, .int .i64 b, .int .i64 c, .int .i64 d] 48) 48 #[.int .i64 a', .int .i64 b', .int .i64 c', .int .i64 d']) (.cells #[.int .i64 0, .int .i64 0, .int .i64 0, .int .i64 0] 48))
    have R := hide (cells_new3 w (.cells #[.int .i64 a, .int .i64 b, .int .i64 c, .int .i64 d] 48) (.cells #[.int .i64 a', .int .i64 b', .int .i64 c', .int .i64 d'] 48) 48 #[.int .i64 0, .int .i64 0, .int .i64 0, .int .i64 0])
    have HB : Hid (Below w.heap.size w (((w.alloc (.cells #[.int .i64 a, .int .i64 b, .int .i64 c, .int .i64 d] 48)).alloc (.cells #[.int .i64 a', .int .i64 b', .int .i64 c', .int .i64 d'] 48)).alloc (.cells #[.int .i64 0, .int .i64 0, .int .i64 0, .int .i64 0] 48))) := hide (below_al3 _ _ _ _)
    generalize hW : ((w.alloc (.cells #[.int .i64 a, .int .i64 b, .int .i64 c, .int .i64 d] 48)).alloc (.cells #[.int .i64 a', .int .i64 b', .int .i64 c', .int .i64 d'] 48)).alloc (.cells #[.int .i64 0, .int .i64 0, .int .i64 0, .int .i64 0] 48) = W0 at P Q R HB ⊢
    clear hW
    obtain ⟨p_0, p_1, p_2, p_3⟩ := cells4 (unhide P)
    go_wp2_with fail
    refine (unhide H1 _).mono ?_
    rintro e wk1 ⟨rfl, bk1⟩
    replace P := hide (cells_nx (unhide P) bk1)
    replace Q := hide (cells_nx (unhide Q) bk1)
    replace R := hide (cells_nx (unhide R) bk1)
    replace HB := hide (below_nx (unhide HB) bk1)
    clear bk1
    clear p_0 p_1 p_2 p_3
    obtain ⟨r_0, r_1, r_2, r_3⟩ := cells4 (unhide R)
    have fz_r_0 := cells_f (unhide R) 0
    have fz_r_1 := cells_f (unhide R) 1
    have fz_r_2 := cells_f (unhide R) 2
    have fz_r_3 := cells_f (unhide R) 3
    go_wp2
    refine bodyPost_ret (results_c1t rfl _ _ _ _ _ _ rfl (cells_set4 (unhide R) _ _ _ _) Tryd.underlying48 rfl (by exact infoA) _ rfl) rfl ?_
    exact ⟨rfl, below_set4 (unhide HB) (by omega) _ _ _ _⟩
  · cases g2 : areaG a' b' c' d'
    · have E : meetB a b c d a' b' c' d' = false := by unfold meetB; rw [g1, g2]; rfl
      rw [E]
      clear E
      rw [if_neg (by simp)]
      rw [g1] at H1
      rw [g2] at H2
      clear g1 g2
      go_enter Tryd.func33, Tryd.ntmps33
      go_upto_region 1 with fail
      have P := hide (cells_al (cells_al (cells_new w 48 #[.int .i64 a, .int .i64 b, .int .i64 c, .int .i64 d]) (.cells #[.int .i64 a', .int .i64 b', .int .i64 c', .int .i64 d'] 48)) (.cells #[.int .i64 0, .int .i64 0, .int .i64 0, .int .i64 0] 48))
      have Q := hide (cells_al (cells_new2 w (.cells #[.int .i64 a, .int .i64 b, .int .i64 c, .int .i64 d] 48) 48 #[.int .i64 a', .int .i64 b', .int .i64 c', .int .i64 d']) (.cells #[.int .i64 0, .int .i64 0, .int .i64 0, .int .i64 0] 48))
      have R := hide (cells_new3 w (.cells #[.int .i64 a, .int .i64 b, .int .i64 c, .int .i64 d] 48) (.cells #[.int .i64 a', .int .i64 b', .int .i64 c', .int .i64 d'] 48) 48 #[.int .i64 0, .int .i64 0, .int .i64 0, .int .i64 0])
      have HB : Hid (Below w.heap.size w (((w.alloc (.cells #[.int .i64 a, .int .i64 b, .int .i64 c, .int .i64 d] 48)).alloc (.cells #[.int .i64 a', .int .i64 b', .int .i64 c', .int .i64 d'] 48)).alloc (.cells #[.int .i64 0, .int .i64 0, .int .i64 0, .int .i64 0] 48))) := hide (below_al3 _ _ _ _)
      generalize hW : ((w.alloc (.cells #[.int .i64 a, .int .i64 b, .int .i64 c, .int .i64 d] 48)).alloc (.cells #[.int .i64 a', .int .i64 b', .int .i64 c', .int .i64 d'] 48)).alloc (.cells #[.int .i64 0, .int .i64 0, .int .i64 0, .int .i64 0] 48) = W0 at P Q R HB ⊢
      clear hW
      obtain ⟨p_0, p_1, p_2, p_3⟩ := cells4 (unhide P)
      go_wp2_with fail
      refine (unhide H1 _).mono ?_
      rintro e wk1 ⟨rfl, bk1⟩
      replace P := hide (cells_nx (unhide P) bk1)
      replace Q := hide (cells_nx (unhide Q) bk1)
      replace R := hide (cells_nx (unhide R) bk1)
      replace HB := hide (below_nx (unhide HB) bk1)
      clear bk1
      clear p_0 p_1 p_2 p_3
      obtain ⟨q_0, q_1, q_2, q_3⟩ := cells4 (unhide Q)
      go_wp2_with fail
      refine (unhide H2 _).mono ?_
      rintro e wk2 ⟨rfl, bk2⟩
      replace P := hide (cells_nx (unhide P) bk2)
      replace Q := hide (cells_nx (unhide Q) bk2)
      replace R := hide (cells_nx (unhide R) bk2)
      replace HB := hide (below_nx (unhide HB) bk2)
      clear bk2
      clear q_0 q_1 q_2 q_3
      obtain ⟨r_0, r_1, r_2, r_3⟩ := cells4 (unhide R)
      have fz_r_0 := cells_f (unhide R) 0
      have fz_r_1 := cells_f (unhide R) 1
      have fz_r_2 := cells_f (unhide R) 2
      have fz_r_3 := cells_f (unhide R) 3
      go_wp2
      refine bodyPost_ret (results_c1t rfl _ _ _ _ _ _ rfl (cells_set4 (unhide R) _ _ _ _) Tryd.underlying48 rfl (by exact infoA) _ rfl) rfl ?_
      exact ⟨rfl, below_set4 (unhide HB) (by omega) _ _ _ _⟩
    · cases g3 : areaG (max a a') (max b b') (min c c') (min d d')
      · have E : meetB a b c d a' b' c' d' = false := by unfold meetB; rw [g1, g2, g3]; rfl
        rw [E]
        clear E
        rw [if_neg (by simp)]
        rw [g1] at H1
        rw [g2] at H2
        rw [g3] at H3
        clear g1 g2 g3
        go_enter Tryd.func33, Tryd.ntmps33
        go_upto_region 1 with fail
        have P := hide (cells_al (cells_al (cells_new w 48 #[.int .i64 a, .int .i64 b, .int .i64 c, .int .i64 d]) (.cells #[.int .i64 a', .int .i64 b', .int .i64 c', .int .i64 d'] 48)) (.cells #[.int .i64 0, .int .i64 0, .int .i64 0, .int .i64 0] 48))
        have Q := hide (cells_al (cells_new2 w (.cells #[.int .i64 a, .int .i64 b, .int .i64 c, .int .i64 d] 48) 48 #[.int .i64 a', .int .i64 b', .int .i64 c', .int .i64 d']) (.cells #[.int .i64 0, .int .i64 0, .int .i64 0, .int .i64 0] 48))
        have R := hide (cells_new3 w (.cells #[.int .i64 a, .int .i64 b, .int .i64 c, .int .i64 d] 48) (.cells #[.int .i64 a', .int .i64 b', .int .i64 c', .int .i64 d'] 48) 48 #[.int .i64 0, .int .i64 0, .int .i64 0, .int .i64 0])
        have HB : Hid (Below w.heap.size w (((w.alloc (.cells #[.int .i64 a, .int .i64 b, .int .i64 c, .int .i64 d] 48)).alloc (.cells #[.int .i64 a', .int .i64 b', .int .i64 c', .int .i64 d'] 48)).alloc (.cells #[.int .i64 0, .int .i64 0, .int .i64 0, .int .i64 0] 48))) := hide (below_al3 _ _ _ _)
        generalize hW : ((w.alloc (.cells #[.int .i64 a, .int .i64 b, .int .i64 c, .int .i64 d] 48)).alloc (.cells #[.int .i64 a', .int .i64 b', .int .i64 c', .int .i64 d'] 48)).alloc (.cells #[.int .i64 0, .int .i64 0, .int .i64 0, .int .i64 0] 48) = W0 at P Q R HB ⊢
        clear hW
        obtain ⟨p_0, p_1, p_2, p_3⟩ := cells4 (unhide P)
        go_wp2_with fail
        refine (unhide H1 _).mono ?_
        rintro e wk1 ⟨rfl, bk1⟩
        replace P := hide (cells_nx (unhide P) bk1)
        replace Q := hide (cells_nx (unhide Q) bk1)
        replace R := hide (cells_nx (unhide R) bk1)
        replace HB := hide (below_nx (unhide HB) bk1)
        clear bk1
        clear p_0 p_1 p_2 p_3
        obtain ⟨q_0, q_1, q_2, q_3⟩ := cells4 (unhide Q)
        go_wp2_with fail
        refine (unhide H2 _).mono ?_
        rintro e wk2 ⟨rfl, bk2⟩
        replace P := hide (cells_nx (unhide P) bk2)
        replace Q := hide (cells_nx (unhide Q) bk2)
        replace R := hide (cells_nx (unhide R) bk2)
        replace HB := hide (below_nx (unhide HB) bk2)
        clear bk2
        clear q_0 q_1 q_2 q_3
        obtain ⟨p_0, p_1, p_2, p_3⟩ := cells4 (unhide P)
        obtain ⟨q_0, q_1, q_2, q_3⟩ := cells4 (unhide Q)
        go_upto_region 4 with fail
        have S := hide (cells_new wk2 48 #[.int .i64 (max a a'), .int .i64 (max b b'), .int .i64 (min c c'), .int .i64 (min d d')])
        replace P := hide (cells_al (unhide P) (.cells #[.int .i64 (max a a'), .int .i64 (max b b'), .int .i64 (min c c'), .int .i64 (min d d')] 48))
        replace Q := hide (cells_al (unhide Q) (.cells #[.int .i64 (max a a'), .int .i64 (max b b'), .int .i64 (min c c'), .int .i64 (min d d')] 48))
        replace R := hide (cells_al (unhide R) (.cells #[.int .i64 (max a a'), .int .i64 (max b b'), .int .i64 (min c c'), .int .i64 (min d d')] 48))
        replace HB := hide ((unhide HB).alloc (unhide HB).size (.cells #[.int .i64 (max a a'), .int .i64 (max b b'), .int .i64 (min c c'), .int .i64 (min d d')] 48))
        clear p_0 p_1 p_2 p_3 q_0 q_1 q_2 q_3
        generalize hW : wk2.alloc (.cells #[.int .i64 (max a a'), .int .i64 (max b b'), .int .i64 (min c c'), .int .i64 (min d d')] 48) = W1 at P Q R S HB ⊢
        clear hW
        obtain ⟨s_0, s_1, s_2, s_3⟩ := cells4 (unhide S)
        go_wp2_with fail
        refine (unhide H3 _).mono ?_
        rintro e wk3 ⟨rfl, bk3⟩
        replace P := hide (cells_nx (unhide P) bk3)
        replace Q := hide (cells_nx (unhide Q) bk3)
        replace R := hide (cells_nx (unhide R) bk3)
        replace S := hide (cells_nx (unhide S) bk3)
        replace HB := hide (below_nx (unhide HB) bk3)
        clear bk3
        clear s_0 s_1 s_2 s_3
        obtain ⟨r_0, r_1, r_2, r_3⟩ := cells4 (unhide R)
        have fz_r_0 := cells_f (unhide R) 0
        have fz_r_1 := cells_f (unhide R) 1
        have fz_r_2 := cells_f (unhide R) 2
        have fz_r_3 := cells_f (unhide R) 3
        go_wp2
        refine bodyPost_ret (results_c1t rfl _ _ _ _ _ _ rfl (cells_set4 (unhide R) _ _ _ _) Tryd.underlying48 rfl (by exact infoA) _ rfl) rfl ?_
        exact ⟨rfl, below_set4 (unhide HB) (by omega) _ _ _ _⟩
      · have E : meetB a b c d a' b' c' d' = true := by unfold meetB; rw [g1, g2, g3]; rfl
        rw [E]
        clear E
        rw [if_pos rfl]
        rw [g1] at H1
        rw [g2] at H2
        rw [g3] at H3
        clear g1 g2 g3
        go_enter Tryd.func33, Tryd.ntmps33
        go_upto_region 1 with fail
        have P := hide (cells_al (cells_al (cells_new w 48 #[.int .i64 a, .int .i64 b, .int .i64 c, .int .i64 d]) (.cells #[.int .i64 a', .int .i64 b', .int .i64 c', .int .i64 d'] 48)) (.cells #[.int .i64 0, .int .i64 0, .int .i64 0, .int .i64 0] 48))
        have Q := hide (cells_al (cells_new2 w (.cells #[.int .i64 a, .int .i64 b, .int .i64 c, .int .i64 d] 48) 48 #[.int .i64 a', .int .i64 b', .int .i64 c', .int .i64 d']) (.cells #[.int .i64 0, .int .i64 0, .int .i64 0, .int .i64 0] 48))
        have R := hide (cells_new3 w (.cells #[.int .i64 a, .int .i64 b, .int .i64 c, .int .i64 d] 48) (.cells #[.int .i64 a', .int .i64 b', .int .i64 c', .int .i64 d'] 48) 48 #[.int .i64 0, .int .i64 0, .int .i64 0, .int .i64 0])
        have HB : Hid (Below w.heap.size w (((w.alloc (.cells #[.int .i64 a, .int .i64 b, .int .i64 c, .int .i64 d] 48)).alloc (.cells #[.int .i64 a', .int .i64 b', .int .i64 c', .int .i64 d'] 48)).alloc (.cells #[.int .i64 0, .int .i64 0, .int .i64 0, .int .i64 0] 48))) := hide (below_al3 _ _ _ _)
        generalize hW : ((w.alloc (.cells #[.int .i64 a, .int .i64 b, .int .i64 c, .int .i64 d] 48)).alloc (.cells #[.int .i64 a', .int .i64 b', .int .i64 c', .int .i64 d'] 48)).alloc (.cells #[.int .i64 0, .int .i64 0, .int .i64 0, .int .i64 0] 48) = W0 at P Q R HB ⊢
        clear hW
        obtain ⟨p_0, p_1, p_2, p_3⟩ := cells4 (unhide P)
        go_wp2_with fail
        refine (unhide H1 _).mono ?_
        rintro e wk1 ⟨rfl, bk1⟩
        replace P := hide (cells_nx (unhide P) bk1)
        replace Q := hide (cells_nx (unhide Q) bk1)
        replace R := hide (cells_nx (unhide R) bk1)
        replace HB := hide (below_nx (unhide HB) bk1)
        clear bk1
        clear p_0 p_1 p_2 p_3
        obtain ⟨q_0, q_1, q_2, q_3⟩ := cells4 (unhide Q)
        go_wp2_with fail
        refine (unhide H2 _).mono ?_
        rintro e wk2 ⟨rfl, bk2⟩
        replace P := hide (cells_nx (unhide P) bk2)
        replace Q := hide (cells_nx (unhide Q) bk2)
        replace R := hide (cells_nx (unhide R) bk2)
        replace HB := hide (below_nx (unhide HB) bk2)
        clear bk2
        clear q_0 q_1 q_2 q_3
        obtain ⟨p_0, p_1, p_2, p_3⟩ := cells4 (unhide P)
        obtain ⟨q_0, q_1, q_2, q_3⟩ := cells4 (unhide Q)
        go_upto_region 4 with fail
        have S := hide (cells_new wk2 48 #[.int .i64 (max a a'), .int .i64 (max b b'), .int .i64 (min c c'), .int .i64 (min d d')])
        replace P := hide (cells_al (unhide P) (.cells #[.int .i64 (max a a'), .int .i64 (max b b'), .int .i64 (min c c'), .int .i64 (min d d')] 48))
        replace Q := hide (cells_al (unhide Q) (.cells #[.int .i64 (max a a'), .int .i64 (max b b'), .int .i64 (min c c'), .int .i64 (min d d')] 48))
        replace R := hide (cells_al (unhide R) (.cells #[.int .i64 (max a a'), .int .i64 (max b b'), .int .i64 (min c c'), .int .i64 (min d d')] 48))
        replace HB := hide ((unhide HB).alloc (unhide HB).size (.cells #[.int .i64 (max a a'), .int .i64 (max b b'), .int .i64 (min c c'), .int .i64 (min d d')] 48))
        clear p_0 p_1 p_2 p_3 q_0 q_1 q_2 q_3
        generalize hW : wk2.alloc (.cells #[.int .i64 (max a a'), .int .i64 (max b b'), .int .i64 (min c c'), .int .i64 (min d d')] 48) = W1 at P Q R S HB ⊢
        clear hW
        obtain ⟨s_0, s_1, s_2, s_3⟩ := cells4 (unhide S)
        go_wp2_with fail
        refine (unhide H3 _).mono ?_
        rintro e wk3 ⟨rfl, bk3⟩
        replace P := hide (cells_nx (unhide P) bk3)
        replace Q := hide (cells_nx (unhide Q) bk3)
        replace R := hide (cells_nx (unhide R) bk3)
        replace S := hide (cells_nx (unhide S) bk3)
        replace HB := hide (below_nx (unhide HB) bk3)
        clear bk3
        clear s_0 s_1 s_2 s_3
        obtain ⟨s_0, s_1, s_2, s_3⟩ := cells4 (unhide S)
        obtain ⟨r_0, r_1, r_2, r_3⟩ := cells4 (unhide R)
        have fz_r_0 := cells_f (unhide R) 0
        have fz_r_1 := cells_f (unhide R) 1
        have fz_r_2 := cells_f (unhide R) 2
        have fz_r_3 := cells_f (unhide R) 3
        go_wp2
        refine bodyPost_ret (results_c1t rfl _ _ _ _ _ _ rfl (cells_set4 (unhide R) _ _ _ _) Tryd.underlying48 rfl (by exact infoA) _ rfl) rfl ?_
        exact ⟨rfl, below_set4 (unhide HB) (by omega) _ _ _ _⟩

set_option maxRecDepth 100000 in
set_option maxHeartbeats 4000000 in
theorem area_ref (p q : Rf) (w : World) :
    Calls Tryd.prog 9 #[.agg p.cells, .agg q.cells] w fun e w' => e = .returned (.tuple #[.bool (areaG p.col p.row q.col q.row), .int .i64 (areaN p.col p.row q.col q.row)]) ∧ Below w.heap.size w w' := by
  obtain ⟨a, b, f1, f2⟩ := p
  obtain ⟨c, d, f3, f4⟩ := q
  unfold Rf.cells
  simp only []
  have H1 := hide (fun w => cell_ref a b w)
  have H2 := hide (fun w => cell_ref c d w)
  cases g1 : cellG a b
  · have E : areaG a b c d = false := by rw [← Bool.not_eq_true, areaG_iff]; rw [g1]; simp
    have E2 : areaN a b c d = 0 := by unfold areaN; rw [E]; rfl
    rw [E, E2]
    clear E E2
    rw [g1] at H1
    clear g1
    generalize cellG c d = g at H2
    go_enter Tryd.func9, Tryd.ntmps9
    go_upto_region 1 with fail
    have P := hide (cells_al (cells_new w 33 #[.int .i64 a, .int .i64 b, .bool f1, .bool f2]) (.cells #[.int .i64 c, .int .i64 d, .bool f3, .bool f4] 33))
    have Q := hide (cells_new2 w (.cells #[.int .i64 a, .int .i64 b, .bool f1, .bool f2] 33) 33 #[.int .i64 c, .int .i64 d, .bool f3, .bool f4])
    have HB : Hid (Below w.heap.size w ((w.alloc (.cells #[.int .i64 a, .int .i64 b, .bool f1, .bool f2] 33)).alloc (.cells #[.int .i64 c, .int .i64 d, .bool f3, .bool f4] 33))) := hide (below_al2 _ _ _)
    generalize hW : (w.alloc (.cells #[.int .i64 a, .int .i64 b, .bool f1, .bool f2] 33)).alloc (.cells #[.int .i64 c, .int .i64 d, .bool f3, .bool f4] 33) = W0 at P Q HB ⊢
    clear hW
    obtain ⟨p_0, p_1, p_2, p_3⟩ := cells4 (unhide P)
    obtain ⟨q_0, q_1, q_2, q_3⟩ := cells4 (unhide Q)
    go_wp2_with fail
    refine (unhide H1 _).mono ?_
    rintro e wk1 ⟨rfl, rfl⟩
    go_wp2_with fail
    refine (unhide H2 _).mono ?_
    rintro e wk2 ⟨rfl, rfl⟩
    go_wp2
    go_ret2
    exact ⟨rfl, unhide HB⟩
  · cases g2 : cellG c d
    · have E : areaG a b c d = false := by rw [← Bool.not_eq_true, areaG_iff]; rw [g2]; simp
      have E2 : areaN a b c d = 0 := by unfold areaN; rw [E]; rfl
      rw [E, E2]
      clear E E2
      rw [g1] at H1
      rw [g2] at H2
      clear g1 g2
      go_enter Tryd.func9, Tryd.ntmps9
      go_upto_region 1 with fail
      have P := hide (cells_al (cells_new w 33 #[.int .i64 a, .int .i64 b, .bool f1, .bool f2]) (.cells #[.int .i64 c, .int .i64 d, .bool f3, .bool f4] 33))
      have Q := hide (cells_new2 w (.cells #[.int .i64 a, .int .i64 b, .bool f1, .bool f2] 33) 33 #[.int .i64 c, .int .i64 d, .bool f3, .bool f4])
      have HB : Hid (Below w.heap.size w ((w.alloc (.cells #[.int .i64 a, .int .i64 b, .bool f1, .bool f2] 33)).alloc (.cells #[.int .i64 c, .int .i64 d, .bool f3, .bool f4] 33))) := hide (below_al2 _ _ _)
      generalize hW : (w.alloc (.cells #[.int .i64 a, .int .i64 b, .bool f1, .bool f2] 33)).alloc (.cells #[.int .i64 c, .int .i64 d, .bool f3, .bool f4] 33) = W0 at P Q HB ⊢
      clear hW
      obtain ⟨p_0, p_1, p_2, p_3⟩ := cells4 (unhide P)
      obtain ⟨q_0, q_1, q_2, q_3⟩ := cells4 (unhide Q)
      go_wp2_with fail
      refine (unhide H1 _).mono ?_
      rintro e wk1 ⟨rfl, rfl⟩
      go_wp2_with fail
      refine (unhide H2 _).mono ?_
      rintro e wk2 ⟨rfl, rfl⟩
      go_wp2
      go_ret2
      exact ⟨rfl, unhide HB⟩
    · by_cases h3 : a ≤ c
      · by_cases h4 : b ≤ d
        · have G1 := hide g1
          have G2 := hide g2
          rw [g1] at H1
          rw [g2] at H2
          rw [cellG_iff] at g1 g2
          obtain ⟨a1, a2, a3, a4⟩ := g1
          obtain ⟨c1, c2, c3, c4⟩ := g2
          go_enter Tryd.func9, Tryd.ntmps9
          go_upto_region 1 with fail
          have P := hide (cells_al (cells_new w 33 #[.int .i64 a, .int .i64 b, .bool f1, .bool f2]) (.cells #[.int .i64 c, .int .i64 d, .bool f3, .bool f4] 33))
          have Q := hide (cells_new2 w (.cells #[.int .i64 a, .int .i64 b, .bool f1, .bool f2] 33) 33 #[.int .i64 c, .int .i64 d, .bool f3, .bool f4])
          have HB : Hid (Below w.heap.size w ((w.alloc (.cells #[.int .i64 a, .int .i64 b, .bool f1, .bool f2] 33)).alloc (.cells #[.int .i64 c, .int .i64 d, .bool f3, .bool f4] 33))) := hide (below_al2 _ _ _)
          generalize hW : (w.alloc (.cells #[.int .i64 a, .int .i64 b, .bool f1, .bool f2] 33)).alloc (.cells #[.int .i64 c, .int .i64 d, .bool f3, .bool f4] 33) = W0 at P Q HB ⊢
          clear hW
          obtain ⟨p_0, p_1, p_2, p_3⟩ := cells4 (unhide P)
          obtain ⟨q_0, q_1, q_2, q_3⟩ := cells4 (unhide Q)
          go_wp2_with fail
          refine (unhide H1 _).mono ?_
          rintro e wk1 ⟨rfl, rfl⟩
          go_wp2_with fail
          refine (unhide H2 _).mono ?_
          rintro e wk2 ⟨rfl, rfl⟩
          go_wp2
          go_loop [8, 9] (fun n i => ∃ (k : Nat) (v z : Int), i = .int .i64 z ∧ n = .int .i64 v ∧ 0 ≤ v ∧ v ≤ 65536 ∧ a ≤ z ∧ z ≤ c + 1 ∧ Hid (z = a + k ∧ v = (k : Int) * (d - b + 1))) (fun _ i => (c + 1 - intOf i).toNat)
          case atStart => exact ⟨0, 0, a, rfl, rfl, by omega, by omega, by omega, by omega, hide ⟨by omega, by omega⟩⟩
          case round =>
            obtain ⟨k, v, z, rfl, rfl, v0, v1, z0, z1, HH⟩ := hrel
            by_cases hlt : z ≤ c
            · have hk := prod_le ((k : Int) + 1) (d - b + 1) (by omega) (by have := (unhide HH).1; omega) (by omega) (by omega)
              have HV : Hid (v + d - b + 1 = ((k : Int) + 1) * (d - b + 1)) := hide (by rw [Int.add_mul, ← (unhide HH).2]; omega)
              rw [← unhide HV] at hk
              obtain ⟨hk0, hk1⟩ := hk
              go_wp2
              go_round
              case rel => exact ⟨k + 1, v + d - b + 1, z + 1, rfl, rfl, by omega, by omega, by omega, by omega, hide ⟨by have := (unhide HH).1; omega, by rw [unhide HV]; rfl⟩⟩
              case measure => simp [intOf]; omega
            · have HN : Hid (v = areaC a b c d) := hide (by
                rw [(unhide HH).2]
                unfold areaC
                have : (k : Int) = c - a + 1 := by have := (unhide HH).1; omega
                rw [this])
              have hzc : c < z := by omega
              clear hlt
              by_cases h5 : v ≤ 4096
              · have E : Hid (areaG a b c d = true ∧ areaN a b c d = v) := hide (by
                  have e : areaG a b c d = true := by unfold areaG; rw [unhide G1, unhide G2, decide_eq_true h3, decide_eq_true h4, ← unhide HN, decide_eq_true h5]; rfl
                  exact ⟨e, by unfold areaN; rw [e, unhide HN]; rfl⟩)
                go_wp2
                go_ret2
                exact ⟨by rw [(unhide E).1, (unhide E).2]; rfl, unhide HB⟩
              · have E : Hid (areaG a b c d = false ∧ areaN a b c d = 0) := hide (by
                  have e : areaG a b c d = false := by unfold areaG; rw [← unhide HN, decide_eq_false h5]; simp
                  exact ⟨e, by unfold areaN; rw [e]; rfl⟩)
                replace h5 : 4096 < v := by omega
                go_wp2
                go_ret2
                exact ⟨by rw [(unhide E).1, (unhide E).2]; rfl, unhide HB⟩
        · have E : areaG a b c d = false := by rw [← Bool.not_eq_true, areaG_iff]; omega
          have E2 : areaN a b c d = 0 := by unfold areaN; rw [E]; rfl
          rw [E, E2]
          clear E E2
          have d4 : decide (d < b) = true := decide_eq_true (by omega)
          have d3 : decide (c < a) = false := decide_eq_false (by omega)
          replace h4 : d < b := by omega
          rw [g1] at H1
          rw [g2] at H2
          clear g1 g2
          go_enter Tryd.func9, Tryd.ntmps9
          go_upto_region 1 with fail
          have P := hide (cells_al (cells_new w 33 #[.int .i64 a, .int .i64 b, .bool f1, .bool f2]) (.cells #[.int .i64 c, .int .i64 d, .bool f3, .bool f4] 33))
          have Q := hide (cells_new2 w (.cells #[.int .i64 a, .int .i64 b, .bool f1, .bool f2] 33) 33 #[.int .i64 c, .int .i64 d, .bool f3, .bool f4])
          have HB : Hid (Below w.heap.size w ((w.alloc (.cells #[.int .i64 a, .int .i64 b, .bool f1, .bool f2] 33)).alloc (.cells #[.int .i64 c, .int .i64 d, .bool f3, .bool f4] 33))) := hide (below_al2 _ _ _)
          generalize hW : (w.alloc (.cells #[.int .i64 a, .int .i64 b, .bool f1, .bool f2] 33)).alloc (.cells #[.int .i64 c, .int .i64 d, .bool f3, .bool f4] 33) = W0 at P Q HB ⊢
          clear hW
          obtain ⟨p_0, p_1, p_2, p_3⟩ := cells4 (unhide P)
          obtain ⟨q_0, q_1, q_2, q_3⟩ := cells4 (unhide Q)
          go_wp2_with fail
          refine (unhide H1 _).mono ?_
          rintro e wk1 ⟨rfl, rfl⟩
          go_wp2_with fail
          refine (unhide H2 _).mono ?_
          rintro e wk2 ⟨rfl, rfl⟩
          go_wp2
          go_ret2
          exact ⟨rfl, unhide HB⟩
      · have E : areaG a b c d = false := by rw [← Bool.not_eq_true, areaG_iff]; omega
        have E2 : areaN a b c d = 0 := by unfold areaN; rw [E]; rfl
        rw [E, E2]
        clear E E2
        have d3 : decide (c < a) = true := decide_eq_true (by omega)
        replace h3 : c < a := by omega
        rw [g1] at H1
        rw [g2] at H2
        clear g1 g2
        go_enter Tryd.func9, Tryd.ntmps9
        go_upto_region 1 with fail
        have P := hide (cells_al (cells_new w 33 #[.int .i64 a, .int .i64 b, .bool f1, .bool f2]) (.cells #[.int .i64 c, .int .i64 d, .bool f3, .bool f4] 33))
        have Q := hide (cells_new2 w (.cells #[.int .i64 a, .int .i64 b, .bool f1, .bool f2] 33) 33 #[.int .i64 c, .int .i64 d, .bool f3, .bool f4])
        have HB : Hid (Below w.heap.size w ((w.alloc (.cells #[.int .i64 a, .int .i64 b, .bool f1, .bool f2] 33)).alloc (.cells #[.int .i64 c, .int .i64 d, .bool f3, .bool f4] 33))) := hide (below_al2 _ _ _)
        generalize hW : (w.alloc (.cells #[.int .i64 a, .int .i64 b, .bool f1, .bool f2] 33)).alloc (.cells #[.int .i64 c, .int .i64 d, .bool f3, .bool f4] 33) = W0 at P Q HB ⊢
        clear hW
        obtain ⟨p_0, p_1, p_2, p_3⟩ := cells4 (unhide P)
        obtain ⟨q_0, q_1, q_2, q_3⟩ := cells4 (unhide Q)
        go_wp2_with fail
        refine (unhide H1 _).mono ?_
        rintro e wk1 ⟨rfl, rfl⟩
        go_wp2_with fail
        refine (unhide H2 _).mono ?_
        rintro e wk2 ⟨rfl, rfl⟩
        go_wp2
        go_ret2
        exact ⟨rfl, unhide HB⟩
end Go.Proofs.YtlgmpoofcdkaeaaDoor
