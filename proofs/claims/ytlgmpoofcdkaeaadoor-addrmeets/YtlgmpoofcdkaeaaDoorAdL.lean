/- The contracts of span, Good, Area of a reference, and of the reference's Good. -/
import Derived.Test.YtlgmpoofcdkaeaaDoorAdK
namespace Go.Proofs.YtlgmpoofcdkaeaaDoor
open Go.RowKit

theorem empty_l (s : ByteArray) : s.data.toList.isEmpty = (s.toList == []) := by
  rw [ByteArray.toList_eq]; cases s.data.toList <;> rfl
theorem area_one (a b : Int) : areaG a b a b = cellG a b := by
  unfold areaG areaC
  cases h : cellG a b
  · rfl
  · rw [decide_eq_true (Int.le_refl a), decide_eq_true (Int.le_refl b), show a - a + 1 = 1 by omega, show b - b + 1 = 1 by omega]; rfl
theorem goodF_mk (bk sh : ByteArray) (a b : Rf) (wd : Bool) : goodF ⟨bk, sh, a, b, wd⟩ = (((sh.toList == []) || nameG sh.data.toList) && ((bk.toList == []) || (!(sh.toList == []) && nameG bk.data.toList)) && (if wd = true then areaG a.col a.row b.col b.row else zeroB b && cellG a.col a.row)) := by
  unfold goodF
  rw [empty_l, empty_l]
  rfl

set_option maxRecDepth 100000 in
set_option maxHeartbeats 2000000 in
theorem span_wide (bk sh : ByteArray) (c1 r1 : Int) (f1 g1 : Bool) (c2 r2 : Int) (f2 g2 : Bool) (w : World) :
    Calls Tryd.prog 37 #[.agg #[.string bk, .string sh, .int .i64 c1, .int .i64 r1, .bool f1, .bool g1, .int .i64 c2, .int .i64 r2, .bool f2, .bool g2, .bool true]] w fun e w' => e = .returned (.agg #[.int .i64 c1, .int .i64 r1, .int .i64 c2, .int .i64 r2]) ∧ Below w.heap.size w w' := by
  go_enter Tryd.func37, Tryd.ntmps37
  go_wp2
  refine bodyPost_ret (results_c1 rfl _ _ _ _ _ _ rfl (cells_new2 _ _ _ _) Tryd.underlying48 rfl (by exact infoA)) rfl ?_
  exact ⟨rfl, below_al2 _ _ _⟩
set_option maxRecDepth 100000 in
set_option maxHeartbeats 2000000 in
theorem span_one (bk sh : ByteArray) (c1 r1 : Int) (f1 g1 : Bool) (c2 r2 : Int) (f2 g2 : Bool) (w : World) :
    Calls Tryd.prog 37 #[.agg #[.string bk, .string sh, .int .i64 c1, .int .i64 r1, .bool f1, .bool g1, .int .i64 c2, .int .i64 r2, .bool f2, .bool g2, .bool false]] w fun e w' => e = .returned (.agg #[.int .i64 c1, .int .i64 r1, .int .i64 c1, .int .i64 r1]) ∧ Below w.heap.size w w' := by
  go_enter Tryd.func37, Tryd.ntmps37
  go_wp2
  refine bodyPost_ret (results_c1 rfl _ _ _ _ _ _ rfl (cells_new2 _ _ _ _) Tryd.underlying48 rfl (by exact infoA)) rfl ?_
  exact ⟨rfl, below_al2 _ _ _⟩

set_option maxRecDepth 100000 in
set_option maxHeartbeats 4000000 in
theorem fullGood_val (f : Fl) (w : World) :
    Calls Tryd.prog 12 #[.agg f.cells] w fun e w' => e = .returned (.bool (goodF f)) ∧ Below w.heap.size w w' := by
  obtain ⟨bk, sh, ⟨c1, r1, f1, g1⟩, ⟨c2, r2, f2, g2⟩, wd⟩ := f
  rw [goodF_mk]
  unfold Fl.cells
  simp only []
  have HNS := hide (fun w => name_val sh w)
  have HNB := hide (fun w => name_val bk w)
  generalize nameG sh.data.toList = nS at HNS ⊢
  generalize nameG bk.data.toList = nB at HNB ⊢
  cases eS : (sh.toList == [])
  · rw [Bool.false_or, Bool.not_false, Bool.true_and]
    cases nS
    · have E : ∀ a b : Bool, (false && a && b) = false := fun _ _ => rfl
      rw [E]
      clear E
      go_enter Tryd.func12, Tryd.ntmps12
      go_upto_region 1 with fail
      have P := hide (cells_new w 31 #[.string bk, .string sh, .int .i64 c1, .int .i64 r1, .bool f1, .bool g1, .int .i64 c2, .int .i64 r2, .bool f2, .bool g2, .bool wd])
      have HB : Hid (Below w.heap.size w (w.alloc (.cells #[.string bk, .string sh, .int .i64 c1, .int .i64 r1, .bool f1, .bool g1, .int .i64 c2, .int .i64 r2, .bool f2, .bool g2, .bool wd] 31))) := hide (below_al _ _)
      generalize hW : w.alloc (.cells #[.string bk, .string sh, .int .i64 c1, .int .i64 r1, .bool f1, .bool g1, .int .i64 c2, .int .i64 r2, .bool f2, .bool g2, .bool wd] 31) = W0 at P HB ⊢
      clear hW
      obtain ⟨p_0, p_1, p_2, p_3, p_4, p_5, p_6, p_7, p_8, p_9, p_10⟩ := cells11 (unhide P)
      go_wp2_with fail
      refine (unhide HNS _).mono ?_
      rintro e wk1 ⟨rfl, bk1⟩
      replace P := hide (cells_nx (unhide P) bk1)
      replace HB := hide (below_nx (unhide HB) bk1)
      clear bk1
      clear p_0 p_1 p_2 p_3 p_4 p_5 p_6 p_7 p_8 p_9 p_10
      obtain ⟨p_0, p_1, p_2, p_3, p_4, p_5, p_6, p_7, p_8, p_9, p_10⟩ := cells11 (unhide P)
      go_wp2
      go_ret
      exact ⟨rfl, unhide HB⟩
    · rw [Bool.true_and]
      cases eB : (bk.toList == [])
      · rw [Bool.false_or]
        cases nB
        · rw [Bool.false_and]
          go_enter Tryd.func12, Tryd.ntmps12
          go_upto_region 1 with fail
          have P := hide (cells_new w 31 #[.string bk, .string sh, .int .i64 c1, .int .i64 r1, .bool f1, .bool g1, .int .i64 c2, .int .i64 r2, .bool f2, .bool g2, .bool wd])
          have HB : Hid (Below w.heap.size w (w.alloc (.cells #[.string bk, .string sh, .int .i64 c1, .int .i64 r1, .bool f1, .bool g1, .int .i64 c2, .int .i64 r2, .bool f2, .bool g2, .bool wd] 31))) := hide (below_al _ _)
          generalize hW : w.alloc (.cells #[.string bk, .string sh, .int .i64 c1, .int .i64 r1, .bool f1, .bool g1, .int .i64 c2, .int .i64 r2, .bool f2, .bool g2, .bool wd] 31) = W0 at P HB ⊢
          clear hW
          obtain ⟨p_0, p_1, p_2, p_3, p_4, p_5, p_6, p_7, p_8, p_9, p_10⟩ := cells11 (unhide P)
          go_wp2_with fail
          refine (unhide HNS _).mono ?_
          rintro e wk1 ⟨rfl, bk1⟩
          replace P := hide (cells_nx (unhide P) bk1)
          replace HB := hide (below_nx (unhide HB) bk1)
          clear bk1
          clear p_0 p_1 p_2 p_3 p_4 p_5 p_6 p_7 p_8 p_9 p_10
          obtain ⟨p_0, p_1, p_2, p_3, p_4, p_5, p_6, p_7, p_8, p_9, p_10⟩ := cells11 (unhide P)
          go_wp2_with fail
          refine (unhide HNB _).mono ?_
          rintro e wk2 ⟨rfl, bk2⟩
          replace P := hide (cells_nx (unhide P) bk2)
          replace HB := hide (below_nx (unhide HB) bk2)
          clear bk2
          clear p_0 p_1 p_2 p_3 p_4 p_5 p_6 p_7 p_8 p_9 p_10
          obtain ⟨p_0, p_1, p_2, p_3, p_4, p_5, p_6, p_7, p_8, p_9, p_10⟩ := cells11 (unhide P)
          go_wp2
          go_ret
          exact ⟨rfl, unhide HB⟩
        · rw [Bool.true_and]
          cases wd
          · have HSP := hide (fun w => span_one bk sh c1 r1 f1 g1 c2 r2 f2 g2 w)
            have HAG := hide (fun w => areaGood_val c1 r1 c1 r1 w)
            rw [area_one] at HAG
            have hq := fun w => rf_ne0 c2 r2 f2 g2 w
            rw [if_neg (by simp)]
            cases hz : zeroB ⟨c2, r2, f2, g2⟩
            · rw [hz] at hq
              have hz2 : ∀ b : Bool, (false && b) = false := fun _ => rfl
              rw [hz2]
              clear hz hz2
              go_enter Tryd.func12, Tryd.ntmps12
              go_upto_region 1 with fail
              have P := hide (cells_new w 31 #[.string bk, .string sh, .int .i64 c1, .int .i64 r1, .bool f1, .bool g1, .int .i64 c2, .int .i64 r2, .bool f2, .bool g2, .bool false])
              have HB : Hid (Below w.heap.size w (w.alloc (.cells #[.string bk, .string sh, .int .i64 c1, .int .i64 r1, .bool f1, .bool g1, .int .i64 c2, .int .i64 r2, .bool f2, .bool g2, .bool false] 31))) := hide (below_al _ _)
              generalize hW : w.alloc (.cells #[.string bk, .string sh, .int .i64 c1, .int .i64 r1, .bool f1, .bool g1, .int .i64 c2, .int .i64 r2, .bool f2, .bool g2, .bool false] 31) = W0 at P HB ⊢
              clear hW
              obtain ⟨p_0, p_1, p_2, p_3, p_4, p_5, p_6, p_7, p_8, p_9, p_10⟩ := cells11 (unhide P)
              go_wp2_with fail
              refine (unhide HNS _).mono ?_
              rintro e wk1 ⟨rfl, bk1⟩
              replace P := hide (cells_nx (unhide P) bk1)
              replace HB := hide (below_nx (unhide HB) bk1)
              clear bk1
              clear p_0 p_1 p_2 p_3 p_4 p_5 p_6 p_7 p_8 p_9 p_10
              obtain ⟨p_0, p_1, p_2, p_3, p_4, p_5, p_6, p_7, p_8, p_9, p_10⟩ := cells11 (unhide P)
              go_wp2_with fail
              refine (unhide HNB _).mono ?_
              rintro e wk2 ⟨rfl, bk2⟩
              replace P := hide (cells_nx (unhide P) bk2)
              replace HB := hide (below_nx (unhide HB) bk2)
              clear bk2
              clear p_0 p_1 p_2 p_3 p_4 p_5 p_6 p_7 p_8 p_9 p_10
              obtain ⟨p_0, p_1, p_2, p_3, p_4, p_5, p_6, p_7, p_8, p_9, p_10⟩ := cells11 (unhide P)
              go_wp2
              go_ret
              exact ⟨rfl, unhide HB⟩
            · rw [hz] at hq
              rw [Bool.true_and]
              clear hz
              generalize cellG c1 r1 = g at HAG ⊢
              go_enter Tryd.func12, Tryd.ntmps12
              go_upto_region 1 with fail
              have P := hide (cells_new w 31 #[.string bk, .string sh, .int .i64 c1, .int .i64 r1, .bool f1, .bool g1, .int .i64 c2, .int .i64 r2, .bool f2, .bool g2, .bool false])
              have HB : Hid (Below w.heap.size w (w.alloc (.cells #[.string bk, .string sh, .int .i64 c1, .int .i64 r1, .bool f1, .bool g1, .int .i64 c2, .int .i64 r2, .bool f2, .bool g2, .bool false] 31))) := hide (below_al _ _)
              generalize hW : w.alloc (.cells #[.string bk, .string sh, .int .i64 c1, .int .i64 r1, .bool f1, .bool g1, .int .i64 c2, .int .i64 r2, .bool f2, .bool g2, .bool false] 31) = W0 at P HB ⊢
              clear hW
              obtain ⟨p_0, p_1, p_2, p_3, p_4, p_5, p_6, p_7, p_8, p_9, p_10⟩ := cells11 (unhide P)
              go_wp2_with fail
              refine (unhide HNS _).mono ?_
              rintro e wk1 ⟨rfl, bk1⟩
              replace P := hide (cells_nx (unhide P) bk1)
              replace HB := hide (below_nx (unhide HB) bk1)
              clear bk1
              clear p_0 p_1 p_2 p_3 p_4 p_5 p_6 p_7 p_8 p_9 p_10
              obtain ⟨p_0, p_1, p_2, p_3, p_4, p_5, p_6, p_7, p_8, p_9, p_10⟩ := cells11 (unhide P)
              go_wp2_with fail
              refine (unhide HNB _).mono ?_
              rintro e wk2 ⟨rfl, bk2⟩
              replace P := hide (cells_nx (unhide P) bk2)
              replace HB := hide (below_nx (unhide HB) bk2)
              clear bk2
              clear p_0 p_1 p_2 p_3 p_4 p_5 p_6 p_7 p_8 p_9 p_10
              obtain ⟨p_0, p_1, p_2, p_3, p_4, p_5, p_6, p_7, p_8, p_9, p_10⟩ := cells11 (unhide P)
              go_wp2_with fail
              refine (unhide HSP _).mono ?_
              rintro e wk3 ⟨rfl, bk3⟩
              replace P := hide (cells_nx (unhide P) bk3)
              replace HB := hide (below_nx (unhide HB) bk3)
              clear bk3
              clear p_0 p_1 p_2 p_3 p_4 p_5 p_6 p_7 p_8 p_9 p_10
              go_wp2_with fail
              refine (unhide HAG _).mono ?_
              rintro e wk4 ⟨rfl, bk4⟩
              replace P := hide (cells_nx (unhide P) bk4)
              replace HB := hide (below_nx (unhide HB) bk4)
              clear bk4
              go_wp2
              go_ret
              exact ⟨rfl, unhide HB⟩
          · have HSP := hide (fun w => span_wide bk sh c1 r1 f1 g1 c2 r2 f2 g2 w)
            have HAG := hide (fun w => areaGood_val c1 r1 c2 r2 w)
            rw [if_pos rfl]
            generalize areaG c1 r1 c2 r2 = g at HAG ⊢
            go_enter Tryd.func12, Tryd.ntmps12
            go_upto_region 1 with fail
            have P := hide (cells_new w 31 #[.string bk, .string sh, .int .i64 c1, .int .i64 r1, .bool f1, .bool g1, .int .i64 c2, .int .i64 r2, .bool f2, .bool g2, .bool true])
            have HB : Hid (Below w.heap.size w (w.alloc (.cells #[.string bk, .string sh, .int .i64 c1, .int .i64 r1, .bool f1, .bool g1, .int .i64 c2, .int .i64 r2, .bool f2, .bool g2, .bool true] 31))) := hide (below_al _ _)
            generalize hW : w.alloc (.cells #[.string bk, .string sh, .int .i64 c1, .int .i64 r1, .bool f1, .bool g1, .int .i64 c2, .int .i64 r2, .bool f2, .bool g2, .bool true] 31) = W0 at P HB ⊢
            clear hW
            obtain ⟨p_0, p_1, p_2, p_3, p_4, p_5, p_6, p_7, p_8, p_9, p_10⟩ := cells11 (unhide P)
            go_wp2_with fail
            refine (unhide HNS _).mono ?_
            rintro e wk1 ⟨rfl, bk1⟩
            replace P := hide (cells_nx (unhide P) bk1)
            replace HB := hide (below_nx (unhide HB) bk1)
            clear bk1
            clear p_0 p_1 p_2 p_3 p_4 p_5 p_6 p_7 p_8 p_9 p_10
            obtain ⟨p_0, p_1, p_2, p_3, p_4, p_5, p_6, p_7, p_8, p_9, p_10⟩ := cells11 (unhide P)
            go_wp2_with fail
            refine (unhide HNB _).mono ?_
            rintro e wk2 ⟨rfl, bk2⟩
            replace P := hide (cells_nx (unhide P) bk2)
            replace HB := hide (below_nx (unhide HB) bk2)
            clear bk2
            clear p_0 p_1 p_2 p_3 p_4 p_5 p_6 p_7 p_8 p_9 p_10
            obtain ⟨p_0, p_1, p_2, p_3, p_4, p_5, p_6, p_7, p_8, p_9, p_10⟩ := cells11 (unhide P)
            go_wp2_with fail
            refine (unhide HSP _).mono ?_
            rintro e wk3 ⟨rfl, bk3⟩
            replace P := hide (cells_nx (unhide P) bk3)
            replace HB := hide (below_nx (unhide HB) bk3)
            clear bk3
            clear p_0 p_1 p_2 p_3 p_4 p_5 p_6 p_7 p_8 p_9 p_10
            go_wp2_with fail
            refine (unhide HAG _).mono ?_
            rintro e wk4 ⟨rfl, bk4⟩
            replace P := hide (cells_nx (unhide P) bk4)
            replace HB := hide (below_nx (unhide HB) bk4)
            clear bk4
            go_wp2
            go_ret
            exact ⟨rfl, unhide HB⟩
      · rw [Bool.true_or, Bool.true_and]
        cases wd
        · have HSP := hide (fun w => span_one bk sh c1 r1 f1 g1 c2 r2 f2 g2 w)
          have HAG := hide (fun w => areaGood_val c1 r1 c1 r1 w)
          rw [area_one] at HAG
          have hq := fun w => rf_ne0 c2 r2 f2 g2 w
          rw [if_neg (by simp)]
          cases hz : zeroB ⟨c2, r2, f2, g2⟩
          · rw [hz] at hq
            have hz2 : ∀ b : Bool, (false && b) = false := fun _ => rfl
            rw [hz2]
            clear hz hz2
            go_enter Tryd.func12, Tryd.ntmps12
            go_upto_region 1 with fail
            have P := hide (cells_new w 31 #[.string bk, .string sh, .int .i64 c1, .int .i64 r1, .bool f1, .bool g1, .int .i64 c2, .int .i64 r2, .bool f2, .bool g2, .bool false])
            have HB : Hid (Below w.heap.size w (w.alloc (.cells #[.string bk, .string sh, .int .i64 c1, .int .i64 r1, .bool f1, .bool g1, .int .i64 c2, .int .i64 r2, .bool f2, .bool g2, .bool false] 31))) := hide (below_al _ _)
            generalize hW : w.alloc (.cells #[.string bk, .string sh, .int .i64 c1, .int .i64 r1, .bool f1, .bool g1, .int .i64 c2, .int .i64 r2, .bool f2, .bool g2, .bool false] 31) = W0 at P HB ⊢
            clear hW
            obtain ⟨p_0, p_1, p_2, p_3, p_4, p_5, p_6, p_7, p_8, p_9, p_10⟩ := cells11 (unhide P)
            go_wp2_with fail
            refine (unhide HNS _).mono ?_
            rintro e wk1 ⟨rfl, bk1⟩
            replace P := hide (cells_nx (unhide P) bk1)
            replace HB := hide (below_nx (unhide HB) bk1)
            clear bk1
            clear p_0 p_1 p_2 p_3 p_4 p_5 p_6 p_7 p_8 p_9 p_10
            obtain ⟨p_0, p_1, p_2, p_3, p_4, p_5, p_6, p_7, p_8, p_9, p_10⟩ := cells11 (unhide P)
            go_wp2
            go_ret
            exact ⟨rfl, unhide HB⟩
          · rw [hz] at hq
            rw [Bool.true_and]
            clear hz
            generalize cellG c1 r1 = g at HAG ⊢
            go_enter Tryd.func12, Tryd.ntmps12
            go_upto_region 1 with fail
            have P := hide (cells_new w 31 #[.string bk, .string sh, .int .i64 c1, .int .i64 r1, .bool f1, .bool g1, .int .i64 c2, .int .i64 r2, .bool f2, .bool g2, .bool false])
            have HB : Hid (Below w.heap.size w (w.alloc (.cells #[.string bk, .string sh, .int .i64 c1, .int .i64 r1, .bool f1, .bool g1, .int .i64 c2, .int .i64 r2, .bool f2, .bool g2, .bool false] 31))) := hide (below_al _ _)
            generalize hW : w.alloc (.cells #[.string bk, .string sh, .int .i64 c1, .int .i64 r1, .bool f1, .bool g1, .int .i64 c2, .int .i64 r2, .bool f2, .bool g2, .bool false] 31) = W0 at P HB ⊢
            clear hW
            obtain ⟨p_0, p_1, p_2, p_3, p_4, p_5, p_6, p_7, p_8, p_9, p_10⟩ := cells11 (unhide P)
            go_wp2_with fail
            refine (unhide HNS _).mono ?_
            rintro e wk1 ⟨rfl, bk1⟩
            replace P := hide (cells_nx (unhide P) bk1)
            replace HB := hide (below_nx (unhide HB) bk1)
            clear bk1
            clear p_0 p_1 p_2 p_3 p_4 p_5 p_6 p_7 p_8 p_9 p_10
            obtain ⟨p_0, p_1, p_2, p_3, p_4, p_5, p_6, p_7, p_8, p_9, p_10⟩ := cells11 (unhide P)
            go_wp2_with fail
            refine (unhide HSP _).mono ?_
            rintro e wk2 ⟨rfl, bk2⟩
            replace P := hide (cells_nx (unhide P) bk2)
            replace HB := hide (below_nx (unhide HB) bk2)
            clear bk2
            clear p_0 p_1 p_2 p_3 p_4 p_5 p_6 p_7 p_8 p_9 p_10
            go_wp2_with fail
            refine (unhide HAG _).mono ?_
            rintro e wk3 ⟨rfl, bk3⟩
            replace P := hide (cells_nx (unhide P) bk3)
            replace HB := hide (below_nx (unhide HB) bk3)
            clear bk3
            go_wp2
            go_ret
            exact ⟨rfl, unhide HB⟩
        · have HSP := hide (fun w => span_wide bk sh c1 r1 f1 g1 c2 r2 f2 g2 w)
          have HAG := hide (fun w => areaGood_val c1 r1 c2 r2 w)
          rw [if_pos rfl]
          generalize areaG c1 r1 c2 r2 = g at HAG ⊢
          go_enter Tryd.func12, Tryd.ntmps12
          go_upto_region 1 with fail
          have P := hide (cells_new w 31 #[.string bk, .string sh, .int .i64 c1, .int .i64 r1, .bool f1, .bool g1, .int .i64 c2, .int .i64 r2, .bool f2, .bool g2, .bool true])
          have HB : Hid (Below w.heap.size w (w.alloc (.cells #[.string bk, .string sh, .int .i64 c1, .int .i64 r1, .bool f1, .bool g1, .int .i64 c2, .int .i64 r2, .bool f2, .bool g2, .bool true] 31))) := hide (below_al _ _)
          generalize hW : w.alloc (.cells #[.string bk, .string sh, .int .i64 c1, .int .i64 r1, .bool f1, .bool g1, .int .i64 c2, .int .i64 r2, .bool f2, .bool g2, .bool true] 31) = W0 at P HB ⊢
          clear hW
          obtain ⟨p_0, p_1, p_2, p_3, p_4, p_5, p_6, p_7, p_8, p_9, p_10⟩ := cells11 (unhide P)
          go_wp2_with fail
          refine (unhide HNS _).mono ?_
          rintro e wk1 ⟨rfl, bk1⟩
          replace P := hide (cells_nx (unhide P) bk1)
          replace HB := hide (below_nx (unhide HB) bk1)
          clear bk1
          clear p_0 p_1 p_2 p_3 p_4 p_5 p_6 p_7 p_8 p_9 p_10
          obtain ⟨p_0, p_1, p_2, p_3, p_4, p_5, p_6, p_7, p_8, p_9, p_10⟩ := cells11 (unhide P)
          go_wp2_with fail
          refine (unhide HSP _).mono ?_
          rintro e wk2 ⟨rfl, bk2⟩
          replace P := hide (cells_nx (unhide P) bk2)
          replace HB := hide (below_nx (unhide HB) bk2)
          clear bk2
          clear p_0 p_1 p_2 p_3 p_4 p_5 p_6 p_7 p_8 p_9 p_10
          go_wp2_with fail
          refine (unhide HAG _).mono ?_
          rintro e wk3 ⟨rfl, bk3⟩
          replace P := hide (cells_nx (unhide P) bk3)
          replace HB := hide (below_nx (unhide HB) bk3)
          clear bk3
          go_wp2
          go_ret
          exact ⟨rfl, unhide HB⟩
  · rw [Bool.true_or, Bool.true_and, Bool.not_true, Bool.false_and, Bool.or_false]
    cases eB : (bk.toList == [])
    · rw [Bool.false_and]
      go_enter Tryd.func12, Tryd.ntmps12
      go_upto_region 1 with fail
      have P := hide (cells_new w 31 #[.string bk, .string sh, .int .i64 c1, .int .i64 r1, .bool f1, .bool g1, .int .i64 c2, .int .i64 r2, .bool f2, .bool g2, .bool wd])
      have HB : Hid (Below w.heap.size w (w.alloc (.cells #[.string bk, .string sh, .int .i64 c1, .int .i64 r1, .bool f1, .bool g1, .int .i64 c2, .int .i64 r2, .bool f2, .bool g2, .bool wd] 31))) := hide (below_al _ _)
      generalize hW : w.alloc (.cells #[.string bk, .string sh, .int .i64 c1, .int .i64 r1, .bool f1, .bool g1, .int .i64 c2, .int .i64 r2, .bool f2, .bool g2, .bool wd] 31) = W0 at P HB ⊢
      clear hW
      obtain ⟨p_0, p_1, p_2, p_3, p_4, p_5, p_6, p_7, p_8, p_9, p_10⟩ := cells11 (unhide P)
      go_wp2
      go_ret
      exact ⟨rfl, unhide HB⟩
    · rw [Bool.true_and]
      cases wd
      · have HSP := hide (fun w => span_one bk sh c1 r1 f1 g1 c2 r2 f2 g2 w)
        have HAG := hide (fun w => areaGood_val c1 r1 c1 r1 w)
        rw [area_one] at HAG
        have hq := fun w => rf_ne0 c2 r2 f2 g2 w
        rw [if_neg (by simp)]
        cases hz : zeroB ⟨c2, r2, f2, g2⟩
        · rw [hz] at hq
          have hz2 : ∀ b : Bool, (false && b) = false := fun _ => rfl
          rw [hz2]
          clear hz hz2
          go_enter Tryd.func12, Tryd.ntmps12
          go_upto_region 1 with fail
          have P := hide (cells_new w 31 #[.string bk, .string sh, .int .i64 c1, .int .i64 r1, .bool f1, .bool g1, .int .i64 c2, .int .i64 r2, .bool f2, .bool g2, .bool false])
          have HB : Hid (Below w.heap.size w (w.alloc (.cells #[.string bk, .string sh, .int .i64 c1, .int .i64 r1, .bool f1, .bool g1, .int .i64 c2, .int .i64 r2, .bool f2, .bool g2, .bool false] 31))) := hide (below_al _ _)
          generalize hW : w.alloc (.cells #[.string bk, .string sh, .int .i64 c1, .int .i64 r1, .bool f1, .bool g1, .int .i64 c2, .int .i64 r2, .bool f2, .bool g2, .bool false] 31) = W0 at P HB ⊢
          clear hW
          obtain ⟨p_0, p_1, p_2, p_3, p_4, p_5, p_6, p_7, p_8, p_9, p_10⟩ := cells11 (unhide P)
          go_wp2
          go_ret
          exact ⟨rfl, unhide HB⟩
        · rw [hz] at hq
          rw [Bool.true_and]
          clear hz
          generalize cellG c1 r1 = g at HAG ⊢
          go_enter Tryd.func12, Tryd.ntmps12
          go_upto_region 1 with fail
          have P := hide (cells_new w 31 #[.string bk, .string sh, .int .i64 c1, .int .i64 r1, .bool f1, .bool g1, .int .i64 c2, .int .i64 r2, .bool f2, .bool g2, .bool false])
          have HB : Hid (Below w.heap.size w (w.alloc (.cells #[.string bk, .string sh, .int .i64 c1, .int .i64 r1, .bool f1, .bool g1, .int .i64 c2, .int .i64 r2, .bool f2, .bool g2, .bool false] 31))) := hide (below_al _ _)
          generalize hW : w.alloc (.cells #[.string bk, .string sh, .int .i64 c1, .int .i64 r1, .bool f1, .bool g1, .int .i64 c2, .int .i64 r2, .bool f2, .bool g2, .bool false] 31) = W0 at P HB ⊢
          clear hW
          obtain ⟨p_0, p_1, p_2, p_3, p_4, p_5, p_6, p_7, p_8, p_9, p_10⟩ := cells11 (unhide P)
          go_wp2_with fail
          refine (unhide HSP _).mono ?_
          rintro e wk1 ⟨rfl, bk1⟩
          replace P := hide (cells_nx (unhide P) bk1)
          replace HB := hide (below_nx (unhide HB) bk1)
          clear bk1
          clear p_0 p_1 p_2 p_3 p_4 p_5 p_6 p_7 p_8 p_9 p_10
          go_wp2_with fail
          refine (unhide HAG _).mono ?_
          rintro e wk2 ⟨rfl, bk2⟩
          replace P := hide (cells_nx (unhide P) bk2)
          replace HB := hide (below_nx (unhide HB) bk2)
          clear bk2
          go_wp2
          go_ret
          exact ⟨rfl, unhide HB⟩
      · have HSP := hide (fun w => span_wide bk sh c1 r1 f1 g1 c2 r2 f2 g2 w)
        have HAG := hide (fun w => areaGood_val c1 r1 c2 r2 w)
        rw [if_pos rfl]
        generalize areaG c1 r1 c2 r2 = g at HAG ⊢
        go_enter Tryd.func12, Tryd.ntmps12
        go_upto_region 1 with fail
        have P := hide (cells_new w 31 #[.string bk, .string sh, .int .i64 c1, .int .i64 r1, .bool f1, .bool g1, .int .i64 c2, .int .i64 r2, .bool f2, .bool g2, .bool true])
        have HB : Hid (Below w.heap.size w (w.alloc (.cells #[.string bk, .string sh, .int .i64 c1, .int .i64 r1, .bool f1, .bool g1, .int .i64 c2, .int .i64 r2, .bool f2, .bool g2, .bool true] 31))) := hide (below_al _ _)
        generalize hW : w.alloc (.cells #[.string bk, .string sh, .int .i64 c1, .int .i64 r1, .bool f1, .bool g1, .int .i64 c2, .int .i64 r2, .bool f2, .bool g2, .bool true] 31) = W0 at P HB ⊢
        clear hW
        obtain ⟨p_0, p_1, p_2, p_3, p_4, p_5, p_6, p_7, p_8, p_9, p_10⟩ := cells11 (unhide P)
        go_wp2_with fail
        refine (unhide HSP _).mono ?_
        rintro e wk1 ⟨rfl, bk1⟩
        replace P := hide (cells_nx (unhide P) bk1)
        replace HB := hide (below_nx (unhide HB) bk1)
        clear bk1
        clear p_0 p_1 p_2 p_3 p_4 p_5 p_6 p_7 p_8 p_9 p_10
        go_wp2_with fail
        refine (unhide HAG _).mono ?_
        rintro e wk2 ⟨rfl, bk2⟩
        replace P := hide (cells_nx (unhide P) bk2)
        replace HB := hide (below_nx (unhide HB) bk2)
        clear bk2
        go_wp2
        go_ret
        exact ⟨rfl, unhide HB⟩
/-- The area that a reference names. -/
def areaV (f : Fl) : Array Value := if goodF f = true then (if f.wide = true then #[.int .i64 f.a.col, .int .i64 f.a.row, .int .i64 f.b.col, .int .i64 f.b.row] else #[.int .i64 f.a.col, .int .i64 f.a.row, .int .i64 f.a.col, .int .i64 f.a.row]) else #[.int .i64 0, .int .i64 0, .int .i64 0, .int .i64 0]

set_option maxRecDepth 100000 in
set_option maxHeartbeats 4000000 in
theorem fullArea_val (f : Fl) (w : World) :
    Calls Tryd.prog 36 #[.agg f.cells] w fun e w' => e = .returned (.agg (areaV f)) ∧ Below w.heap.size w w' := by
  have HG := hide (fun w => fullGood_val f w)
  unfold areaV
  cases hg : goodF f
  · rw [hg] at HG
    clear hg
    rw [if_neg (by simp)]
    obtain ⟨bk, sh, ⟨c1, r1, f1, g1⟩, ⟨c2, r2, f2, g2⟩, wd⟩ := f
    unfold Fl.cells at HG ⊢
    simp only [] at HG ⊢
    go_enter Tryd.func36, Tryd.ntmps36
    go_upto_region 1 with fail
    have P := hide (cells_al (cells_new w 31 #[.string bk, .string sh, .int .i64 c1, .int .i64 r1, .bool f1, .bool g1, .int .i64 c2, .int .i64 r2, .bool f2, .bool g2, .bool wd]) (.cells #[.int .i64 0, .int .i64 0, .int .i64 0, .int .i64 0] 48))
    have R := hide (cells_new2 w (.cells #[.string bk, .string sh, .int .i64 c1, .int .i64 r1, .bool f1, .bool g1, .int .i64 c2, .int .i64 r2, .bool f2, .bool g2, .bool wd] 31) 48 #[.int .i64 0, .int .i64 0, .int .i64 0, .int .i64 0])
    have HB : Hid (Below w.heap.size w ((w.alloc (.cells #[.string bk, .string sh, .int .i64 c1, .int .i64 r1, .bool f1, .bool g1, .int .i64 c2, .int .i64 r2, .bool f2, .bool g2, .bool wd] 31)).alloc (.cells #[.int .i64 0, .int .i64 0, .int .i64 0, .int .i64 0] 48))) := hide (below_al2 _ _ _)
    generalize hW : (w.alloc (.cells #[.string bk, .string sh, .int .i64 c1, .int .i64 r1, .bool f1, .bool g1, .int .i64 c2, .int .i64 r2, .bool f2, .bool g2, .bool wd] 31)).alloc (.cells #[.int .i64 0, .int .i64 0, .int .i64 0, .int .i64 0] 48) = W0 at P R HB ⊢
    clear hW
    obtain ⟨p_0, p_1, p_2, p_3, p_4, p_5, p_6, p_7, p_8, p_9, p_10⟩ := cells11 (unhide P)
    go_wp2_with fail
    refine (unhide HG _).mono ?_
    rintro e wk1 ⟨rfl, bk1⟩
    replace P := hide (cells_nx (unhide P) bk1)
    replace R := hide (cells_nx (unhide R) bk1)
    replace HB := hide (below_nx (unhide HB) bk1)
    clear bk1
    clear p_0 p_1 p_2 p_3 p_4 p_5 p_6 p_7 p_8 p_9 p_10
    obtain ⟨r_0, r_1, r_2, r_3⟩ := cells4 (unhide R)
    have fz_r_0 := cells_f (unhide R) 0
    have fz_r_1 := cells_f (unhide R) 1
    have fz_r_2 := cells_f (unhide R) 2
    have fz_r_3 := cells_f (unhide R) 3
    go_wp2
    refine bodyPost_ret (results_c1 rfl _ _ _ _ _ _ rfl (cells_set4 (unhide R) _ _ _ _) Tryd.underlying48 rfl (by exact infoA)) rfl ?_
    exact ⟨rfl, below_set4 (unhide HB) (by omega) _ _ _ _⟩
  · rw [hg] at HG
    clear hg
    rw [if_pos rfl]
    obtain ⟨bk, sh, ⟨c1, r1, f1, g1⟩, ⟨c2, r2, f2, g2⟩, wd⟩ := f
    unfold Fl.cells at HG ⊢
    simp only [] at HG ⊢
    cases wd
    · rw [if_neg (by simp)]
      have HSP := hide (fun w => span_one bk sh c1 r1 f1 g1 c2 r2 f2 g2 w)
      go_enter Tryd.func36, Tryd.ntmps36
      go_upto_region 1 with fail
      have P := hide (cells_al (cells_new w 31 #[.string bk, .string sh, .int .i64 c1, .int .i64 r1, .bool f1, .bool g1, .int .i64 c2, .int .i64 r2, .bool f2, .bool g2, .bool false]) (.cells #[.int .i64 0, .int .i64 0, .int .i64 0, .int .i64 0] 48))
      have R := hide (cells_new2 w (.cells #[.string bk, .string sh, .int .i64 c1, .int .i64 r1, .bool f1, .bool g1, .int .i64 c2, .int .i64 r2, .bool f2, .bool g2, .bool false] 31) 48 #[.int .i64 0, .int .i64 0, .int .i64 0, .int .i64 0])
      have HB : Hid (Below w.heap.size w ((w.alloc (.cells #[.string bk, .string sh, .int .i64 c1, .int .i64 r1, .bool f1, .bool g1, .int .i64 c2, .int .i64 r2, .bool f2, .bool g2, .bool false] 31)).alloc (.cells #[.int .i64 0, .int .i64 0, .int .i64 0, .int .i64 0] 48))) := hide (below_al2 _ _ _)
      generalize hW : (w.alloc (.cells #[.string bk, .string sh, .int .i64 c1, .int .i64 r1, .bool f1, .bool g1, .int .i64 c2, .int .i64 r2, .bool f2, .bool g2, .bool false] 31)).alloc (.cells #[.int .i64 0, .int .i64 0, .int .i64 0, .int .i64 0] 48) = W0 at P R HB ⊢
      clear hW
      obtain ⟨p_0, p_1, p_2, p_3, p_4, p_5, p_6, p_7, p_8, p_9, p_10⟩ := cells11 (unhide P)
      go_wp2_with fail
      refine (unhide HG _).mono ?_
      rintro e wk1 ⟨rfl, bk1⟩
      replace P := hide (cells_nx (unhide P) bk1)
      replace R := hide (cells_nx (unhide R) bk1)
      replace HB := hide (below_nx (unhide HB) bk1)
      clear bk1
      clear p_0 p_1 p_2 p_3 p_4 p_5 p_6 p_7 p_8 p_9 p_10
      obtain ⟨p_0, p_1, p_2, p_3, p_4, p_5, p_6, p_7, p_8, p_9, p_10⟩ := cells11 (unhide P)
      go_wp2_with fail
      refine (unhide HSP _).mono ?_
      rintro e wk2 ⟨rfl, bk2⟩
      replace P := hide (cells_nx (unhide P) bk2)
      replace R := hide (cells_nx (unhide R) bk2)
      replace HB := hide (below_nx (unhide HB) bk2)
      clear bk2
      clear p_0 p_1 p_2 p_3 p_4 p_5 p_6 p_7 p_8 p_9 p_10
      obtain ⟨r_0, r_1, r_2, r_3⟩ := cells4 (unhide R)
      have fz_r_0 := cells_f (unhide R) 0
      have fz_r_1 := cells_f (unhide R) 1
      have fz_r_2 := cells_f (unhide R) 2
      have fz_r_3 := cells_f (unhide R) 3
      go_wp2
      refine bodyPost_ret (results_c1 rfl _ _ _ _ _ _ rfl (cells_set4 (unhide R) _ _ _ _) Tryd.underlying48 rfl (by exact infoA)) rfl ?_
      exact ⟨rfl, below_set4 (unhide HB) (by omega) _ _ _ _⟩
    · rw [if_pos rfl]
      have HSP := hide (fun w => span_wide bk sh c1 r1 f1 g1 c2 r2 f2 g2 w)
      go_enter Tryd.func36, Tryd.ntmps36
      go_upto_region 1 with fail
      have P := hide (cells_al (cells_new w 31 #[.string bk, .string sh, .int .i64 c1, .int .i64 r1, .bool f1, .bool g1, .int .i64 c2, .int .i64 r2, .bool f2, .bool g2, .bool true]) (.cells #[.int .i64 0, .int .i64 0, .int .i64 0, .int .i64 0] 48))
      have R := hide (cells_new2 w (.cells #[.string bk, .string sh, .int .i64 c1, .int .i64 r1, .bool f1, .bool g1, .int .i64 c2, .int .i64 r2, .bool f2, .bool g2, .bool true] 31) 48 #[.int .i64 0, .int .i64 0, .int .i64 0, .int .i64 0])
      have HB : Hid (Below w.heap.size w ((w.alloc (.cells #[.string bk, .string sh, .int .i64 c1, .int .i64 r1, .bool f1, .bool g1, .int .i64 c2, .int .i64 r2, .bool f2, .bool g2, .bool true] 31)).alloc (.cells #[.int .i64 0, .int .i64 0, .int .i64 0, .int .i64 0] 48))) := hide (below_al2 _ _ _)
      generalize hW : (w.alloc (.cells #[.string bk, .string sh, .int .i64 c1, .int .i64 r1, .bool f1, .bool g1, .int .i64 c2, .int .i64 r2, .bool f2, .bool g2, .bool true] 31)).alloc (.cells #[.int .i64 0, .int .i64 0, .int .i64 0, .int .i64 0] 48) = W0 at P R HB ⊢
      clear hW
      obtain ⟨p_0, p_1, p_2, p_3, p_4, p_5, p_6, p_7, p_8, p_9, p_10⟩ := cells11 (unhide P)
      go_wp2_with fail
      refine (unhide HG _).mono ?_
      rintro e wk1 ⟨rfl, bk1⟩
      replace P := hide (cells_nx (unhide P) bk1)
      replace R := hide (cells_nx (unhide R) bk1)
      replace HB := hide (below_nx (unhide HB) bk1)
      clear bk1
      clear p_0 p_1 p_2 p_3 p_4 p_5 p_6 p_7 p_8 p_9 p_10
      obtain ⟨p_0, p_1, p_2, p_3, p_4, p_5, p_6, p_7, p_8, p_9, p_10⟩ := cells11 (unhide P)
      go_wp2_with fail
      refine (unhide HSP _).mono ?_
      rintro e wk2 ⟨rfl, bk2⟩
      replace P := hide (cells_nx (unhide P) bk2)
      replace R := hide (cells_nx (unhide R) bk2)
      replace HB := hide (below_nx (unhide HB) bk2)
      clear bk2
      clear p_0 p_1 p_2 p_3 p_4 p_5 p_6 p_7 p_8 p_9 p_10
      obtain ⟨r_0, r_1, r_2, r_3⟩ := cells4 (unhide R)
      have fz_r_0 := cells_f (unhide R) 0
      have fz_r_1 := cells_f (unhide R) 1
      have fz_r_2 := cells_f (unhide R) 2
      have fz_r_3 := cells_f (unhide R) 3
      go_wp2
      refine bodyPost_ret (results_c1 rfl _ _ _ _ _ _ rfl (cells_set4 (unhide R) _ _ _ _) Tryd.underlying48 rfl (by exact infoA)) rfl ?_
      exact ⟨rfl, below_set4 (unhide HB) (by omega) _ _ _ _⟩
end Go.Proofs.YtlgmpoofcdkaeaaDoor
