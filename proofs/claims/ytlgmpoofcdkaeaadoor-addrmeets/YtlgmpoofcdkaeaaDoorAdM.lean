/- The contract of the reference's Good. -/
import Derived.Test.YtlgmpoofcdkaeaaDoorAdL
namespace Go.Proofs.YtlgmpoofcdkaeaaDoor
open Go.RowKit

set_option maxRecDepth 100000 in
set_option maxHeartbeats 4000000 in
theorem good4_ref (f : Fl) (w : World) :
    Calls Tryd.prog 13 #[.agg f.cells] w fun e w' => e = .returned (.bool (goodF f)) ∧ Below w.heap.size w w' := by
  obtain ⟨bk, sh, ⟨c1, r1, f1, g1⟩, ⟨c2, r2, f2, g2⟩, wd⟩ := f
  rw [goodF_mk]
  unfold Fl.cells
  simp only []
  have HNS := hide (fun w => name_ref sh w)
  have HNB := hide (fun w => name_ref bk w)
  generalize nameG sh.data.toList = nS at HNS ⊢
  generalize nameG bk.data.toList = nB at HNB ⊢
  cases eS : (sh.toList == [])
  · rw [Bool.false_or, Bool.not_false, Bool.true_and]
    cases nS
    · have E : ∀ a b : Bool, (false && a && b) = false := fun _ _ => rfl
      rw [E]
      clear E
      go_enter Tryd.func13, Tryd.ntmps13
      go_upto_region 1 with fail
      have P := hide (cells_new w 35 #[.string bk, .string sh, .int .i64 c1, .int .i64 r1, .bool f1, .bool g1, .int .i64 c2, .int .i64 r2, .bool f2, .bool g2, .bool wd])
      have HB : Hid (Below w.heap.size w (w.alloc (.cells #[.string bk, .string sh, .int .i64 c1, .int .i64 r1, .bool f1, .bool g1, .int .i64 c2, .int .i64 r2, .bool f2, .bool g2, .bool wd] 35))) := hide (below_al _ _)
      generalize hW : w.alloc (.cells #[.string bk, .string sh, .int .i64 c1, .int .i64 r1, .bool f1, .bool g1, .int .i64 c2, .int .i64 r2, .bool f2, .bool g2, .bool wd] 35) = W0 at P HB ⊢
      clear hW
      obtain ⟨p_0, p_1, p_2, p_3, p_4, p_5, p_6, p_7, p_8, p_9, p_10⟩ := cells11 (unhide P)
      go_wp2_with fail
      refine (unhide HNS _).mono ?_
      rintro e wk1 ⟨rfl, rfl⟩
      go_wp2_with fail
      refine (unhide HNB _).mono ?_
      rintro e wk2 ⟨rfl, rfl⟩
      go_wp2
      go_ret
      exact ⟨rfl, unhide HB⟩
    · rw [Bool.true_and]
      cases eB : (bk.toList == [])
      · rw [Bool.false_or]
        cases nB
        · rw [Bool.false_and]
          go_enter Tryd.func13, Tryd.ntmps13
          go_upto_region 1 with fail
          have P := hide (cells_new w 35 #[.string bk, .string sh, .int .i64 c1, .int .i64 r1, .bool f1, .bool g1, .int .i64 c2, .int .i64 r2, .bool f2, .bool g2, .bool wd])
          have HB : Hid (Below w.heap.size w (w.alloc (.cells #[.string bk, .string sh, .int .i64 c1, .int .i64 r1, .bool f1, .bool g1, .int .i64 c2, .int .i64 r2, .bool f2, .bool g2, .bool wd] 35))) := hide (below_al _ _)
          generalize hW : w.alloc (.cells #[.string bk, .string sh, .int .i64 c1, .int .i64 r1, .bool f1, .bool g1, .int .i64 c2, .int .i64 r2, .bool f2, .bool g2, .bool wd] 35) = W0 at P HB ⊢
          clear hW
          obtain ⟨p_0, p_1, p_2, p_3, p_4, p_5, p_6, p_7, p_8, p_9, p_10⟩ := cells11 (unhide P)
          go_wp2_with fail
          refine (unhide HNS _).mono ?_
          rintro e wk1 ⟨rfl, rfl⟩
          go_wp2_with fail
          refine (unhide HNB _).mono ?_
          rintro e wk2 ⟨rfl, rfl⟩
          go_wp2
          go_ret
          exact ⟨rfl, unhide HB⟩
        · rw [Bool.true_and]
          cases wd
          · rw [if_neg (by simp)]
            have HCE := hide (fun w => cell_ref c1 r1 w)
            by_cases h1 : c2 = 0
            · by_cases h2 : r2 = 0
              · subst h1
                subst h2
                cases f2
                · cases g2
                  · have hz : zeroB ⟨0, 0, false, false⟩ = true := rfl
                    rw [hz, Bool.true_and]
                    clear hz
                    generalize cellG c1 r1 = g at HCE ⊢
                    go_enter Tryd.func13, Tryd.ntmps13
                    go_upto_region 1 with fail
                    have P := hide (cells_new w 35 #[.string bk, .string sh, .int .i64 c1, .int .i64 r1, .bool f1, .bool g1, .int .i64 0, .int .i64 0, .bool false, .bool false, .bool false])
                    have HB : Hid (Below w.heap.size w (w.alloc (.cells #[.string bk, .string sh, .int .i64 c1, .int .i64 r1, .bool f1, .bool g1, .int .i64 0, .int .i64 0, .bool false, .bool false, .bool false] 35))) := hide (below_al _ _)
                    generalize hW : w.alloc (.cells #[.string bk, .string sh, .int .i64 c1, .int .i64 r1, .bool f1, .bool g1, .int .i64 0, .int .i64 0, .bool false, .bool false, .bool false] 35) = W0 at P HB ⊢
                    clear hW
                    obtain ⟨p_0, p_1, p_2, p_3, p_4, p_5, p_6, p_7, p_8, p_9, p_10⟩ := cells11 (unhide P)
                    go_wp2_with fail
                    refine (unhide HNS _).mono ?_
                    rintro e wk1 ⟨rfl, rfl⟩
                    go_wp2_with fail
                    refine (unhide HNB _).mono ?_
                    rintro e wk2 ⟨rfl, rfl⟩
                    go_wp2_with fail
                    refine (unhide HCE _).mono ?_
                    rintro e wk3 ⟨rfl, rfl⟩
                    go_wp2
                    go_ret
                    exact ⟨rfl, unhide HB⟩
                  · have hz : zeroB ⟨0, 0, false, true⟩ = false := rfl
                    rw [hz, Bool.false_and]
                    clear hz
                    go_enter Tryd.func13, Tryd.ntmps13
                    go_upto_region 1 with fail
                    have P := hide (cells_new w 35 #[.string bk, .string sh, .int .i64 c1, .int .i64 r1, .bool f1, .bool g1, .int .i64 0, .int .i64 0, .bool false, .bool true, .bool false])
                    have HB : Hid (Below w.heap.size w (w.alloc (.cells #[.string bk, .string sh, .int .i64 c1, .int .i64 r1, .bool f1, .bool g1, .int .i64 0, .int .i64 0, .bool false, .bool true, .bool false] 35))) := hide (below_al _ _)
                    generalize hW : w.alloc (.cells #[.string bk, .string sh, .int .i64 c1, .int .i64 r1, .bool f1, .bool g1, .int .i64 0, .int .i64 0, .bool false, .bool true, .bool false] 35) = W0 at P HB ⊢
                    clear hW
                    obtain ⟨p_0, p_1, p_2, p_3, p_4, p_5, p_6, p_7, p_8, p_9, p_10⟩ := cells11 (unhide P)
                    go_wp2_with fail
                    refine (unhide HNS _).mono ?_
                    rintro e wk1 ⟨rfl, rfl⟩
                    go_wp2_with fail
                    refine (unhide HNB _).mono ?_
                    rintro e wk2 ⟨rfl, rfl⟩
                    go_wp2
                    go_ret
                    exact ⟨rfl, unhide HB⟩
                · have hz : zeroB ⟨0, 0, true, g2⟩ = false := rfl
                  rw [hz, Bool.false_and]
                  clear hz
                  go_enter Tryd.func13, Tryd.ntmps13
                  go_upto_region 1 with fail
                  have P := hide (cells_new w 35 #[.string bk, .string sh, .int .i64 c1, .int .i64 r1, .bool f1, .bool g1, .int .i64 0, .int .i64 0, .bool true, .bool g2, .bool false])
                  have HB : Hid (Below w.heap.size w (w.alloc (.cells #[.string bk, .string sh, .int .i64 c1, .int .i64 r1, .bool f1, .bool g1, .int .i64 0, .int .i64 0, .bool true, .bool g2, .bool false] 35))) := hide (below_al _ _)
                  generalize hW : w.alloc (.cells #[.string bk, .string sh, .int .i64 c1, .int .i64 r1, .bool f1, .bool g1, .int .i64 0, .int .i64 0, .bool true, .bool g2, .bool false] 35) = W0 at P HB ⊢
                  clear hW
                  obtain ⟨p_0, p_1, p_2, p_3, p_4, p_5, p_6, p_7, p_8, p_9, p_10⟩ := cells11 (unhide P)
                  go_wp2_with fail
                  refine (unhide HNS _).mono ?_
                  rintro e wk1 ⟨rfl, rfl⟩
                  go_wp2_with fail
                  refine (unhide HNB _).mono ?_
                  rintro e wk2 ⟨rfl, rfl⟩
                  go_wp2
                  go_ret
                  exact ⟨rfl, unhide HB⟩
              · have hz : zeroB ⟨c2, r2, f2, g2⟩ = false := by unfold zeroB; simp [h2]
                rw [hz, Bool.false_and]
                have hb : (r2 != 0) = true := by simpa using h2
                clear hz
                subst h1
                go_enter Tryd.func13, Tryd.ntmps13
                go_upto_region 1 with fail
                have P := hide (cells_new w 35 #[.string bk, .string sh, .int .i64 c1, .int .i64 r1, .bool f1, .bool g1, .int .i64 0, .int .i64 r2, .bool f2, .bool g2, .bool false])
                have HB : Hid (Below w.heap.size w (w.alloc (.cells #[.string bk, .string sh, .int .i64 c1, .int .i64 r1, .bool f1, .bool g1, .int .i64 0, .int .i64 r2, .bool f2, .bool g2, .bool false] 35))) := hide (below_al _ _)
                generalize hW : w.alloc (.cells #[.string bk, .string sh, .int .i64 c1, .int .i64 r1, .bool f1, .bool g1, .int .i64 0, .int .i64 r2, .bool f2, .bool g2, .bool false] 35) = W0 at P HB ⊢
                clear hW
                obtain ⟨p_0, p_1, p_2, p_3, p_4, p_5, p_6, p_7, p_8, p_9, p_10⟩ := cells11 (unhide P)
                go_wp2_with fail
                refine (unhide HNS _).mono ?_
                rintro e wk1 ⟨rfl, rfl⟩
                go_wp2_with fail
                refine (unhide HNB _).mono ?_
                rintro e wk2 ⟨rfl, rfl⟩
                go_wp2
                go_ret
                exact ⟨rfl, unhide HB⟩
            · have hz : zeroB ⟨c2, r2, f2, g2⟩ = false := by unfold zeroB; simp [h1]
              rw [hz, Bool.false_and]
              have hb : (c2 != 0) = true := by simpa using h1
              clear hz
              go_enter Tryd.func13, Tryd.ntmps13
              go_upto_region 1 with fail
              have P := hide (cells_new w 35 #[.string bk, .string sh, .int .i64 c1, .int .i64 r1, .bool f1, .bool g1, .int .i64 c2, .int .i64 r2, .bool f2, .bool g2, .bool false])
              have HB : Hid (Below w.heap.size w (w.alloc (.cells #[.string bk, .string sh, .int .i64 c1, .int .i64 r1, .bool f1, .bool g1, .int .i64 c2, .int .i64 r2, .bool f2, .bool g2, .bool false] 35))) := hide (below_al _ _)
              generalize hW : w.alloc (.cells #[.string bk, .string sh, .int .i64 c1, .int .i64 r1, .bool f1, .bool g1, .int .i64 c2, .int .i64 r2, .bool f2, .bool g2, .bool false] 35) = W0 at P HB ⊢
              clear hW
              obtain ⟨p_0, p_1, p_2, p_3, p_4, p_5, p_6, p_7, p_8, p_9, p_10⟩ := cells11 (unhide P)
              go_wp2_with fail
              refine (unhide HNS _).mono ?_
              rintro e wk1 ⟨rfl, rfl⟩
              go_wp2_with fail
              refine (unhide HNB _).mono ?_
              rintro e wk2 ⟨rfl, rfl⟩
              go_wp2
              go_ret
              exact ⟨rfl, unhide HB⟩
          · rw [if_pos rfl]
            have HAR : Hid (∀ w, Calls Tryd.prog 9 #[.agg #[.int .i64 c1, .int .i64 r1, .bool f1, .bool g1], .agg #[.int .i64 c2, .int .i64 r2, .bool f2, .bool g2]] w fun e w' => e = .returned (.tuple #[.bool (areaG c1 r1 c2 r2), .int .i64 (areaN c1 r1 c2 r2)]) ∧ Below w.heap.size w w') := hide (fun w => area_ref ⟨c1, r1, f1, g1⟩ ⟨c2, r2, f2, g2⟩ w)
            generalize areaG c1 r1 c2 r2 = g at HAR ⊢
            generalize areaN c1 r1 c2 r2 = n at HAR
            go_enter Tryd.func13, Tryd.ntmps13
            go_upto_region 1 with fail
            have P := hide (cells_new w 35 #[.string bk, .string sh, .int .i64 c1, .int .i64 r1, .bool f1, .bool g1, .int .i64 c2, .int .i64 r2, .bool f2, .bool g2, .bool true])
            have HB : Hid (Below w.heap.size w (w.alloc (.cells #[.string bk, .string sh, .int .i64 c1, .int .i64 r1, .bool f1, .bool g1, .int .i64 c2, .int .i64 r2, .bool f2, .bool g2, .bool true] 35))) := hide (below_al _ _)
            generalize hW : w.alloc (.cells #[.string bk, .string sh, .int .i64 c1, .int .i64 r1, .bool f1, .bool g1, .int .i64 c2, .int .i64 r2, .bool f2, .bool g2, .bool true] 35) = W0 at P HB ⊢
            clear hW
            obtain ⟨p_0, p_1, p_2, p_3, p_4, p_5, p_6, p_7, p_8, p_9, p_10⟩ := cells11 (unhide P)
            go_wp2_with fail
            refine (unhide HNS _).mono ?_
            rintro e wk1 ⟨rfl, rfl⟩
            go_wp2_with fail
            refine (unhide HNB _).mono ?_
            rintro e wk2 ⟨rfl, rfl⟩
            go_wp2_with fail
            refine (unhide HAR _).mono ?_
            rintro e wk3 ⟨rfl, bk3⟩
            replace P := hide (cells_nx (unhide P) bk3)
            replace HB := hide (below_nx (unhide HB) bk3)
            clear bk3
            clear p_0 p_1 p_2 p_3 p_4 p_5 p_6 p_7 p_8 p_9 p_10
            go_wp2
            go_ret
            exact ⟨rfl, unhide HB⟩
      · rw [Bool.true_or, Bool.true_and]
        cases wd
        · rw [if_neg (by simp)]
          have HCE := hide (fun w => cell_ref c1 r1 w)
          by_cases h1 : c2 = 0
          · by_cases h2 : r2 = 0
            · subst h1
              subst h2
              cases f2
              · cases g2
                · have hz : zeroB ⟨0, 0, false, false⟩ = true := rfl
                  rw [hz, Bool.true_and]
                  clear hz
                  generalize cellG c1 r1 = g at HCE ⊢
                  go_enter Tryd.func13, Tryd.ntmps13
                  go_upto_region 1 with fail
                  have P := hide (cells_new w 35 #[.string bk, .string sh, .int .i64 c1, .int .i64 r1, .bool f1, .bool g1, .int .i64 0, .int .i64 0, .bool false, .bool false, .bool false])
                  have HB : Hid (Below w.heap.size w (w.alloc (.cells #[.string bk, .string sh, .int .i64 c1, .int .i64 r1, .bool f1, .bool g1, .int .i64 0, .int .i64 0, .bool false, .bool false, .bool false] 35))) := hide (below_al _ _)
                  generalize hW : w.alloc (.cells #[.string bk, .string sh, .int .i64 c1, .int .i64 r1, .bool f1, .bool g1, .int .i64 0, .int .i64 0, .bool false, .bool false, .bool false] 35) = W0 at P HB ⊢
                  clear hW
                  obtain ⟨p_0, p_1, p_2, p_3, p_4, p_5, p_6, p_7, p_8, p_9, p_10⟩ := cells11 (unhide P)
                  go_wp2_with fail
                  refine (unhide HNS _).mono ?_
                  rintro e wk1 ⟨rfl, rfl⟩
                  go_wp2_with fail
                  refine (unhide HNB _).mono ?_
                  rintro e wk2 ⟨rfl, rfl⟩
                  go_wp2_with fail
                  refine (unhide HCE _).mono ?_
                  rintro e wk3 ⟨rfl, rfl⟩
                  go_wp2
                  go_ret
                  exact ⟨rfl, unhide HB⟩
                · have hz : zeroB ⟨0, 0, false, true⟩ = false := rfl
                  rw [hz, Bool.false_and]
                  clear hz
                  go_enter Tryd.func13, Tryd.ntmps13
                  go_upto_region 1 with fail
                  have P := hide (cells_new w 35 #[.string bk, .string sh, .int .i64 c1, .int .i64 r1, .bool f1, .bool g1, .int .i64 0, .int .i64 0, .bool false, .bool true, .bool false])
                  have HB : Hid (Below w.heap.size w (w.alloc (.cells #[.string bk, .string sh, .int .i64 c1, .int .i64 r1, .bool f1, .bool g1, .int .i64 0, .int .i64 0, .bool false, .bool true, .bool false] 35))) := hide (below_al _ _)
                  generalize hW : w.alloc (.cells #[.string bk, .string sh, .int .i64 c1, .int .i64 r1, .bool f1, .bool g1, .int .i64 0, .int .i64 0, .bool false, .bool true, .bool false] 35) = W0 at P HB ⊢
                  clear hW
                  obtain ⟨p_0, p_1, p_2, p_3, p_4, p_5, p_6, p_7, p_8, p_9, p_10⟩ := cells11 (unhide P)
                  go_wp2_with fail
                  refine (unhide HNS _).mono ?_
                  rintro e wk1 ⟨rfl, rfl⟩
                  go_wp2_with fail
                  refine (unhide HNB _).mono ?_
                  rintro e wk2 ⟨rfl, rfl⟩
                  go_wp2
                  go_ret
                  exact ⟨rfl, unhide HB⟩
              · have hz : zeroB ⟨0, 0, true, g2⟩ = false := rfl
                rw [hz, Bool.false_and]
                clear hz
                go_enter Tryd.func13, Tryd.ntmps13
                go_upto_region 1 with fail
                have P := hide (cells_new w 35 #[.string bk, .string sh, .int .i64 c1, .int .i64 r1, .bool f1, .bool g1, .int .i64 0, .int .i64 0, .bool true, .bool g2, .bool false])
                have HB : Hid (Below w.heap.size w (w.alloc (.cells #[.string bk, .string sh, .int .i64 c1, .int .i64 r1, .bool f1, .bool g1, .int .i64 0, .int .i64 0, .bool true, .bool g2, .bool false] 35))) := hide (below_al _ _)
                generalize hW : w.alloc (.cells #[.string bk, .string sh, .int .i64 c1, .int .i64 r1, .bool f1, .bool g1, .int .i64 0, .int .i64 0, .bool true, .bool g2, .bool false] 35) = W0 at P HB ⊢
                clear hW
                obtain ⟨p_0, p_1, p_2, p_3, p_4, p_5, p_6, p_7, p_8, p_9, p_10⟩ := cells11 (unhide P)
                go_wp2_with fail
                refine (unhide HNS _).mono ?_
                rintro e wk1 ⟨rfl, rfl⟩
                go_wp2_with fail
                refine (unhide HNB _).mono ?_
                rintro e wk2 ⟨rfl, rfl⟩
                go_wp2
                go_ret
                exact ⟨rfl, unhide HB⟩
            · have hz : zeroB ⟨c2, r2, f2, g2⟩ = false := by unfold zeroB; simp [h2]
              rw [hz, Bool.false_and]
              have hb : (r2 != 0) = true := by simpa using h2
              clear hz
              subst h1
              go_enter Tryd.func13, Tryd.ntmps13
              go_upto_region 1 with fail
              have P := hide (cells_new w 35 #[.string bk, .string sh, .int .i64 c1, .int .i64 r1, .bool f1, .bool g1, .int .i64 0, .int .i64 r2, .bool f2, .bool g2, .bool false])
              have HB : Hid (Below w.heap.size w (w.alloc (.cells #[.string bk, .string sh, .int .i64 c1, .int .i64 r1, .bool f1, .bool g1, .int .i64 0, .int .i64 r2, .bool f2, .bool g2, .bool false] 35))) := hide (below_al _ _)
              generalize hW : w.alloc (.cells #[.string bk, .string sh, .int .i64 c1, .int .i64 r1, .bool f1, .bool g1, .int .i64 0, .int .i64 r2, .bool f2, .bool g2, .bool false] 35) = W0 at P HB ⊢
              clear hW
              obtain ⟨p_0, p_1, p_2, p_3, p_4, p_5, p_6, p_7, p_8, p_9, p_10⟩ := cells11 (unhide P)
              go_wp2_with fail
              refine (unhide HNS _).mono ?_
              rintro e wk1 ⟨rfl, rfl⟩
              go_wp2_with fail
              refine (unhide HNB _).mono ?_
              rintro e wk2 ⟨rfl, rfl⟩
              go_wp2
              go_ret
              exact ⟨rfl, unhide HB⟩
          · have hz : zeroB ⟨c2, r2, f2, g2⟩ = false := by unfold zeroB; simp [h1]
            rw [hz, Bool.false_and]
            have hb : (c2 != 0) = true := by simpa using h1
            clear hz
            go_enter Tryd.func13, Tryd.ntmps13
            go_upto_region 1 with fail
            have P := hide (cells_new w 35 #[.string bk, .string sh, .int .i64 c1, .int .i64 r1, .bool f1, .bool g1, .int .i64 c2, .int .i64 r2, .bool f2, .bool g2, .bool false])
            have HB : Hid (Below w.heap.size w (w.alloc (.cells #[.string bk, .string sh, .int .i64 c1, .int .i64 r1, .bool f1, .bool g1, .int .i64 c2, .int .i64 r2, .bool f2, .bool g2, .bool false] 35))) := hide (below_al _ _)
            generalize hW : w.alloc (.cells #[.string bk, .string sh, .int .i64 c1, .int .i64 r1, .bool f1, .bool g1, .int .i64 c2, .int .i64 r2, .bool f2, .bool g2, .bool false] 35) = W0 at P HB ⊢
            clear hW
            obtain ⟨p_0, p_1, p_2, p_3, p_4, p_5, p_6, p_7, p_8, p_9, p_10⟩ := cells11 (unhide P)
            go_wp2_with fail
            refine (unhide HNS _).mono ?_
            rintro e wk1 ⟨rfl, rfl⟩
            go_wp2_with fail
            refine (unhide HNB _).mono ?_
            rintro e wk2 ⟨rfl, rfl⟩
            go_wp2
            go_ret
            exact ⟨rfl, unhide HB⟩
        · rw [if_pos rfl]
          have HAR : Hid (∀ w, Calls Tryd.prog 9 #[.agg #[.int .i64 c1, .int .i64 r1, .bool f1, .bool g1], .agg #[.int .i64 c2, .int .i64 r2, .bool f2, .bool g2]] w fun e w' => e = .returned (.tuple #[.bool (areaG c1 r1 c2 r2), .int .i64 (areaN c1 r1 c2 r2)]) ∧ Below w.heap.size w w') := hide (fun w => area_ref ⟨c1, r1, f1, g1⟩ ⟨c2, r2, f2, g2⟩ w)
          generalize areaG c1 r1 c2 r2 = g at HAR ⊢
          generalize areaN c1 r1 c2 r2 = n at HAR
          go_enter Tryd.func13, Tryd.ntmps13
          go_upto_region 1 with fail
          have P := hide (cells_new w 35 #[.string bk, .string sh, .int .i64 c1, .int .i64 r1, .bool f1, .bool g1, .int .i64 c2, .int .i64 r2, .bool f2, .bool g2, .bool true])
          have HB : Hid (Below w.heap.size w (w.alloc (.cells #[.string bk, .string sh, .int .i64 c1, .int .i64 r1, .bool f1, .bool g1, .int .i64 c2, .int .i64 r2, .bool f2, .bool g2, .bool true] 35))) := hide (below_al _ _)
          generalize hW : w.alloc (.cells #[.string bk, .string sh, .int .i64 c1, .int .i64 r1, .bool f1, .bool g1, .int .i64 c2, .int .i64 r2, .bool f2, .bool g2, .bool true] 35) = W0 at P HB ⊢
          clear hW
          obtain ⟨p_0, p_1, p_2, p_3, p_4, p_5, p_6, p_7, p_8, p_9, p_10⟩ := cells11 (unhide P)
          go_wp2_with fail
          refine (unhide HNS _).mono ?_
          rintro e wk1 ⟨rfl, rfl⟩
          go_wp2_with fail
          refine (unhide HNB _).mono ?_
          rintro e wk2 ⟨rfl, rfl⟩
          go_wp2_with fail
          refine (unhide HAR _).mono ?_
          rintro e wk3 ⟨rfl, bk3⟩
          replace P := hide (cells_nx (unhide P) bk3)
          replace HB := hide (below_nx (unhide HB) bk3)
          clear bk3
          clear p_0 p_1 p_2 p_3 p_4 p_5 p_6 p_7 p_8 p_9 p_10
          go_wp2
          go_ret
          exact ⟨rfl, unhide HB⟩
  · rw [Bool.true_or, Bool.true_and, Bool.not_true, Bool.false_and, Bool.or_false]
    cases eB : (bk.toList == [])
    · rw [Bool.false_and]
      cases nB
      · go_enter Tryd.func13, Tryd.ntmps13
        go_upto_region 1 with fail
        have P := hide (cells_new w 35 #[.string bk, .string sh, .int .i64 c1, .int .i64 r1, .bool f1, .bool g1, .int .i64 c2, .int .i64 r2, .bool f2, .bool g2, .bool wd])
        have HB : Hid (Below w.heap.size w (w.alloc (.cells #[.string bk, .string sh, .int .i64 c1, .int .i64 r1, .bool f1, .bool g1, .int .i64 c2, .int .i64 r2, .bool f2, .bool g2, .bool wd] 35))) := hide (below_al _ _)
        generalize hW : w.alloc (.cells #[.string bk, .string sh, .int .i64 c1, .int .i64 r1, .bool f1, .bool g1, .int .i64 c2, .int .i64 r2, .bool f2, .bool g2, .bool wd] 35) = W0 at P HB ⊢
        clear hW
        obtain ⟨p_0, p_1, p_2, p_3, p_4, p_5, p_6, p_7, p_8, p_9, p_10⟩ := cells11 (unhide P)
        go_wp2_with fail
        refine (unhide HNS _).mono ?_
        rintro e wk1 ⟨rfl, rfl⟩
        go_wp2_with fail
        refine (unhide HNB _).mono ?_
        rintro e wk2 ⟨rfl, rfl⟩
        go_wp2
        go_ret
        exact ⟨rfl, unhide HB⟩
      · go_enter Tryd.func13, Tryd.ntmps13
        go_upto_region 1 with fail
        have P := hide (cells_new w 35 #[.string bk, .string sh, .int .i64 c1, .int .i64 r1, .bool f1, .bool g1, .int .i64 c2, .int .i64 r2, .bool f2, .bool g2, .bool wd])
        have HB : Hid (Below w.heap.size w (w.alloc (.cells #[.string bk, .string sh, .int .i64 c1, .int .i64 r1, .bool f1, .bool g1, .int .i64 c2, .int .i64 r2, .bool f2, .bool g2, .bool wd] 35))) := hide (below_al _ _)
        generalize hW : w.alloc (.cells #[.string bk, .string sh, .int .i64 c1, .int .i64 r1, .bool f1, .bool g1, .int .i64 c2, .int .i64 r2, .bool f2, .bool g2, .bool wd] 35) = W0 at P HB ⊢
        clear hW
        obtain ⟨p_0, p_1, p_2, p_3, p_4, p_5, p_6, p_7, p_8, p_9, p_10⟩ := cells11 (unhide P)
        go_wp2_with fail
        refine (unhide HNS _).mono ?_
        rintro e wk1 ⟨rfl, rfl⟩
        go_wp2_with fail
        refine (unhide HNB _).mono ?_
        rintro e wk2 ⟨rfl, rfl⟩
        go_wp2
        go_ret
        exact ⟨rfl, unhide HB⟩
    · rw [Bool.true_and]
      cases wd
      · rw [if_neg (by simp)]
        have HCE := hide (fun w => cell_ref c1 r1 w)
        by_cases h1 : c2 = 0
        · by_cases h2 : r2 = 0
          · subst h1
            subst h2
            cases f2
            · cases g2
              · have hz : zeroB ⟨0, 0, false, false⟩ = true := rfl
                rw [hz, Bool.true_and]
                clear hz
                generalize cellG c1 r1 = g at HCE ⊢
                go_enter Tryd.func13, Tryd.ntmps13
                go_upto_region 1 with fail
                have P := hide (cells_new w 35 #[.string bk, .string sh, .int .i64 c1, .int .i64 r1, .bool f1, .bool g1, .int .i64 0, .int .i64 0, .bool false, .bool false, .bool false])
                have HB : Hid (Below w.heap.size w (w.alloc (.cells #[.string bk, .string sh, .int .i64 c1, .int .i64 r1, .bool f1, .bool g1, .int .i64 0, .int .i64 0, .bool false, .bool false, .bool false] 35))) := hide (below_al _ _)
                generalize hW : w.alloc (.cells #[.string bk, .string sh, .int .i64 c1, .int .i64 r1, .bool f1, .bool g1, .int .i64 0, .int .i64 0, .bool false, .bool false, .bool false] 35) = W0 at P HB ⊢
                clear hW
                obtain ⟨p_0, p_1, p_2, p_3, p_4, p_5, p_6, p_7, p_8, p_9, p_10⟩ := cells11 (unhide P)
                go_wp2_with fail
                refine (unhide HNS _).mono ?_
                rintro e wk1 ⟨rfl, rfl⟩
                go_wp2_with fail
                refine (unhide HNB _).mono ?_
                rintro e wk2 ⟨rfl, rfl⟩
                go_wp2_with fail
                refine (unhide HCE _).mono ?_
                rintro e wk3 ⟨rfl, rfl⟩
                go_wp2
                go_ret
                exact ⟨rfl, unhide HB⟩
              · have hz : zeroB ⟨0, 0, false, true⟩ = false := rfl
                rw [hz, Bool.false_and]
                clear hz
                go_enter Tryd.func13, Tryd.ntmps13
                go_upto_region 1 with fail
                have P := hide (cells_new w 35 #[.string bk, .string sh, .int .i64 c1, .int .i64 r1, .bool f1, .bool g1, .int .i64 0, .int .i64 0, .bool false, .bool true, .bool false])
                have HB : Hid (Below w.heap.size w (w.alloc (.cells #[.string bk, .string sh, .int .i64 c1, .int .i64 r1, .bool f1, .bool g1, .int .i64 0, .int .i64 0, .bool false, .bool true, .bool false] 35))) := hide (below_al _ _)
                generalize hW : w.alloc (.cells #[.string bk, .string sh, .int .i64 c1, .int .i64 r1, .bool f1, .bool g1, .int .i64 0, .int .i64 0, .bool false, .bool true, .bool false] 35) = W0 at P HB ⊢
                clear hW
                obtain ⟨p_0, p_1, p_2, p_3, p_4, p_5, p_6, p_7, p_8, p_9, p_10⟩ := cells11 (unhide P)
                go_wp2_with fail
                refine (unhide HNS _).mono ?_
                rintro e wk1 ⟨rfl, rfl⟩
                go_wp2_with fail
                refine (unhide HNB _).mono ?_
                rintro e wk2 ⟨rfl, rfl⟩
                go_wp2
                go_ret
                exact ⟨rfl, unhide HB⟩
            · have hz : zeroB ⟨0, 0, true, g2⟩ = false := rfl
              rw [hz, Bool.false_and]
              clear hz
              go_enter Tryd.func13, Tryd.ntmps13
              go_upto_region 1 with fail
              have P := hide (cells_new w 35 #[.string bk, .string sh, .int .i64 c1, .int .i64 r1, .bool f1, .bool g1, .int .i64 0, .int .i64 0, .bool true, .bool g2, .bool false])
              have HB : Hid (Below w.heap.size w (w.alloc (.cells #[.string bk, .string sh, .int .i64 c1, .int .i64 r1, .bool f1, .bool g1, .int .i64 0, .int .i64 0, .bool true, .bool g2, .bool false] 35))) := hide (below_al _ _)
              generalize hW : w.alloc (.cells #[.string bk, .string sh, .int .i64 c1, .int .i64 r1, .bool f1, .bool g1, .int .i64 0, .int .i64 0, .bool true, .bool g2, .bool false] 35) = W0 at P HB ⊢
              clear hW
              obtain ⟨p_0, p_1, p_2, p_3, p_4, p_5, p_6, p_7, p_8, p_9, p_10⟩ := cells11 (unhide P)
              go_wp2_with fail
              refine (unhide HNS _).mono ?_
              rintro e wk1 ⟨rfl, rfl⟩
              go_wp2_with fail
              refine (unhide HNB _).mono ?_
              rintro e wk2 ⟨rfl, rfl⟩
              go_wp2
              go_ret
              exact ⟨rfl, unhide HB⟩
          · have hz : zeroB ⟨c2, r2, f2, g2⟩ = false := by unfold zeroB; simp [h2]
            rw [hz, Bool.false_and]
            have hb : (r2 != 0) = true := by simpa using h2
            clear hz
            subst h1
            go_enter Tryd.func13, Tryd.ntmps13
            go_upto_region 1 with fail
            have P := hide (cells_new w 35 #[.string bk, .string sh, .int .i64 c1, .int .i64 r1, .bool f1, .bool g1, .int .i64 0, .int .i64 r2, .bool f2, .bool g2, .bool false])
            have HB : Hid (Below w.heap.size w (w.alloc (.cells #[.string bk, .string sh, .int .i64 c1, .int .i64 r1, .bool f1, .bool g1, .int .i64 0, .int .i64 r2, .bool f2, .bool g2, .bool false] 35))) := hide (below_al _ _)
            generalize hW : w.alloc (.cells #[.string bk, .string sh, .int .i64 c1, .int .i64 r1, .bool f1, .bool g1, .int .i64 0, .int .i64 r2, .bool f2, .bool g2, .bool false] 35) = W0 at P HB ⊢
            clear hW
            obtain ⟨p_0, p_1, p_2, p_3, p_4, p_5, p_6, p_7, p_8, p_9, p_10⟩ := cells11 (unhide P)
            go_wp2_with fail
            refine (unhide HNS _).mono ?_
            rintro e wk1 ⟨rfl, rfl⟩
            go_wp2_with fail
            refine (unhide HNB _).mono ?_
            rintro e wk2 ⟨rfl, rfl⟩
            go_wp2
            go_ret
            exact ⟨rfl, unhide HB⟩
        · have hz : zeroB ⟨c2, r2, f2, g2⟩ = false := by unfold zeroB; simp [h1]
          rw [hz, Bool.false_and]
          have hb : (c2 != 0) = true := by simpa using h1
          clear hz
          go_enter Tryd.func13, Tryd.ntmps13
          go_upto_region 1 with fail
          have P := hide (cells_new w 35 #[.string bk, .string sh, .int .i64 c1, .int .i64 r1, .bool f1, .bool g1, .int .i64 c2, .int .i64 r2, .bool f2, .bool g2, .bool false])
          have HB : Hid (Below w.heap.size w (w.alloc (.cells #[.string bk, .string sh, .int .i64 c1, .int .i64 r1, .bool f1, .bool g1, .int .i64 c2, .int .i64 r2, .bool f2, .bool g2, .bool false] 35))) := hide (below_al _ _)
          generalize hW : w.alloc (.cells #[.string bk, .string sh, .int .i64 c1, .int .i64 r1, .bool f1, .bool g1, .int .i64 c2, .int .i64 r2, .bool f2, .bool g2, .bool false] 35) = W0 at P HB ⊢
          clear hW
          obtain ⟨p_0, p_1, p_2, p_3, p_4, p_5, p_6, p_7, p_8, p_9, p_10⟩ := cells11 (unhide P)
          go_wp2_with fail
          refine (unhide HNS _).mono ?_
          rintro e wk1 ⟨rfl, rfl⟩
          go_wp2_with fail
          refine (unhide HNB _).mono ?_
          rintro e wk2 ⟨rfl, rfl⟩
          go_wp2
          go_ret
          exact ⟨rfl, unhide HB⟩
      · rw [if_pos rfl]
        have HAR : Hid (∀ w, Calls Tryd.prog 9 #[.agg #[.int .i64 c1, .int .i64 r1, .bool f1, .bool g1], .agg #[.int .i64 c2, .int .i64 r2, .bool f2, .bool g2]] w fun e w' => e = .returned (.tuple #[.bool (areaG c1 r1 c2 r2), .int .i64 (areaN c1 r1 c2 r2)]) ∧ Below w.heap.size w w') := hide (fun w => area_ref ⟨c1, r1, f1, g1⟩ ⟨c2, r2, f2, g2⟩ w)
        generalize areaG c1 r1 c2 r2 = g at HAR ⊢
        generalize areaN c1 r1 c2 r2 = n at HAR
        go_enter Tryd.func13, Tryd.ntmps13
        go_upto_region 1 with fail
        have P := hide (cells_new w 35 #[.string bk, .string sh, .int .i64 c1, .int .i64 r1, .bool f1, .bool g1, .int .i64 c2, .int .i64 r2, .bool f2, .bool g2, .bool true])
        have HB : Hid (Below w.heap.size w (w.alloc (.cells #[.string bk, .string sh, .int .i64 c1, .int .i64 r1, .bool f1, .bool g1, .int .i64 c2, .int .i64 r2, .bool f2, .bool g2, .bool true] 35))) := hide (below_al _ _)
        generalize hW : w.alloc (.cells #[.string bk, .string sh, .int .i64 c1, .int .i64 r1, .bool f1, .bool g1, .int .i64 c2, .int .i64 r2, .bool f2, .bool g2, .bool true] 35) = W0 at P HB ⊢
        clear hW
        obtain ⟨p_0, p_1, p_2, p_3, p_4, p_5, p_6, p_7, p_8, p_9, p_10⟩ := cells11 (unhide P)
        go_wp2_with fail
        refine (unhide HNS _).mono ?_
        rintro e wk1 ⟨rfl, rfl⟩
        go_wp2_with fail
        refine (unhide HNB _).mono ?_
        rintro e wk2 ⟨rfl, rfl⟩
        go_wp2_with fail
        refine (unhide HAR _).mono ?_
        rintro e wk3 ⟨rfl, bk3⟩
        replace P := hide (cells_nx (unhide P) bk3)
        replace HB := hide (below_nx (unhide HB) bk3)
        clear bk3
        clear p_0 p_1 p_2 p_3 p_4 p_5 p_6 p_7 p_8 p_9 p_10
        go_wp2
        go_ret
        exact ⟨rfl, unhide HB⟩
end Go.Proofs.YtlgmpoofcdkaeaaDoor
