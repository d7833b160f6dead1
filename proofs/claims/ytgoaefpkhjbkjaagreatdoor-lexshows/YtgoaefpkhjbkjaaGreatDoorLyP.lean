/- The contract of the reference's Show. -/
import Derived.Test.YtgoaefpkhjbkjaaGreatDoorLyQ
import Derived.Test.YtgoaefpkhjbkjaaGreatDoorAdU
import Derived.Test.YtgoaefpkhjbkjaaGreatDoorRfT
import Derived.Test.YtgoaefpkhjbkjaaGreatDoorVrZ
namespace Go.Proofs.YtgoaefpkhjbkjaaGreatDoor
open Go.RowKit

set_option maxRecDepth 100000 in
set_option maxHeartbeats 2000000 in
theorem sh_numr (tx bk sh : ByteArray) (nm fl c1 r1 c2 r2 pl : Int) (f1 g1 f2 g2 wd : Bool) (w : World) (tb : ByteArray) (HK : Hid (∀ w : World, Calls Tryz.prog 25 #[.int .i64 nm] w fun e w' => e = .returned (.string tb) ∧ Below w.heap.size w w')) :
    Calls Tryz.prog 15 #[.agg #[.int .i64 0, .string tx, .int .i64 nm, .int .i64 fl, .string bk, .string sh, .int .i64 c1, .int .i64 r1, .bool f1, .bool g1, .int .i64 c2, .int .i64 r2, .bool f2, .bool g2, .bool wd, .int .i64 pl]] w fun e w' => e = .returned (.string tb) ∧ Below w.heap.size w w' := by
  go_enter Tryz.func15, Tryz.ntmps15
  go_upto_region 1 with fail
  have R := hide (cells_new w 47 #[.int .i64 0, .string tx, .int .i64 nm, .int .i64 fl, .string bk, .string sh, .int .i64 c1, .int .i64 r1, .bool f1, .bool g1, .int .i64 c2, .int .i64 r2, .bool f2, .bool g2, .bool wd, .int .i64 pl])
  have HB : Hid (Below w.heap.size w (w.alloc (.cells #[.int .i64 0, .string tx, .int .i64 nm, .int .i64 fl, .string bk, .string sh, .int .i64 c1, .int .i64 r1, .bool f1, .bool g1, .int .i64 c2, .int .i64 r2, .bool f2, .bool g2, .bool wd, .int .i64 pl] 47))) := hide (below_al _ _)
  generalize hW : w.alloc (.cells #[.int .i64 0, .string tx, .int .i64 nm, .int .i64 fl, .string bk, .string sh, .int .i64 c1, .int .i64 r1, .bool f1, .bool g1, .int .i64 c2, .int .i64 r2, .bool f2, .bool g2, .bool wd, .int .i64 pl] 47) = W0 at R HB ⊢
  clear hW
  obtain ⟨r_0, r_1, r_2, r_3, r_4, r_5, r_6, r_7, r_8, r_9, r_10, r_11, r_12, r_13, r_14, r_15⟩ := cells16 (unhide R)
  go_wp2_with fail
  refine (unhide HK _).mono ?_
  rintro e wk1 ⟨rfl, bk1⟩
  replace R := hide (cells_nx (unhide R) bk1)
  replace HB := hide (below_nx (unhide HB) bk1)
  clear bk1
  clear r_0 r_1 r_2 r_3 r_4 r_5 r_6 r_7 r_8 r_9 r_10 r_11 r_12 r_13 r_14 r_15
  go_wp2
  go_ret
  exact ⟨rfl, unhide HB⟩
set_option maxRecDepth 100000 in
set_option maxHeartbeats 2000000 in
theorem sh_textr (tx bk sh : ByteArray) (nm fl c1 r1 c2 r2 pl : Int) (f1 g1 f2 g2 wd : Bool) (w : World) (tb : ByteArray) (HK : Hid (∀ w : World, Calls Tryz.prog 26 #[.string tx] w fun e w' => e = .returned (.string tb) ∧ Below w.heap.size w w')) :
    Calls Tryz.prog 15 #[.agg #[.int .i64 1, .string tx, .int .i64 nm, .int .i64 fl, .string bk, .string sh, .int .i64 c1, .int .i64 r1, .bool f1, .bool g1, .int .i64 c2, .int .i64 r2, .bool f2, .bool g2, .bool wd, .int .i64 pl]] w fun e w' => e = .returned (.string tb) ∧ Below w.heap.size w w' := by
  go_enter Tryz.func15, Tryz.ntmps15
  go_upto_region 1 with fail
  have R := hide (cells_new w 47 #[.int .i64 1, .string tx, .int .i64 nm, .int .i64 fl, .string bk, .string sh, .int .i64 c1, .int .i64 r1, .bool f1, .bool g1, .int .i64 c2, .int .i64 r2, .bool f2, .bool g2, .bool wd, .int .i64 pl])
  have HB : Hid (Below w.heap.size w (w.alloc (.cells #[.int .i64 1, .string tx, .int .i64 nm, .int .i64 fl, .string bk, .string sh, .int .i64 c1, .int .i64 r1, .bool f1, .bool g1, .int .i64 c2, .int .i64 r2, .bool f2, .bool g2, .bool wd, .int .i64 pl] 47))) := hide (below_al _ _)
  generalize hW : w.alloc (.cells #[.int .i64 1, .string tx, .int .i64 nm, .int .i64 fl, .string bk, .string sh, .int .i64 c1, .int .i64 r1, .bool f1, .bool g1, .int .i64 c2, .int .i64 r2, .bool f2, .bool g2, .bool wd, .int .i64 pl] 47) = W0 at R HB ⊢
  clear hW
  obtain ⟨r_0, r_1, r_2, r_3, r_4, r_5, r_6, r_7, r_8, r_9, r_10, r_11, r_12, r_13, r_14, r_15⟩ := cells16 (unhide R)
  go_wp2_with fail
  refine (unhide HK _).mono ?_
  rintro e wk1 ⟨rfl, bk1⟩
  replace R := hide (cells_nx (unhide R) bk1)
  replace HB := hide (below_nx (unhide HB) bk1)
  clear bk1
  clear r_0 r_1 r_2 r_3 r_4 r_5 r_6 r_7 r_8 r_9 r_10 r_11 r_12 r_13 r_14 r_15
  go_wp2
  go_ret
  exact ⟨rfl, unhide HB⟩
set_option maxRecDepth 100000 in
set_option maxHeartbeats 2000000 in
theorem sh_failr (tx bk sh : ByteArray) (nm fl c1 r1 c2 r2 pl : Int) (f1 g1 f2 g2 wd : Bool) (w : World) (tb : ByteArray) (HK : Hid (∀ w : World, Calls Tryz.prog 27 #[.int .i64 fl] w fun e w' => e = .returned (.string tb) ∧ Below w.heap.size w w')) :
    Calls Tryz.prog 15 #[.agg #[.int .i64 2, .string tx, .int .i64 nm, .int .i64 fl, .string bk, .string sh, .int .i64 c1, .int .i64 r1, .bool f1, .bool g1, .int .i64 c2, .int .i64 r2, .bool f2, .bool g2, .bool wd, .int .i64 pl]] w fun e w' => e = .returned (.string tb) ∧ Below w.heap.size w w' := by
  go_enter Tryz.func15, Tryz.ntmps15
  go_upto_region 1 with fail
  have R := hide (cells_new w 47 #[.int .i64 2, .string tx, .int .i64 nm, .int .i64 fl, .string bk, .string sh, .int .i64 c1, .int .i64 r1, .bool f1, .bool g1, .int .i64 c2, .int .i64 r2, .bool f2, .bool g2, .bool wd, .int .i64 pl])
  have HB : Hid (Below w.heap.size w (w.alloc (.cells #[.int .i64 2, .string tx, .int .i64 nm, .int .i64 fl, .string bk, .string sh, .int .i64 c1, .int .i64 r1, .bool f1, .bool g1, .int .i64 c2, .int .i64 r2, .bool f2, .bool g2, .bool wd, .int .i64 pl] 47))) := hide (below_al _ _)
  generalize hW : w.alloc (.cells #[.int .i64 2, .string tx, .int .i64 nm, .int .i64 fl, .string bk, .string sh, .int .i64 c1, .int .i64 r1, .bool f1, .bool g1, .int .i64 c2, .int .i64 r2, .bool f2, .bool g2, .bool wd, .int .i64 pl] 47) = W0 at R HB ⊢
  clear hW
  obtain ⟨r_0, r_1, r_2, r_3, r_4, r_5, r_6, r_7, r_8, r_9, r_10, r_11, r_12, r_13, r_14, r_15⟩ := cells16 (unhide R)
  go_wp2_with fail
  refine (unhide HK _).mono ?_
  rintro e wk1 ⟨rfl, bk1⟩
  replace R := hide (cells_nx (unhide R) bk1)
  replace HB := hide (below_nx (unhide HB) bk1)
  clear bk1
  clear r_0 r_1 r_2 r_3 r_4 r_5 r_6 r_7 r_8 r_9 r_10 r_11 r_12 r_13 r_14 r_15
  go_wp2
  go_ret
  exact ⟨rfl, unhide HB⟩
set_option maxRecDepth 100000 in
set_option maxHeartbeats 2000000 in
theorem sh_refr (tx bk sh : ByteArray) (nm fl c1 r1 c2 r2 pl : Int) (f1 g1 f2 g2 wd : Bool) (w : World) (tb : ByteArray) (HK : Hid (∀ w : World, Calls Tryz.prog 28 #[.agg #[.string bk, .string sh, .int .i64 c1, .int .i64 r1, .bool f1, .bool g1, .int .i64 c2, .int .i64 r2, .bool f2, .bool g2, .bool wd]] w fun e w' => e = .returned (.string tb) ∧ Below w.heap.size w w')) :
    Calls Tryz.prog 15 #[.agg #[.int .i64 3, .string tx, .int .i64 nm, .int .i64 fl, .string bk, .string sh, .int .i64 c1, .int .i64 r1, .bool f1, .bool g1, .int .i64 c2, .int .i64 r2, .bool f2, .bool g2, .bool wd, .int .i64 pl]] w fun e w' => e = .returned (.string tb) ∧ Below w.heap.size w w' := by
  go_enter Tryz.func15, Tryz.ntmps15
  go_upto_region 1 with fail
  have R := hide (cells_new w 47 #[.int .i64 3, .string tx, .int .i64 nm, .int .i64 fl, .string bk, .string sh, .int .i64 c1, .int .i64 r1, .bool f1, .bool g1, .int .i64 c2, .int .i64 r2, .bool f2, .bool g2, .bool wd, .int .i64 pl])
  have HB : Hid (Below w.heap.size w (w.alloc (.cells #[.int .i64 3, .string tx, .int .i64 nm, .int .i64 fl, .string bk, .string sh, .int .i64 c1, .int .i64 r1, .bool f1, .bool g1, .int .i64 c2, .int .i64 r2, .bool f2, .bool g2, .bool wd, .int .i64 pl] 47))) := hide (below_al _ _)
  generalize hW : w.alloc (.cells #[.int .i64 3, .string tx, .int .i64 nm, .int .i64 fl, .string bk, .string sh, .int .i64 c1, .int .i64 r1, .bool f1, .bool g1, .int .i64 c2, .int .i64 r2, .bool f2, .bool g2, .bool wd, .int .i64 pl] 47) = W0 at R HB ⊢
  clear hW
  obtain ⟨r_0, r_1, r_2, r_3, r_4, r_5, r_6, r_7, r_8, r_9, r_10, r_11, r_12, r_13, r_14, r_15⟩ := cells16 (unhide R)
  go_wp2_with fail
  refine (unhide HK _).mono ?_
  rintro e wk1 ⟨rfl, bk1⟩
  replace R := hide (cells_nx (unhide R) bk1)
  replace HB := hide (below_nx (unhide HB) bk1)
  clear bk1
  clear r_0 r_1 r_2 r_3 r_4 r_5 r_6 r_7 r_8 r_9 r_10 r_11 r_12 r_13 r_14 r_15
  go_wp2
  go_ret
  exact ⟨rfl, unhide HB⟩
set_option maxRecDepth 100000 in
set_option maxHeartbeats 2000000 in
theorem sh_wordr (tx bk sh : ByteArray) (nm fl c1 r1 c2 r2 pl : Int) (f1 g1 f2 g2 wd : Bool) (w : World) :
    Calls Tryz.prog 15 #[.agg #[.int .i64 4, .string tx, .int .i64 nm, .int .i64 fl, .string bk, .string sh, .int .i64 c1, .int .i64 r1, .bool f1, .bool g1, .int .i64 c2, .int .i64 r2, .bool f2, .bool g2, .bool wd, .int .i64 pl]] w fun e w' => e = .returned (.string tx) ∧ Below w.heap.size w w' := by
  go_enter Tryz.func15, Tryz.ntmps15
  go_wp2
  go_ret
  exact ⟨rfl, below_al _ _⟩
set_option maxRecDepth 100000 in
set_option maxHeartbeats 2000000 in
theorem sh_opr (tx bk sh : ByteArray) (nm fl c1 r1 c2 r2 pl : Int) (f1 g1 f2 g2 wd : Bool) (w : World) :
    Calls Tryz.prog 15 #[.agg #[.int .i64 5, .string tx, .int .i64 nm, .int .i64 fl, .string bk, .string sh, .int .i64 c1, .int .i64 r1, .bool f1, .bool g1, .int .i64 c2, .int .i64 r2, .bool f2, .bool g2, .bool wd, .int .i64 pl]] w fun e w' => e = .returned (.string tx) ∧ Below w.heap.size w w' := by
  go_enter Tryz.func15, Tryz.ntmps15
  go_wp2
  go_ret
  exact ⟨rfl, below_al _ _⟩
set_option maxRecDepth 100000 in
set_option maxHeartbeats 2000000 in
theorem sh_s6r (tx bk sh : ByteArray) (nm fl c1 r1 c2 r2 pl : Int) (f1 g1 f2 g2 wd : Bool) (w : World) :
    Calls Tryz.prog 15 #[.agg #[.int .i64 6, .string tx, .int .i64 nm, .int .i64 fl, .string bk, .string sh, .int .i64 c1, .int .i64 r1, .bool f1, .bool g1, .int .i64 c2, .int .i64 r2, .bool f2, .bool g2, .bool wd, .int .i64 pl]] w fun e w' => e = .returned (.string ⟨#[40]⟩) ∧ Below w.heap.size w w' := by
  go_enter Tryz.func15, Tryz.ntmps15
  go_wp2
  go_ret
  exact ⟨rfl, below_al _ _⟩
set_option maxRecDepth 100000 in
set_option maxHeartbeats 2000000 in
theorem sh_s7r (tx bk sh : ByteArray) (nm fl c1 r1 c2 r2 pl : Int) (f1 g1 f2 g2 wd : Bool) (w : World) :
    Calls Tryz.prog 15 #[.agg #[.int .i64 7, .string tx, .int .i64 nm, .int .i64 fl, .string bk, .string sh, .int .i64 c1, .int .i64 r1, .bool f1, .bool g1, .int .i64 c2, .int .i64 r2, .bool f2, .bool g2, .bool wd, .int .i64 pl]] w fun e w' => e = .returned (.string ⟨#[41]⟩) ∧ Below w.heap.size w w' := by
  go_enter Tryz.func15, Tryz.ntmps15
  go_wp2
  go_ret
  exact ⟨rfl, below_al _ _⟩
set_option maxRecDepth 100000 in
set_option maxHeartbeats 2000000 in
theorem sh_s8r (tx bk sh : ByteArray) (nm fl c1 r1 c2 r2 pl : Int) (f1 g1 f2 g2 wd : Bool) (w : World) :
    Calls Tryz.prog 15 #[.agg #[.int .i64 8, .string tx, .int .i64 nm, .int .i64 fl, .string bk, .string sh, .int .i64 c1, .int .i64 r1, .bool f1, .bool g1, .int .i64 c2, .int .i64 r2, .bool f2, .bool g2, .bool wd, .int .i64 pl]] w fun e w' => e = .returned (.string ⟨#[44]⟩) ∧ Below w.heap.size w w' := by
  go_enter Tryz.func15, Tryz.ntmps15
  go_wp2
  go_ret
  exact ⟨rfl, below_al _ _⟩
set_option maxRecDepth 100000 in
set_option maxHeartbeats 2000000 in
theorem sh_noner (tx bk sh : ByteArray) (nm fl c1 r1 c2 r2 pl : Int) (f1 g1 f2 g2 wd : Bool) (w : World) (k : Int) (n0 : ¬ k = 0) (n1 : ¬ k = 1) (n2 : ¬ k = 2) (n3 : ¬ k = 3) (n4 : ¬ k = 4) (n5 : ¬ k = 5) (n6 : ¬ k = 6) (n7 : ¬ k = 7) (n8 : ¬ k = 8) :
    Calls Tryz.prog 15 #[.agg #[.int .i64 k, .string tx, .int .i64 nm, .int .i64 fl, .string bk, .string sh, .int .i64 c1, .int .i64 r1, .bool f1, .bool g1, .int .i64 c2, .int .i64 r2, .bool f2, .bool g2, .bool wd, .int .i64 pl]] w fun e w' => e = .returned (.string ⟨#[]⟩) ∧ Below w.heap.size w w' := by
  have b0 : (k == 0) = false := beq_eq_false_iff_ne.2 n0
  have b1 : (k == 1) = false := beq_eq_false_iff_ne.2 n1
  have b2 : (k == 2) = false := beq_eq_false_iff_ne.2 n2
  have b3 : (k == 3) = false := beq_eq_false_iff_ne.2 n3
  have b4 : (k == 4) = false := beq_eq_false_iff_ne.2 n4
  have b5 : (k == 5) = false := beq_eq_false_iff_ne.2 n5
  have b6 : (k == 6) = false := beq_eq_false_iff_ne.2 n6
  have b7 : (k == 7) = false := beq_eq_false_iff_ne.2 n7
  have b8 : (k == 8) = false := beq_eq_false_iff_ne.2 n8
  go_enter Tryz.func15, Tryz.ntmps15
  go_wp2
  go_ret
  exact ⟨rfl, below_al _ _⟩
theorem show5_ref (t : Tk) (w : World) (ht : t.text.size ≤ 1000) :
    Calls Tryz.prog 15 #[.agg t.cells] w fun e w' => e = .returned (.string ⟨(showL t).toArray⟩) ∧ Below w.heap.size w w' := by
  obtain ⟨k, tx, nm, fl, ⟨bk, sh, ⟨c1, r1, f1, g1⟩, ⟨c2, r2, f2, g2⟩, wd⟩, pl⟩ := t
  unfold Tk.cells
  simp only [] at ht ⊢
  by_cases k0 : k = 0
  · subst k0
    exact sh_numr tx bk sh nm fl c1 r1 c2 r2 pl f1 g1 f2 g2 wd w _ (hide (fun w => text_ref nm w))
  by_cases k1 : k = 1
  · subst k1
    exact sh_textr tx bk sh nm fl c1 r1 c2 r2 pl f1 g1 f2 g2 wd w _ (hide (fun w => quoted5_ref tx w ht))
  by_cases k2 : k = 2
  · subst k2
    exact sh_failr tx bk sh nm fl c1 r1 c2 r2 pl f1 g1 f2 g2 wd w _ (hide (fun w => signs_ref fl w))
  by_cases k3 : k = 3
  · subst k3
    exact sh_refr tx bk sh nm fl c1 r1 c2 r2 pl f1 g1 f2 g2 wd w _ (hide (fun w => text4_ref ⟨bk, sh, ⟨c1, r1, f1, g1⟩, ⟨c2, r2, f2, g2⟩, wd⟩ w))
  by_cases k4 : k = 4
  · subst k4
    exact sh_wordr tx bk sh nm fl c1 r1 c2 r2 pl f1 g1 f2 g2 wd w
  by_cases k5 : k = 5
  · subst k5
    exact sh_opr tx bk sh nm fl c1 r1 c2 r2 pl f1 g1 f2 g2 wd w
  by_cases k6 : k = 6
  · subst k6
    exact sh_s6r tx bk sh nm fl c1 r1 c2 r2 pl f1 g1 f2 g2 wd w
  by_cases k7 : k = 7
  · subst k7
    exact sh_s7r tx bk sh nm fl c1 r1 c2 r2 pl f1 g1 f2 g2 wd w
  by_cases k8 : k = 8
  · subst k8
    exact sh_s8r tx bk sh nm fl c1 r1 c2 r2 pl f1 g1 f2 g2 wd w
  have E : showL ⟨k, tx, nm, fl, ⟨bk, sh, ⟨c1, r1, f1, g1⟩, ⟨c2, r2, f2, g2⟩, wd⟩, pl⟩ = [] := by
    unfold showL
    simp only []
    rw [if_neg k0, if_neg k1, if_neg k2, if_neg k3, if_neg (by omega), if_neg k6, if_neg k7, if_neg k8]
  rw [E]
  exact sh_noner tx bk sh nm fl c1 r1 c2 r2 pl f1 g1 f2 g2 wd w k k0 k1 k2 k3 k4 k5 k6 k7 k8
end Go.Proofs.YtgoaefpkhjbkjaaGreatDoor
