/- The contract of Show. -/
import Derived.Test.YtgoaefpkhjbkjaaGreatDoorLxE
import Derived.Test.YtgoaefpkhjbkjaaGreatDoorLxZ
import Derived.Test.YtgoaefpkhjbkjaaGreatDoorAdU
import Derived.Test.YtgoaefpkhjbkjaaGreatDoorFxH
import Derived.Test.YtgoaefpkhjbkjaaGreatDoorLxV
namespace Go.Proofs.YtgoaefpkhjbkjaaGreatDoor
open Go.RowKit

set_option maxRecDepth 100000 in
set_option maxHeartbeats 2000000 in
theorem sh_num (tx bk sh : ByteArray) (nm fl c1 r1 c2 r2 pl : Int) (f1 g1 f2 g2 wd : Bool) (w : World) (HE : Hid (Env5 w)) (tb : ByteArray) (HK : Hid (∀ w : World, Env5 w → Calls Tryz.prog 22 #[.int .i64 nm] w fun e w' => e = .returned (.string tb) ∧ Below w.heap.size w w')) :
    Calls Tryz.prog 14 #[.agg #[.int .i64 0, .string tx, .int .i64 nm, .int .i64 fl, .string bk, .string sh, .int .i64 c1, .int .i64 r1, .bool f1, .bool g1, .int .i64 c2, .int .i64 r2, .bool f2, .bool g2, .bool wd, .int .i64 pl]] w fun e w' => e = .returned (.string tb) ∧ Below w.heap.size w w' := by
  go_enter Tryz.func14, Tryz.ntmps14
  go_upto_region 1 with fail
  have R := hide (cells_new w 41 #[.int .i64 0, .string tx, .int .i64 nm, .int .i64 fl, .string bk, .string sh, .int .i64 c1, .int .i64 r1, .bool f1, .bool g1, .int .i64 c2, .int .i64 r2, .bool f2, .bool g2, .bool wd, .int .i64 pl])
  have HB : Hid (Below w.heap.size w (w.alloc (.cells #[.int .i64 0, .string tx, .int .i64 nm, .int .i64 fl, .string bk, .string sh, .int .i64 c1, .int .i64 r1, .bool f1, .bool g1, .int .i64 c2, .int .i64 r2, .bool f2, .bool g2, .bool wd, .int .i64 pl] 41))) := hide (below_al _ _)
  generalize hW : w.alloc (.cells #[.int .i64 0, .string tx, .int .i64 nm, .int .i64 fl, .string bk, .string sh, .int .i64 c1, .int .i64 r1, .bool f1, .bool g1, .int .i64 c2, .int .i64 r2, .bool f2, .bool g2, .bool wd, .int .i64 pl] 41) = W0 at R HB ⊢
  clear hW
  obtain ⟨r_0, r_1, r_2, r_3, r_4, r_5, r_6, r_7, r_8, r_9, r_10, r_11, r_12, r_13, r_14, r_15⟩ := cells16 (unhide R)
  go_wp2_with fail
  refine (unhide HK _ ((unhide HE).below (unhide HB))).mono ?_
  rintro e wk1 ⟨rfl, bk1⟩
  replace R := hide (cells_nx (unhide R) bk1)
  replace HB := hide (below_nx (unhide HB) bk1)
  clear bk1
  clear r_0 r_1 r_2 r_3 r_4 r_5 r_6 r_7 r_8 r_9 r_10 r_11 r_12 r_13 r_14 r_15
  go_wp2
  go_ret
  exact ⟨rfl, unhide HB⟩
set_option maxRecDepth 100000 in
set_option maxHeartbeats 2000000 in
theorem sh_text (tx bk sh : ByteArray) (nm fl c1 r1 c2 r2 pl : Int) (f1 g1 f2 g2 wd : Bool) (w : World) (HE : Hid (Env5 w)) (tb : ByteArray) (hq : tb.size ≤ 10000) (HK : Hid (∀ w : World, Env5 w → Calls Tryz.prog 23 #[.string tx, .string ⟨#[34]⟩, .string ⟨#[34, 34]⟩] w fun e w' => e = .returned (.string tb) ∧ Below w.heap.size w w')) :
    Calls Tryz.prog 14 #[.agg #[.int .i64 1, .string tx, .int .i64 nm, .int .i64 fl, .string bk, .string sh, .int .i64 c1, .int .i64 r1, .bool f1, .bool g1, .int .i64 c2, .int .i64 r2, .bool f2, .bool g2, .bool wd, .int .i64 pl]] w fun e w' => e = .returned (.string ((⟨#[34]⟩ ++ tb) ++ ⟨#[34]⟩)) ∧ Below w.heap.size w w' := by
  have z1 : (⟨#[34]⟩ : ByteArray).size = 1 := rfl
  have z2 : (⟨#[34]⟩ ++ tb : ByteArray).size = 1 + tb.size := by rw [ByteArray.size_append, z1]
  have y1 : (9223372036854775807 < (⟨#[34]⟩ : ByteArray).size + tb.size) = False := by rw [z1]; exact eq_false (by omega)
  have y2 : (9223372036854775807 < (⟨#[34]⟩ ++ tb : ByteArray).size + (⟨#[34]⟩ : ByteArray).size) = False := by rw [z1, z2]; exact eq_false (by omega)
  have y3 : (⟨#[34]⟩ : ByteArray).size + tb.size ≤ 9223372036854775807 := by rw [z1]; omega
  have y4 : (⟨#[34]⟩ ++ tb : ByteArray).size + (⟨#[34]⟩ : ByteArray).size ≤ 9223372036854775807 := by rw [z1, z2]; omega
  go_enter Tryz.func14, Tryz.ntmps14
  go_upto_region 1 with fail
  have R := hide (cells_new w 41 #[.int .i64 1, .string tx, .int .i64 nm, .int .i64 fl, .string bk, .string sh, .int .i64 c1, .int .i64 r1, .bool f1, .bool g1, .int .i64 c2, .int .i64 r2, .bool f2, .bool g2, .bool wd, .int .i64 pl])
  have HB : Hid (Below w.heap.size w (w.alloc (.cells #[.int .i64 1, .string tx, .int .i64 nm, .int .i64 fl, .string bk, .string sh, .int .i64 c1, .int .i64 r1, .bool f1, .bool g1, .int .i64 c2, .int .i64 r2, .bool f2, .bool g2, .bool wd, .int .i64 pl] 41))) := hide (below_al _ _)
  generalize hW : w.alloc (.cells #[.int .i64 1, .string tx, .int .i64 nm, .int .i64 fl, .string bk, .string sh, .int .i64 c1, .int .i64 r1, .bool f1, .bool g1, .int .i64 c2, .int .i64 r2, .bool f2, .bool g2, .bool wd, .int .i64 pl] 41) = W0 at R HB ⊢
  clear hW
  obtain ⟨r_0, r_1, r_2, r_3, r_4, r_5, r_6, r_7, r_8, r_9, r_10, r_11, r_12, r_13, r_14, r_15⟩ := cells16 (unhide R)
  go_wp2_with fail
  refine (unhide HK _ ((unhide HE).below (unhide HB))).mono ?_
  rintro e wk1 ⟨rfl, bk1⟩
  replace R := hide (cells_nx (unhide R) bk1)
  replace HB := hide (below_nx (unhide HB) bk1)
  clear bk1
  clear r_0 r_1 r_2 r_3 r_4 r_5 r_6 r_7 r_8 r_9 r_10 r_11 r_12 r_13 r_14 r_15
  go_wp2
  go_ret
  exact ⟨rfl, unhide HB⟩
set_option maxRecDepth 100000 in
set_option maxHeartbeats 2000000 in
theorem sh_fail (tx bk sh : ByteArray) (nm fl c1 r1 c2 r2 pl : Int) (f1 g1 f2 g2 wd : Bool) (w : World) (HE : Hid (Env5 w)) (tb : ByteArray) (HK : Hid (∀ w : World, Env5 w → Calls Tryz.prog 24 #[.int .i64 fl] w fun e w' => e = .returned (.string tb) ∧ w' = w)) :
    Calls Tryz.prog 14 #[.agg #[.int .i64 2, .string tx, .int .i64 nm, .int .i64 fl, .string bk, .string sh, .int .i64 c1, .int .i64 r1, .bool f1, .bool g1, .int .i64 c2, .int .i64 r2, .bool f2, .bool g2, .bool wd, .int .i64 pl]] w fun e w' => e = .returned (.string tb) ∧ Below w.heap.size w w' := by
  go_enter Tryz.func14, Tryz.ntmps14
  go_upto_region 1 with fail
  have R := hide (cells_new w 41 #[.int .i64 2, .string tx, .int .i64 nm, .int .i64 fl, .string bk, .string sh, .int .i64 c1, .int .i64 r1, .bool f1, .bool g1, .int .i64 c2, .int .i64 r2, .bool f2, .bool g2, .bool wd, .int .i64 pl])
  have HB : Hid (Below w.heap.size w (w.alloc (.cells #[.int .i64 2, .string tx, .int .i64 nm, .int .i64 fl, .string bk, .string sh, .int .i64 c1, .int .i64 r1, .bool f1, .bool g1, .int .i64 c2, .int .i64 r2, .bool f2, .bool g2, .bool wd, .int .i64 pl] 41))) := hide (below_al _ _)
  generalize hW : w.alloc (.cells #[.int .i64 2, .string tx, .int .i64 nm, .int .i64 fl, .string bk, .string sh, .int .i64 c1, .int .i64 r1, .bool f1, .bool g1, .int .i64 c2, .int .i64 r2, .bool f2, .bool g2, .bool wd, .int .i64 pl] 41) = W0 at R HB ⊢
  clear hW
  obtain ⟨r_0, r_1, r_2, r_3, r_4, r_5, r_6, r_7, r_8, r_9, r_10, r_11, r_12, r_13, r_14, r_15⟩ := cells16 (unhide R)
  go_wp2_with fail
  refine (unhide HK _ ((unhide HE).below (unhide HB))).mono ?_
  rintro e wk1 ⟨rfl, rfl⟩
  go_wp2
  go_ret
  exact ⟨rfl, unhide HB⟩
set_option maxRecDepth 100000 in
set_option maxHeartbeats 2000000 in
theorem sh_ref (tx bk sh : ByteArray) (nm fl c1 r1 c2 r2 pl : Int) (f1 g1 f2 g2 wd : Bool) (w : World) (HE : Hid (Env5 w)) (tb : ByteArray) (HK : Hid (∀ w : World, Env5 w → Calls Tryz.prog 19 #[.agg #[.string bk, .string sh, .int .i64 c1, .int .i64 r1, .bool f1, .bool g1, .int .i64 c2, .int .i64 r2, .bool f2, .bool g2, .bool wd]] w fun e w' => e = .returned (.string tb) ∧ Below w.heap.size w w')) :
    Calls Tryz.prog 14 #[.agg #[.int .i64 3, .string tx, .int .i64 nm, .int .i64 fl, .string bk, .string sh, .int .i64 c1, .int .i64 r1, .bool f1, .bool g1, .int .i64 c2, .int .i64 r2, .bool f2, .bool g2, .bool wd, .int .i64 pl]] w fun e w' => e = .returned (.string tb) ∧ Below w.heap.size w w' := by
  go_enter Tryz.func14, Tryz.ntmps14
  go_upto_region 1 with fail
  have R := hide (cells_new w 41 #[.int .i64 3, .string tx, .int .i64 nm, .int .i64 fl, .string bk, .string sh, .int .i64 c1, .int .i64 r1, .bool f1, .bool g1, .int .i64 c2, .int .i64 r2, .bool f2, .bool g2, .bool wd, .int .i64 pl])
  have HB : Hid (Below w.heap.size w (w.alloc (.cells #[.int .i64 3, .string tx, .int .i64 nm, .int .i64 fl, .string bk, .string sh, .int .i64 c1, .int .i64 r1, .bool f1, .bool g1, .int .i64 c2, .int .i64 r2, .bool f2, .bool g2, .bool wd, .int .i64 pl] 41))) := hide (below_al _ _)
  generalize hW : w.alloc (.cells #[.int .i64 3, .string tx, .int .i64 nm, .int .i64 fl, .string bk, .string sh, .int .i64 c1, .int .i64 r1, .bool f1, .bool g1, .int .i64 c2, .int .i64 r2, .bool f2, .bool g2, .bool wd, .int .i64 pl] 41) = W0 at R HB ⊢
  clear hW
  obtain ⟨r_0, r_1, r_2, r_3, r_4, r_5, r_6, r_7, r_8, r_9, r_10, r_11, r_12, r_13, r_14, r_15⟩ := cells16 (unhide R)
  go_wp2_with fail
  refine (unhide HK _ ((unhide HE).below (unhide HB))).mono ?_
  rintro e wk1 ⟨rfl, bk1⟩
  replace R := hide (cells_nx (unhide R) bk1)
  replace HB := hide (below_nx (unhide HB) bk1)
  clear bk1
  clear r_0 r_1 r_2 r_3 r_4 r_5 r_6 r_7 r_8 r_9 r_10 r_11 r_12 r_13 r_14 r_15
  go_wp2
  go_ret
  exact ⟨rfl, unhide HB⟩
set_option maxRecDepth 100000 in
set_option maxHeartbeats 2000000 in
theorem sh_word (tx bk sh : ByteArray) (nm fl c1 r1 c2 r2 pl : Int) (f1 g1 f2 g2 wd : Bool) (w : World) :
    Calls Tryz.prog 14 #[.agg #[.int .i64 4, .string tx, .int .i64 nm, .int .i64 fl, .string bk, .string sh, .int .i64 c1, .int .i64 r1, .bool f1, .bool g1, .int .i64 c2, .int .i64 r2, .bool f2, .bool g2, .bool wd, .int .i64 pl]] w fun e w' => e = .returned (.string tx) ∧ Below w.heap.size w w' := by
  go_enter Tryz.func14, Tryz.ntmps14
  go_wp2
  go_ret
  exact ⟨rfl, below_al _ _⟩
set_option maxRecDepth 100000 in
set_option maxHeartbeats 2000000 in
theorem sh_op (tx bk sh : ByteArray) (nm fl c1 r1 c2 r2 pl : Int) (f1 g1 f2 g2 wd : Bool) (w : World) :
    Calls Tryz.prog 14 #[.agg #[.int .i64 5, .string tx, .int .i64 nm, .int .i64 fl, .string bk, .string sh, .int .i64 c1, .int .i64 r1, .bool f1, .bool g1, .int .i64 c2, .int .i64 r2, .bool f2, .bool g2, .bool wd, .int .i64 pl]] w fun e w' => e = .returned (.string tx) ∧ Below w.heap.size w w' := by
  go_enter Tryz.func14, Tryz.ntmps14
  go_wp2
  go_ret
  exact ⟨rfl, below_al _ _⟩
set_option maxRecDepth 100000 in
set_option maxHeartbeats 2000000 in
theorem sh_s6 (tx bk sh : ByteArray) (nm fl c1 r1 c2 r2 pl : Int) (f1 g1 f2 g2 wd : Bool) (w : World) :
    Calls Tryz.prog 14 #[.agg #[.int .i64 6, .string tx, .int .i64 nm, .int .i64 fl, .string bk, .string sh, .int .i64 c1, .int .i64 r1, .bool f1, .bool g1, .int .i64 c2, .int .i64 r2, .bool f2, .bool g2, .bool wd, .int .i64 pl]] w fun e w' => e = .returned (.string ⟨#[40]⟩) ∧ Below w.heap.size w w' := by
  go_enter Tryz.func14, Tryz.ntmps14
  go_wp2
  go_ret
  exact ⟨rfl, below_al _ _⟩
set_option maxRecDepth 100000 in
set_option maxHeartbeats 2000000 in
theorem sh_s7 (tx bk sh : ByteArray) (nm fl c1 r1 c2 r2 pl : Int) (f1 g1 f2 g2 wd : Bool) (w : World) :
    Calls Tryz.prog 14 #[.agg #[.int .i64 7, .string tx, .int .i64 nm, .int .i64 fl, .string bk, .string sh, .int .i64 c1, .int .i64 r1, .bool f1, .bool g1, .int .i64 c2, .int .i64 r2, .bool f2, .bool g2, .bool wd, .int .i64 pl]] w fun e w' => e = .returned (.string ⟨#[41]⟩) ∧ Below w.heap.size w w' := by
  go_enter Tryz.func14, Tryz.ntmps14
  go_wp2
  go_ret
  exact ⟨rfl, below_al _ _⟩
set_option maxRecDepth 100000 in
set_option maxHeartbeats 2000000 in
theorem sh_s8 (tx bk sh : ByteArray) (nm fl c1 r1 c2 r2 pl : Int) (f1 g1 f2 g2 wd : Bool) (w : World) :
    Calls Tryz.prog 14 #[.agg #[.int .i64 8, .string tx, .int .i64 nm, .int .i64 fl, .string bk, .string sh, .int .i64 c1, .int .i64 r1, .bool f1, .bool g1, .int .i64 c2, .int .i64 r2, .bool f2, .bool g2, .bool wd, .int .i64 pl]] w fun e w' => e = .returned (.string ⟨#[44]⟩) ∧ Below w.heap.size w w' := by
  go_enter Tryz.func14, Tryz.ntmps14
  go_wp2
  go_ret
  exact ⟨rfl, below_al _ _⟩
set_option maxRecDepth 100000 in
set_option maxHeartbeats 2000000 in
theorem sh_none (tx bk sh : ByteArray) (nm fl c1 r1 c2 r2 pl : Int) (f1 g1 f2 g2 wd : Bool) (w : World) (k : Int) (n0 : ¬ k = 0) (n1 : ¬ k = 1) (n2 : ¬ k = 2) (n3 : ¬ k = 3) (n4 : ¬ k = 4) (n5 : ¬ k = 5) (n6 : ¬ k = 6) (n7 : ¬ k = 7) (n8 : ¬ k = 8) :
    Calls Tryz.prog 14 #[.agg #[.int .i64 k, .string tx, .int .i64 nm, .int .i64 fl, .string bk, .string sh, .int .i64 c1, .int .i64 r1, .bool f1, .bool g1, .int .i64 c2, .int .i64 r2, .bool f2, .bool g2, .bool wd, .int .i64 pl]] w fun e w' => e = .returned (.string ⟨#[]⟩) ∧ Below w.heap.size w w' := by
  have b0 : (k == 0) = false := beq_eq_false_iff_ne.2 n0
  have b1 : (k == 1) = false := beq_eq_false_iff_ne.2 n1
  have b2 : (k == 2) = false := beq_eq_false_iff_ne.2 n2
  have b3 : (k == 3) = false := beq_eq_false_iff_ne.2 n3
  have b4 : (k == 4) = false := beq_eq_false_iff_ne.2 n4
  have b5 : (k == 5) = false := beq_eq_false_iff_ne.2 n5
  have b6 : (k == 6) = false := beq_eq_false_iff_ne.2 n6
  have b7 : (k == 7) = false := beq_eq_false_iff_ne.2 n7
  have b8 : (k == 8) = false := beq_eq_false_iff_ne.2 n8
  go_enter Tryz.func14, Tryz.ntmps14
  go_wp2
  go_ret
  exact ⟨rfl, below_al _ _⟩
theorem quoted_eq (l : List UInt8) : ((⟨#[34]⟩ : ByteArray) ++ ⟨(dblL l).toArray⟩) ++ ⟨#[34]⟩ = ⟨(34 :: (dblL l ++ [34])).toArray⟩ := by
  apply ByteArray.ext
  simp
theorem dbl_len : ∀ l : List UInt8, (dblL l).length ≤ 2 * l.length
  | [] => Nat.le_refl _
  | c :: l => by
    have := dbl_len l
    rw [dblL]
    split
    · simp only [List.length_cons]; omega
    · simp only [List.length_cons]; omega
theorem show5_val (t : Tk) (w : World) (he : Env5 w) (ht : t.text.size ≤ 1000) :
    Calls Tryz.prog 14 #[.agg t.cells] w fun e w' => e = .returned (.string ⟨(showL t).toArray⟩) ∧ Below w.heap.size w w' := by
  obtain ⟨k, tx, nm, fl, ⟨bk, sh, ⟨c1, r1, f1, g1⟩, ⟨c2, r2, f2, g2⟩, wd⟩, pl⟩ := t
  have HE := hide he
  unfold Tk.cells
  simp only [] at ht ⊢
  by_cases k0 : k = 0
  · subst k0
    exact sh_num tx bk sh nm fl c1 r1 c2 r2 pl f1 g1 f2 g2 wd w HE _ (hide (fun w he => text_any nm w he.e4.tab))
  by_cases k1 : k = 1
  · subst k1
    have hc := Lib.count_le tx.data.toList [34]
    have htl : tx.data.toList.length = tx.size := rfl
    have hd := dbl_len tx.data.toList
    have E : showL ⟨1, tx, nm, fl, ⟨bk, sh, ⟨c1, r1, f1, g1⟩, ⟨c2, r2, f2, g2⟩, wd⟩, pl⟩ = 34 :: (dblL tx.data.toList ++ [34]) := rfl
    rw [E, ← quoted_eq]
    refine sh_text tx bk sh nm fl c1 r1 c2 r2 pl f1 g1 f2 g2 wd w HE ⟨(dblL tx.data.toList).toArray⟩ (by show (dblL tx.data.toList).length ≤ 10000; omega) (hide (fun w he => ?_))
    obtain ⟨m, hm⟩ := he.e4.len
    have k := Tryz.strings_ReplaceAll tx ⟨#[34]⟩ ⟨#[34, 34]⟩ m w (by omega) hm (by decide) (by
      show tx.size + Lib.count tx.data.toList [34] * 2 ≤ 140737488355328
      omega)
    rw [show (⟨#[34, 34]⟩ : ByteArray).data.toList = [34, 34] from rfl, show (⟨#[34]⟩ : ByteArray).data.toList = [34] from rfl, all_dbl] at k
    exact k
  by_cases k2 : k = 2
  · subst k2
    exact sh_fail tx bk sh nm fl c1 r1 c2 r2 pl f1 g1 f2 g2 wd w HE _ (hide (fun w he => sign_val fl w he.sg))
  by_cases k3 : k = 3
  · subst k3
    exact sh_ref tx bk sh nm fl c1 r1 c2 r2 pl f1 g1 f2 g2 wd w HE _ (hide (fun w he => fullText_val ⟨bk, sh, ⟨c1, r1, f1, g1⟩, ⟨c2, r2, f2, g2⟩, wd⟩ w he.e4))
  by_cases k4 : k = 4
  · subst k4
    exact sh_word tx bk sh nm fl c1 r1 c2 r2 pl f1 g1 f2 g2 wd w
  by_cases k5 : k = 5
  · subst k5
    exact sh_op tx bk sh nm fl c1 r1 c2 r2 pl f1 g1 f2 g2 wd w
  by_cases k6 : k = 6
  · subst k6
    exact sh_s6 tx bk sh nm fl c1 r1 c2 r2 pl f1 g1 f2 g2 wd w
  by_cases k7 : k = 7
  · subst k7
    exact sh_s7 tx bk sh nm fl c1 r1 c2 r2 pl f1 g1 f2 g2 wd w
  by_cases k8 : k = 8
  · subst k8
    exact sh_s8 tx bk sh nm fl c1 r1 c2 r2 pl f1 g1 f2 g2 wd w
  have E : showL ⟨k, tx, nm, fl, ⟨bk, sh, ⟨c1, r1, f1, g1⟩, ⟨c2, r2, f2, g2⟩, wd⟩, pl⟩ = [] := by
    unfold showL
    simp only []
    rw [if_neg k0, if_neg k1, if_neg k2, if_neg k3, if_neg (by omega), if_neg k6, if_neg k7, if_neg k8]
  rw [E]
  exact sh_none tx bk sh nm fl c1 r1 c2 r2 pl f1 g1 f2 g2 wd w k k0 k1 k2 k3 k4 k5 k6 k7 k8
end Go.Proofs.YtgoaefpkhjbkjaaGreatDoor

namespace Go.Proofs.YtgoaefpkhjbkjaaGreatDoor
open Go.RowKit

/-- Tokens where a slice lies. -/
def ToksIn (w : World) (a : Option Addr) (ts : List Tk) : Prop :=
  ts = [] ∨ ∃ g off, a = some ⟨g, off, none⟩ ∧ g < w.heap.size ∧ ∀ (i : Nat) (t : Tk), ts[i]? = some t → ∀ (j : Nat) (u : Value), t.cells[j]? = some u → w.cell? ⟨g, off + i * 16 + j, none⟩ = some u
theorem flat_get : ∀ (ts : List Tk) (i : Nat) (t : Tk), ts[i]? = some t → ∀ (j : Nat) (u : Value), t.cells[j]? = some u → (flatT ts)[i * 16 + j]? = some u
  | [], i, t, h, _, _, _ => by simp at h
  | x :: ts, 0, t, h, j, u, hu => by
    simp only [List.getElem?_cons_zero, Option.some.injEq] at h
    subst h
    unfold flatT
    rw [List.flatMap_cons, Nat.zero_mul, Nat.zero_add]
    obtain ⟨hlt, _⟩ := Array.getElem?_eq_some_iff.1 hu
    rw [List.getElem?_append_left (by simpa using hlt)]
    simpa using hu
  | x :: ts, i + 1, t, h, j, u, hu => by
    rw [List.getElem?_cons_succ] at h
    have ih := flat_get ts i t h j u hu
    unfold flatT at ih ⊢
    have hx : x.cells.toList.length = 16 := rfl
    rw [List.flatMap_cons, List.getElem?_append_right (by rw [hx]; omega), hx, show (i + 1) * 16 + j - 16 = i * 16 + j by omega]
    exact ih
theorem toks_of_row {T : TypeId} {w : World} {B : Nat} {v : Value} {ts : List Tk} (h : TokRow T w B v ts) : ∃ a cap, v = .slice a ts.length cap ∧ ts.length ≤ cap ∧ ToksIn w a ts := by
  rcases h.2 with ⟨rfl, h0⟩ | ⟨g, cap, cur, rfl, hg, hh, hc, _, hs, ht⟩
  · refine ⟨none, 0, by rw [h0], by omega, Or.inl (List.eq_nil_of_length_eq_zero h0)⟩
  · refine ⟨_, cap, rfl, hc, Or.inr ⟨g, 0, rfl, ?_, ?_⟩⟩
    · rcases Nat.lt_or_ge g w.heap.size with h | h
      · exact h
      · rw [Array.getElem?_eq_none h] at hh; cases hh
    · intro i t hi j u hu
      have h1 := flat_get ts i t hi j u hu
      rw [← ht] at h1
      rw [cell_of_row w g _ cur T (0, 0) hh, Nat.zero_add]
      rw [List.getElem?_take] at h1
      split at h1
      · simpa using h1
      · cases h1
theorem toks_below {w w' : World} {a : Option Addr} {ts : List Tk} (h : ToksIn w a ts) (hb : Below w.heap.size w w') : ToksIn w' a ts := by
  rcases h with h | ⟨g, off, rfl, hg, hc⟩
  · exact Or.inl h
  · refine Or.inr ⟨g, off, rfl, Nat.lt_of_lt_of_le hg hb.size, fun i t hi j u hu => ?_⟩
    rw [hb.cell (p := ⟨g, off + i * 16 + j, none⟩) hg]
    exact hc i t hi j u hu
theorem toks_at {w : World} {g off : Nat} {ts : List Tk} (h : ∀ (i : Nat) (t : Tk), ts[i]? = some t → ∀ (j : Nat) (u : Value), t.cells[j]? = some u → w.cell? ⟨g, off + i * 16 + j, none⟩ = some u) (i : Nat) (t : Tk) (hi : ts[i]? = some t) :
    w.cell? ⟨g, off + i * 16, none⟩ = some (.int .i64 t.kind) ∧ w.cell? ⟨g, off + i * 16 + 1, none⟩ = some (.string t.text) ∧ w.cell? ⟨g, off + i * 16 + 2, none⟩ = some (.int .i64 t.num) ∧ w.cell? ⟨g, off + i * 16 + 3, none⟩ = some (.int .i64 t.fail) ∧ w.cell? ⟨g, off + i * 16 + 4, none⟩ = some (.string t.ref.book) ∧ w.cell? ⟨g, off + i * 16 + 5, none⟩ = some (.string t.ref.sheet) ∧ w.cell? ⟨g, off + i * 16 + 6, none⟩ = some (.int .i64 t.ref.a.col) ∧ w.cell? ⟨g, off + i * 16 + 7, none⟩ = some (.int .i64 t.ref.a.row) ∧ w.cell? ⟨g, off + i * 16 + 8, none⟩ = some (.bool t.ref.a.fc) ∧ w.cell? ⟨g, off + i * 16 + 9, none⟩ = some (.bool t.ref.a.fr) ∧ w.cell? ⟨g, off + i * 16 + 10, none⟩ = some (.int .i64 t.ref.b.col) ∧ w.cell? ⟨g, off + i * 16 + 11, none⟩ = some (.int .i64 t.ref.b.row) ∧ w.cell? ⟨g, off + i * 16 + 12, none⟩ = some (.bool t.ref.b.fc) ∧ w.cell? ⟨g, off + i * 16 + 13, none⟩ = some (.bool t.ref.b.fr) ∧ w.cell? ⟨g, off + i * 16 + 14, none⟩ = some (.bool t.ref.wide) ∧ w.cell? ⟨g, off + i * 16 + 15, none⟩ = some (.int .i64 t.place) := by
  refine ⟨h i t hi 0 _ rfl, h i t hi 1 _ rfl, h i t hi 2 _ rfl, h i t hi 3 _ rfl, h i t hi 4 _ rfl, h i t hi 5 _ rfl, h i t hi 6 _ rfl, h i t hi 7 _ rfl, h i t hi 8 _ rfl, h i t hi 9 _ rfl, h i t hi 10 _ rfl, h i t hi 11 _ rfl, h i t hi 12 _ rfl, h i t hi 13 _ rfl, h i t hi 14 _ rfl, h i t hi 15 _ rfl⟩
/-! How long what is shown may be. -/
theorem sig_len (f : Int) : (sigL f).length ≤ 8 := by
  by_cases h : 1 ≤ f ∧ f ≤ 8
  · exact (sig_lens f (fit_mem f h.1 h.2)).2
  · have : signV f = noText := by unfold signV; rw [if_pos (by omega)]
    unfold sigL; rw [this]; decide
theorem nam_len (l : List UInt8) (h : nameG l = true) : l.length ≤ 16 := by
  unfold nameG at h
  rw [Bool.and_eq_true, Bool.and_eq_true, Bool.and_eq_true, decide_eq_true_iff, decide_eq_true_iff] at h
  exact h.1.1.2
theorem refT_len8 (r : Rf) : (refT r).length ≤ 8 := by
  by_cases h : cellG r.col r.row = true
  · have hi := (cellG_iff _ _).1 h
    obtain ⟨_, _, _, c4, _⟩ := col_spec ⟨r.col.toNat, by omega⟩
    obtain ⟨_, _, r3, _⟩ := row_spec ⟨r.row.toNat, by omega⟩
    simp only [] at c4 r3
    rw [refT_good r h, List.length_append, List.length_append, List.length_append]
    have d1 : (dlr r.fc).length ≤ 1 := by cases r.fc <;> decide
    have d2 : (dlr r.fr).length ≤ 1 := by cases r.fr <;> decide
    omega
  · unfold refT; rw [if_neg h]; simp
theorem fullT_len (f : Fl) : (fullT f).length ≤ 60 := by
  by_cases h : goodF f = true
  · obtain ⟨n1, n2⟩ := good_names f h
    unfold fullT
    rw [if_pos h, List.length_append, List.length_append, List.length_append]
    have hb : (bookT f.book.data.toList).length ≤ 18 := by
      unfold bookT
      by_cases hb : f.book.data.toList.isEmpty = true
      · rw [if_pos hb]; simp
      · rw [if_neg hb]
        have := nam_len _ (by rcases n2 with e | e; exact absurd e hb; exact e.2)
        rw [List.length_cons, List.length_append, List.length_singleton]; omega
    have hs : (sheetT f.sheet.data.toList).length ≤ 17 := by
      unfold sheetT
      by_cases hb : f.sheet.data.toList.isEmpty = true
      · rw [if_pos hb]; simp
      · rw [if_neg hb]
        have := nam_len _ (by rcases n1 with e | e; exact absurd e hb; exact e)
        rw [List.length_append, List.length_singleton]; omega
    have h1 := refT_len8 f.a
    have h2 := refT_len8 f.b
    have hw : (if f.wide = true then 58 :: refT f.b else []).length ≤ 9 := by
      split
      · simp; omega
      · simp
    omega
  · unfold fullT; rw [if_neg h]; simp
theorem show_len (t : Tk) (ht : t.text.size ≤ 1000) : (showL t).length ≤ 3000 := by
  have hl : t.text.data.toList.length = t.text.size := rfl
  have h0 := text_len t.num
  have h1 := dbl_len t.text.data.toList
  have h2 := sig_len t.fail
  have h3 := fullT_len t.ref
  unfold showL
  split
  · omega
  split
  · simp; omega
  split
  · omega
  split
  · omega
  split
  · omega
  split
  · simp
  split
  · simp
  split
  · simp
  · simp
theorem join_len : ∀ (ts : List Tk), (∀ t ∈ ts, t.text.size ≤ 1000) → (joinL ts).length ≤ ts.length * 3001
  | [], _ => by rw [join_none]; simp
  | [t], h => by
    rw [join_one]
    have := show_len t (h t (by simp))
    simp; omega
  | t :: u :: us, h => by
    have h1 := show_len t (h t (by simp))
    have h2 := join_len (u :: us) (fun x hx => h x (List.mem_cons_of_mem _ hx))
    rw [join_more, List.length_append, List.length_cons]
    simp only [List.length_cons] at h2 ⊢
    omega
theorem infoS : (Tryz.prog.info? 9).map (fun i => (i.zero, i.size, i.bytes)) = some (some (.string ⟨#[]⟩), 1, 16) := by kernel_rfl
theorem str_parts {P : Program} {t : TypeId} {z : Value} (h : (P.info? t).map (fun i => (i.zero, i.size, i.bytes)) = some (some z, 1, 16)) : ∃ i, P.info? t = some i ∧ i.zero = some z ∧ i.size = 1 ∧ i.bytes = 16 := by
  cases hi : P.info? t with
  | none => rw [hi] at h; cases h
  | some i =>
    rw [hi] at h
    simp only [Option.map_some, Option.some.injEq, Prod.mk.injEq] at h
    exact ⟨i, rfl, h.1, h.2.1, h.2.2⟩
theorem owns_nx {w w' : World} {B : Nat} {e : TypeId} {size : Nat} {v : Value} {n : Nat} {xs : List Value} (h : w.ownsRow B e size v n xs) (hb : Below w.heap.size w w') : w'.ownsRow B e size v n xs := by
  refine ⟨h.1, ?_⟩
  rcases h.2 with h | ⟨g, cap, cur, h1, h2, h3, h4⟩
  · exact Or.inl h
  · refine Or.inr ⟨g, cap, cur, h1, h2, ?_, h4⟩
    have hlt : g < w.heap.size := by
      rcases Nat.lt_or_ge g w.heap.size with h | h
      · exact h
      · rw [Array.getElem?_eq_none h] at h3; cases h3
    rw [hb.block g hlt]; exact h3
def shown (ts : List Tk) : List ByteArray := ts.map (fun t => ⟨(showL t).toArray⟩)
def strsV (xs : List ByteArray) : List Value := xs.map (Value.string ·)
set_option maxRecDepth 100000 in
set_option maxHeartbeats 4000000 in
theorem join5_val (a : Option Addr) (cap : Nat) (ts : List Tk) (w : World) (he : Env5 w) (hin : ToksIn w a ts) (hcnt : ts.length ≤ 1000) (htx : ∀ t ∈ ts, t.text.size ≤ 1000) :
    Calls Tryz.prog 12 #[.slice a ts.length cap] w fun e w' => e = .returned (.string ⟨(joinL ts).toArray⟩) ∧ Below w.heap.size w w' := by
  obtain ⟨i0, hi, hz0, hz1, hz2⟩ := str_parts infoS
  have HE := hide he
  have HI := hide hin
  have HTX := hide htx
  have HSH := hide (fun (t : Tk) w he h => show5_val t w he h)
  obtain ⟨N, hN⟩ : ∃ N, ts.length = N := ⟨_, rfl⟩
  rw [hN] at hcnt ⊢
  have HN := hide hN
  clear he hin htx hN
  go_enter Tryz.func12, Tryz.ntmps12
  go_wp2_with (at_make; refine wpList_make_own _ rfl _ _ 64 rfl w.heap.size 9 i0 (.string ⟨#[]⟩) 1 Tryz.underlying64 hi hz0 hz1 _ _ _ N rfl rfl rfl (by rw [hz2]; omega) (by unfold maxLen; omega) (Nat.le_refl _) ?_)
  intro w0 hown0 hgrow0
  have bl0 : Below w.heap.size w w0 := (Below.refl _ _).grown hgrow0 (Nat.le_refl _) (fun k h => by cases h)
  have HB := hide bl0
  have HO := hide hown0
  clear bl0 hown0 hgrow0
  go_wp2
  go_loopw [3, 11] (fun v t wr => ∃ k : Nat, v = .slice (some ⟨w.heap.size, 0, none⟩) k N ∧ t = .int .i64 (k : Int) ∧ k ≤ N ∧ Hid (wr.ownsRow w.heap.size 9 1 (.slice (some ⟨w.heap.size, 0, none⟩) k N) k (strsV (shown (ts.take k)))) ∧ Hid (Below w.heap.size w wr)) (fun _ t _ => N - (intOf t).toNat)
  case atStart => exact ⟨0, rfl, rfl, Nat.zero_le _, HO, HB⟩
  case round =>
    clear HO HB
    obtain ⟨k, rfl, rfl, hk, HO, HB⟩ := hrel
    by_cases hkl : k < N
    · obtain ⟨t, ht⟩ : ∃ t, ts[k]? = some t := ⟨_, List.getElem?_eq_getElem (by rw [unhide HN]; exact hkl)⟩
      have HI1 := hide (toks_below (unhide HI) (unhide HB))
      obtain ⟨g, off, rfl, hg, hc⟩ : ∃ g off, a = some ⟨g, off, none⟩ ∧ g < wr.heap.size ∧ ∀ (i : Nat) (t : Tk), ts[i]? = some t → ∀ (j : Nat) (u : Value), t.cells[j]? = some u → wr.cell? ⟨g, off + i * 16 + j, none⟩ = some u := by
        rcases unhide HI1 with h | h
        · exfalso
          have := unhide HN
          rw [h] at this
          simp at this
          omega
        · exact h
      have hmem : t ∈ ts := List.mem_of_getElem? ht
      have HSH1 := hide (fun w he => unhide HSH t w he (unhide HTX t hmem))
      have HTK : Hid (ts.take (k + 1) = ts.take k ++ [t]) := hide (by
        rw [List.take_add_one, ht]; rfl)
      obtain ⟨v_0, v_1, v_2, v_3, v_4, v_5, v_6, v_7, v_8, v_9, v_10, v_11, v_12, v_13, v_14, v_15⟩ := toks_at hc k t ht
      unfold Tk.cells at HSH1
      have hwk : IntKind.i64.wrap ((k : Int) + 1) = ((k + 1 : Nat) : Int) := IntWalk.i64_in _ (by omega)
      clear hc hmem ht HI1
      go_upto_region 5 with fail
      have V := hide (cells_new wr 41 #[.int .i64 t.kind, .string t.text, .int .i64 t.num, .int .i64 t.fail, .string t.ref.book, .string t.ref.sheet, .int .i64 t.ref.a.col, .int .i64 t.ref.a.row, .bool t.ref.a.fc, .bool t.ref.a.fr, .int .i64 t.ref.b.col, .int .i64 t.ref.b.row, .bool t.ref.b.fc, .bool t.ref.b.fr, .bool t.ref.wide, .int .i64 t.place])
      have HO1 := hide ((unhide HO).alloc (.cells #[.int .i64 t.kind, .string t.text, .int .i64 t.num, .int .i64 t.fail, .string t.ref.book, .string t.ref.sheet, .int .i64 t.ref.a.col, .int .i64 t.ref.a.row, .bool t.ref.a.fc, .bool t.ref.a.fr, .int .i64 t.ref.b.col, .int .i64 t.ref.b.row, .bool t.ref.b.fc, .bool t.ref.b.fr, .bool t.ref.wide, .int .i64 t.place] 41))
      have HB1 := hide (below_nx (unhide HB) (below_al wr (.cells #[.int .i64 t.kind, .string t.text, .int .i64 t.num, .int .i64 t.fail, .string t.ref.book, .string t.ref.sheet, .int .i64 t.ref.a.col, .int .i64 t.ref.a.row, .bool t.ref.a.fc, .bool t.ref.a.fr, .int .i64 t.ref.b.col, .int .i64 t.ref.b.row, .bool t.ref.b.fc, .bool t.ref.b.fr, .bool t.ref.wide, .int .i64 t.place] 41)))
      generalize hW : wr.alloc (.cells #[.int .i64 t.kind, .string t.text, .int .i64 t.num, .int .i64 t.fail, .string t.ref.book, .string t.ref.sheet, .int .i64 t.ref.a.col, .int .i64 t.ref.a.row, .bool t.ref.a.fc, .bool t.ref.a.fr, .int .i64 t.ref.b.col, .int .i64 t.ref.b.row, .bool t.ref.b.fc, .bool t.ref.b.fr, .bool t.ref.wide, .int .i64 t.place] 41) = W1 at V HO1 HB1 ⊢
      clear hW v_0 v_1 v_2 v_3 v_4 v_5 v_6 v_7 v_8 v_9 v_10 v_11 v_12 v_13 v_14 v_15 hg HO HB
      obtain ⟨v_0, v_1, v_2, v_3, v_4, v_5, v_6, v_7, v_8, v_9, v_10, v_11, v_12, v_13, v_14, v_15⟩ := cells16 (unhide V)
      go_wp2_with fail
      refine (unhide HSH1 _ ((unhide HE).below (unhide HB1))).mono ?_
      rintro e wk ⟨rfl, bk⟩
      have HO2 := hide (owns_nx (unhide HO1) bk)
      have HB2 := hide (below_nx (unhide HB1) bk)
      clear bk v_0 v_1 v_2 v_3 v_4 v_5 v_6 v_7 v_8 v_9 v_10 v_11 v_12 v_13 v_14 v_15 V HO1 HB1 HSH1
      go_wp2_with (at_builtin; refine wpList_append_fits _ rfl _ _ 64 rfl w.heap.size 9 i0 1 Tryz.underlying64 hi hz1 w.heap.size k N _ rfl ((unhide HO2).alloc _) ⟨wk.heap.size, 0, none⟩ 1 1 [.string ⟨(showL t).toArray⟩] rfl rfl (World.news_of_block (heap_alloc_new _ _)) ?c2 ?c3 ?_)
      case c2 => intro u hu; simp at hu; subst hu; rfl
      case c3 => omega
      intro w1 hown1 hgrow1
      have HB3 := hide (((unhide HB2).alloc (unhide HB2).size _).grown hgrow1 (by have := (unhide HB2).size; simp; omega) (fun k hk => by cases hk; exact Nat.le_refl _))
      have HO3 := hide hown1
      rw [show strsV (shown (ts.take k)) ++ [Value.string ⟨(showL t).toArray⟩] = strsV (shown (ts.take (k + 1))) by rw [unhide HTK]; unfold strsV shown; simp] at HO3
      clear hown1 hgrow1 HO2 HB2
      go_wp2
      go_roundw
      case rel => exact ⟨k + 1, rfl, by go_num, by omega, HO3, HB3⟩
      case measure => simp [intOf]; omega
    · have ek : k = N := by omega
      subst ek
      have HJ : Hid (Calls Tryz.prog 21 #[.slice (some ⟨w.heap.size, 0, none⟩) k k, .string ⟨#[32]⟩] wr fun e w' => e = .returned (.string ⟨(joinL ts).toArray⟩) ∧ Below wr.heap.size wr w') := hide (by
        have hx : (shown ts).length = k := by unfold shown; rw [List.length_map]; exact unhide HN
        have ht : ts.take k = ts := List.take_of_length_le (by rw [unhide HN]; exact Nat.le_refl _)
        have ho := unhide HO
        rw [ht] at ho
        have hmap : (shown ts).map (·.data.toList) = ts.map showL := by unfold shown; rw [List.map_map]; rfl
        have hjl := join_len ts (unhide HTX)
        rw [unhide HN] at hjl
        have hjoin : Lib.join ((shown ts).map (·.data.toList)) (⟨#[32]⟩ : ByteArray).data.toList = joinL ts := by rw [hmap]; rfl
        rcases ho.2 with ⟨h, _⟩ | ⟨g, cap', cur, hv, hb, hh, hc, hm, hs, hta⟩
        · cases h
        · cases hv
          have hbk : w.heap.size < wr.heap.size := by
            rcases Nat.lt_or_ge w.heap.size wr.heap.size with h | h
            · exact h
            · rw [Array.getElem?_eq_none h] at hh; cases hh
          have kk := Tryz.strings_Join w.heap.size 0 k (shown ts) ⟨#[32]⟩ wr (by
            intro j x hj
            rw [cell_of_row wr _ _ cur 9 (0, 0) hh, Nat.zero_add]
            have h1 : (strsV (shown ts))[j]? = some (.string x) := by unfold strsV; rw [List.getElem?_map, hj]; rfl
            rw [← hta, List.getElem?_take] at h1
            split at h1
            · simpa using h1
            · cases h1) hbk (by rw [hx]; omega) (by rw [hx]; exact Nat.le_refl _) (by rw [hjoin]; omega)
          rw [hjoin, hx] at kk
          exact kk)
      go_wp2_with fail
      refine (unhide HJ).mono ?_
      rintro e wk ⟨rfl, bk⟩
      have HB2 := hide (below_nx (unhide HB) bk)
      clear bk
      go_wp2
      go_ret
      exact ⟨rfl, unhide HB2⟩
end Go.Proofs.YtgoaefpkhjbkjaaGreatDoor
