/- The contracts of cmp.Compare at whole numbers, and of the program's beside, of layer 3. -/
import Derived.Test.YteaodfeaidjcnaaGreatDoorVpH
import Derived.Test.YteaodfeaidjcnaaGreatDoorVrY
namespace Go.Proofs.YteaodfeaidjcnaaGreatDoor
open Go.RowKit

set_option maxHeartbeats 1000000 in
theorem nan_kind (a : Int) (w : World) : Calls Tryz.prog 92 #[.int .i64 a] w fun e w' => e = .returned (.bool false) ∧ w' = w := by
  go_enter Tryz.func92, Tryz.ntmps92
  go_wp2
  go_ret
  exact ⟨rfl, rfl⟩
set_option maxHeartbeats 1000000 in
theorem cmp_kind (a b : Int) (w : World) : Calls Tryz.prog 70 #[.int .i64 a, .int .i64 b] w fun e w' => e = .returned (.int .i64 (cmpV a b)) ∧ w' = w := by
  have HN := hide nan_kind
  unfold cmpV
  by_cases h : a < b
  · rw [if_pos h]
    go_enter Tryz.func70, Tryz.ntmps70
    go_wp2_with fail
    refine (unhide HN a _).mono ?_
    rintro e w1 ⟨rfl, rfl⟩
    go_wp2_with fail
    refine (unhide HN b _).mono ?_
    rintro e w2 ⟨rfl, rfl⟩
    go_wp2
    go_ret
    exact ⟨rfl, rfl⟩
  · rw [if_neg h]
    by_cases h2 : b < a
    · rw [if_pos h2]
      go_enter Tryz.func70, Tryz.ntmps70
      go_wp2_with fail
      refine (unhide HN a _).mono ?_
      rintro e w1 ⟨rfl, rfl⟩
      go_wp2_with fail
      refine (unhide HN b _).mono ?_
      rintro e w2 ⟨rfl, rfl⟩
      go_wp2
      go_ret
      exact ⟨rfl, rfl⟩
    · rw [if_neg h2]
      obtain rfl : a = b := by omega
      go_enter Tryz.func70, Tryz.ntmps70
      go_wp2_with fail
      refine (unhide HN a _).mono ?_
      rintro e w1 ⟨rfl, rfl⟩
      go_wp2_with fail
      refine (unhide HN a _).mono ?_
      rintro e w2 ⟨rfl, rfl⟩
      go_wp2
      go_ret
      exact ⟨rfl, rfl⟩
set_option maxHeartbeats 1000000 in
theorem nan_num (a : Int) (w : World) : Calls Tryz.prog 94 #[.int .i64 a] w fun e w' => e = .returned (.bool false) ∧ w' = w := by
  go_enter Tryz.func94, Tryz.ntmps94
  go_wp2
  go_ret
  exact ⟨rfl, rfl⟩
set_option maxHeartbeats 1000000 in
theorem cmp_num (a b : Int) (w : World) : Calls Tryz.prog 72 #[.int .i64 a, .int .i64 b] w fun e w' => e = .returned (.int .i64 (cmpV a b)) ∧ w' = w := by
  have HN := hide nan_num
  unfold cmpV
  by_cases h : a < b
  · rw [if_pos h]
    go_enter Tryz.func72, Tryz.ntmps72
    go_wp2_with fail
    refine (unhide HN a _).mono ?_
    rintro e w1 ⟨rfl, rfl⟩
    go_wp2_with fail
    refine (unhide HN b _).mono ?_
    rintro e w2 ⟨rfl, rfl⟩
    go_wp2
    go_ret
    exact ⟨rfl, rfl⟩
  · rw [if_neg h]
    by_cases h2 : b < a
    · rw [if_pos h2]
      go_enter Tryz.func72, Tryz.ntmps72
      go_wp2_with fail
      refine (unhide HN a _).mono ?_
      rintro e w1 ⟨rfl, rfl⟩
      go_wp2_with fail
      refine (unhide HN b _).mono ?_
      rintro e w2 ⟨rfl, rfl⟩
      go_wp2
      go_ret
      exact ⟨rfl, rfl⟩
    · rw [if_neg h2]
      obtain rfl : a = b := by omega
      go_enter Tryz.func72, Tryz.ntmps72
      go_wp2_with fail
      refine (unhide HN a _).mono ?_
      rintro e w1 ⟨rfl, rfl⟩
      go_wp2_with fail
      refine (unhide HN a _).mono ?_
      rintro e w2 ⟨rfl, rfl⟩
      go_wp2
      go_ret
      exact ⟨rfl, rfl⟩

theorem five_new3 (w : World) (o p : Obj) (t : TypeId) (a b c d e : Value) : FiveAt (((w.alloc o).alloc p).alloc (.cells #[a, b, c, d, e] t)) (w.heap.size + 1 + 1) t #[a, b, c, d, e] := by
  refine ⟨?_, rfl⟩
  have h := heap_alloc_new ((w.alloc o).alloc p) (.cells #[a, b, c, d, e] t)
  rw [show ((w.alloc o).alloc p).heap.size = w.heap.size + 1 + 1 by show ((w.heap.push o).push p).size = _; simp] at h
  exact h
theorem below_al3 (w : World) (o p q : Obj) : Below w.heap.size w (((w.alloc o).alloc p).alloc q) := (below_al2 w o p).alloc (by simp; omega) _
theorem cmp_lt (l m : List UInt8) : Lib.compareBytes l m = ltL l m := by
  induction l generalizing m with
  | nil => cases m <;> rfl
  | cons a l ih =>
    cases m with
    | nil => rfl
    | cons b m =>
      unfold Lib.compareBytes ltL
      rw [ih]
      rfl
theorem textcmp_val (s t : ByteArray) (w : World) :
    Calls Tryz.prog 71 #[.string s, .string t] w fun e w' => e = .returned (.int .i64 (ltL s.data.toList t.data.toList)) ∧ w' = w := by
  rw [← cmp_lt]
  exact Tryz.strings_Compare s t w
def besV (u x : Vl) : Vl := if u.kind = 0 then bl x.kind else u
set_option maxHeartbeats 2000000 in
theorem beside_val (u x : Vl) (w : World) :
    Calls Tryz.prog 69 #[.agg u.cells, .agg x.cells] w fun e w' => e = .returned (.agg (besV u x).cells) ∧ Below w.heap.size w w' := by
  unfold besV bl
  by_cases h : u.kind = 0
  · rw [if_pos h]
    obtain ⟨k, n, s, b, f⟩ := u
    simp only [] at h
    subst h
    unfold Vl.cells
    simp only []
    go_enter Tryz.func69, Tryz.ntmps69
    go_wp2
    refine bodyPost_ret (results_cell_row rfl _ _ _ _ _ _ _ rfl (five_new3 w _ _ _ _ _ _ _ _).1 Tryz.underlying28 rfl infoVal) rfl ?_
    exact ⟨rfl, below_al3 _ _ _ _⟩
  · rw [if_neg h]
    have hb : (u.kind == 0) = false := by rw [beq_eq_false_iff_ne]; exact h
    clear h
    unfold Vl.cells
    go_enter Tryz.func69, Tryz.ntmps69
    go_wp2
    refine bodyPost_ret (results_cell_row rfl _ _ _ _ _ _ _ rfl (five_new3 w _ _ _ _ _ _ _ _).1 Tryz.underlying28 rfl infoVal) rfl ?_
    exact ⟨rfl, below_al3 _ _ _ _⟩
end Go.Proofs.YteaodfeaidjcnaaGreatDoor
