/- The contracts of the program's E, B, N, T, of layer 3. -/
import Derived.BigQuiet
import Derived.BigRegion
import Derived.Deep.QuietTactic
import Derived.Deep.RegionWith
import Derived.Deep.WholeRow
import Derived.Laws.CopyOwn
import Derived.Laws.IdiomStrings
import Derived.Laws.Rows
import Derived.Laws.StructEq
import Derived.Laws.Tables
import Derived.Lib.BitFns
import Derived.Lib.ItoaNum
import Derived.Shelf.Bits.Mul64
import Derived.Shelf.LaysM
import Derived.Shelf.Small.Bits
import Derived.Shelf.Small.Strs
import Derived.Shelf.Small.Wraps
import Derived.Shelf.Strconv.Itoa0
import Derived.Shelf.Strconv.Itoa1
import Derived.Shelf.Strconv.Itoa2
import Derived.Shelf.Strings.AsciiSet
import Derived.Shelf.Strings.Cut
import Derived.Shelf.Strings.Prefix
import Derived.Shelf.Strings.Search1
import Derived.Shelf.Strings.Search2
import Derived.Shelf.Strings.Shaped
import Derived.Shelf.Strings.Trim
import Derived.Test.YtbeijnflfmjgfaaGreatDoorProg
import Derived.Test.YtbeijnflfmjgfaaGreatDoorRows
import Derived.WalkKit
import Derived.WalkLawsBesides
import Derived.WalkSmall
import Derived.WalkSpells
import Derived.Test.YtbeijnflfmjgfaaGreatDoorZoAA
namespace Go.Proofs.YtbeijnflfmjgfaaGreatDoor
open Go.RowKit

theorem infoVal : (Tryz.prog.info? 28).map (·.size) = some 5 := by kernel_rfl

set_option maxHeartbeats 1000000 in
theorem e_val (f : Int) (w : World) :
    Calls Tryz.prog 57 #[.int .i64 f] w fun e w' => e = .returned (.agg (vE f).cells) ∧ Below w.heap.size w w' := by
  unfold vE Vl.cells
  by_cases h1 : f ≤ 0
  · rw [if_pos (Or.inl (by omega))]
    go_enter Tryz.func57, Tryz.ntmps57
    go_wp2
    refine bodyPost_ret (results_cell_row rfl _ _ _ _ _ _ _ rfl (heap_alloc_new _ _) Tryz.underlying28 rfl infoVal) rfl ?_
    exact ⟨rfl, (Below.refl _ _).alloc (Nat.le_refl _) _⟩
  · by_cases h2 : 9 ≤ f
    · rw [if_pos (Or.inr (by omega))]
      go_enter Tryz.func57, Tryz.ntmps57
      go_wp2
      refine bodyPost_ret (results_cell_row rfl _ _ _ _ _ _ _ rfl (heap_alloc_new _ _) Tryz.underlying28 rfl infoVal) rfl ?_
      exact ⟨rfl, (Below.refl _ _).alloc (Nat.le_refl _) _⟩
    · rw [if_neg (by omega)]
      have d2 : decide (9 ≤ f) = false := decide_eq_false h2
      go_enter Tryz.func57, Tryz.ntmps57
      go_wp2
      refine bodyPost_ret (results_cell_row rfl _ _ _ _ _ _ _ rfl (heap_alloc_new _ _) Tryz.underlying28 rfl infoVal) rfl ?_
      exact ⟨rfl, (Below.refl _ _).alloc (Nat.le_refl _) _⟩

set_option maxHeartbeats 1000000 in
theorem b_val (b : Bool) (w : World) :
    Calls Tryz.prog 59 #[.bool b] w fun e w' => e = .returned (.agg (vB b).cells) ∧ Below w.heap.size w w' := by
  unfold vB Vl.cells
  go_enter Tryz.func59, Tryz.ntmps59
  go_wp2
  refine bodyPost_ret (results_cell_row rfl _ _ _ _ _ _ _ rfl (heap_alloc_new _ _) Tryz.underlying28 rfl infoVal) rfl ?_
  exact ⟨rfl, (Below.refl _ _).alloc (Nat.le_refl _) _⟩
set_option maxHeartbeats 2000000 in
theorem n_val (n : Int) (w : World) :
    Calls Tryz.prog 25 #[.int .i64 n] w fun e w' => e = .returned (.agg (vN n).cells) ∧ Below w.heap.size w w' := by
  have HR := hide (fun w => raw_any n w)
  unfold vN
  cases hg : goodB n
  · rw [hg] at HR
    clear hg
    go_enter Tryz.func25, Tryz.ntmps25
    go_wp2_with fail
    refine (unhide HR _).mono ?_
    rintro e w1 ⟨rfl, b1⟩
    have HF := hide (five_below (five_new w 28 _ _ _ _ _) b1 (by simp))
    have HB := hide ((below_al w _).trans (b1.mono (by simp)))
    clear b1
    go_wp2_with fail
    refine (e_val 2 _).mono ?_
    rintro e w2 ⟨rfl, b2⟩
    replace HF := hide (five_below (unhide HF) b2 (five_lt (unhide HF)))
    replace HB := hide (below_nx (unhide HB) b2)
    clear b2
    unfold vE Vl.cells
    have hf := unhide HF
    obtain ⟨x0, c0⟩ := five_c hf 0 (by omega)
    obtain ⟨x1, c1⟩ := five_c hf 1 (by omega)
    obtain ⟨x2, c2⟩ := five_c hf 2 (by omega)
    obtain ⟨x3, c3⟩ := five_c hf 3 (by omega)
    obtain ⟨x4, c4⟩ := five_c hf 4 (by omega)
    have f0 := five_f hf 0
    have f1 := five_f hf 1
    have f2 := five_f hf 2
    have f3 := five_f hf 3
    have f4 := five_f hf 4
    clear hf
    go_wp2
    refine bodyPost_ret (results_cell_row rfl _ _ _ _ _ _ _ rfl (five_set (unhide HF) _ _ _ _ _).1 Tryz.underlying28 rfl infoVal) rfl ?_
    exact ⟨rfl, below_five (unhide HB) (Nat.le_refl _) _ _ _ _ _⟩
  · rw [hg] at HR
    clear hg
    unfold Vl.cells
    go_enter Tryz.func25, Tryz.ntmps25
    go_wp2_with fail
    refine (unhide HR _).mono ?_
    rintro e w1 ⟨rfl, b1⟩
    have HF := hide (five_below (five_new w 28 _ _ _ _ _) b1 (by simp))
    have HB := hide ((below_al w _).trans (b1.mono (by simp)))
    clear b1
    have hf := unhide HF
    obtain ⟨x0, c0⟩ := five_c hf 0 (by omega)
    obtain ⟨x1, c1⟩ := five_c hf 1 (by omega)
    obtain ⟨x2, c2⟩ := five_c hf 2 (by omega)
    obtain ⟨x3, c3⟩ := five_c hf 3 (by omega)
    obtain ⟨x4, c4⟩ := five_c hf 4 (by omega)
    have f0 := five_f hf 0
    have f1 := five_f hf 1
    have f2 := five_f hf 2
    have f3 := five_f hf 3
    have f4 := five_f hf 4
    clear hf
    go_wp2
    refine bodyPost_ret (results_cell_row rfl _ _ _ _ _ _ _ rfl (five_set (unhide HF) _ _ _ _ _).1 Tryz.underlying28 rfl infoVal) rfl ?_
    exact ⟨rfl, below_five (unhide HB) (Nat.le_refl _) _ _ _ _ _⟩

set_option maxHeartbeats 2000000 in
theorem t_val (s : ByteArray) (w : World) (hs : s.size ≤ 1000000) :
    Calls Tryz.prog 58 #[.string s] w fun e w' => e = .returned (.agg (vT s).cells) ∧ Below w.heap.size w w' := by
  unfold vT
  by_cases hl : 255 < s.size
  · rw [if_pos hl]
    have hi : 255 < (s.size : Int) := by omega
    clear hl
    go_enter Tryz.func58, Tryz.ntmps58
    go_wp2_with fail
    refine (e_val 3 _).mono ?_
    rintro e w1 ⟨rfl, b1⟩
    have HF := hide (five_below (five_new w 28 _ _ _ _ _) b1 (by simp))
    have HB := hide ((below_al w _).trans (b1.mono (by simp)))
    clear b1
    unfold vE Vl.cells
    have hf := unhide HF
    obtain ⟨x0, c0⟩ := five_c hf 0 (by omega)
    obtain ⟨x1, c1⟩ := five_c hf 1 (by omega)
    obtain ⟨x2, c2⟩ := five_c hf 2 (by omega)
    obtain ⟨x3, c3⟩ := five_c hf 3 (by omega)
    obtain ⟨x4, c4⟩ := five_c hf 4 (by omega)
    have f0 := five_f hf 0
    have f1 := five_f hf 1
    have f2 := five_f hf 2
    have f3 := five_f hf 3
    have f4 := five_f hf 4
    clear hf
    go_wp2
    refine bodyPost_ret (results_cell_row rfl _ _ _ _ _ _ _ rfl (five_set (unhide HF) _ _ _ _ _).1 Tryz.underlying28 rfl infoVal) rfl ?_
    exact ⟨rfl, below_five (unhide HB) (Nat.le_refl _) _ _ _ _ _⟩
  · rw [if_neg hl]
    have hi : (s.size : Int) ≤ 255 := by omega
    clear hl
    unfold Vl.cells
    go_enter Tryz.func58, Tryz.ntmps58
    go_wp2
    refine bodyPost_ret (results_cell_row rfl _ _ _ _ _ _ _ rfl (heap_alloc_new _ _) Tryz.underlying28 rfl infoVal) rfl ?_
    exact ⟨rfl, below_al _ _⟩
end Go.Proofs.YtbeijnflfmjgfaaGreatDoor

namespace Go.Proofs.YtbeijnflfmjgfaaGreatDoor
open Go.RowKit

def vEq (a b : Vl) : Bool := (a.kind == b.kind) && ((a.num == b.num) && ((a.text.toList == b.text.toList) && ((a.tr == b.tr) && (a.fail == b.fail))))

theorem vl_eq (k n : Int) (s : ByteArray) (b : Bool) (f : Int) (k' n' : Int) (s' : ByteArray) (b' : Bool) (f' : Int) (w : World) :
    (binOp .eql 28 (.agg #[.int .i64 k, .int .i64 n, .string s, .bool b, .int .i64 f]) (.agg #[.int .i64 k', .int .i64 n', .string s', .bool b', .int .i64 f'])).run Tryz.prog w
      = .ok (.bool (vEq ⟨k, n, s, b, f⟩ ⟨k', n', s', b', f'⟩)) w := by
  have hS : Tryz.prog.underlying 28 = some (.struct (Tryz.prog.fieldsOf 28)) := by kernel_rfl
  have hp : Tryz.prog.stoodInHeld 28 = false := by kernel_rfl
  have u1 := Tryz.underlying24
  have u2 := Tryz.underlying25
  have u3 := Tryz.underlying9
  have u4 := Tryz.underlying4
  have u5 := Tryz.underlying26
  have a1 := Tryz.isAgg24
  have a2 := Tryz.isAgg25
  have a3 := Tryz.isAgg9
  have a4 := Tryz.isAgg4
  have a5 := Tryz.isAgg26
  have z1 := Tryz.sizeOf24
  have z2 := Tryz.sizeOf25
  have z3 := Tryz.sizeOf9
  have z4 := Tryz.sizeOf4
  have z5 := Tryz.sizeOf26
  rw [run_eql_struct, show (10000 : Nat) = 9999 + 1 from rfl, run_equalIn_agg w 9999 28 _ _ hS hp]
  simp only [Program.fieldsOf, Tryz.underlying28]
  go_simp
  unfold vEq
  by_cases h1 : k = k'
  · by_cases h2 : n = n'
    · by_cases h3 : s.toList = s'.toList
      · by_cases h4 : b = b'
        · by_cases h5 : f = f'
          · simp [h1, h2, h3, h4, h5]
          · simp [h1, h2, h3, h4, h5]
        · simp [h1, h2, h3, h4]
      · simp [h1, h2, h3]
    · simp [h1, h2]
  · simp [h1]
end Go.Proofs.YtbeijnflfmjgfaaGreatDoor

namespace Go.Proofs.YtbeijnflfmjgfaaGreatDoor
open Go.RowKit


theorem five_cells {w : World} {B : Nat} {t : TypeId} {a b c d e : Value} (h : FiveAt w B t #[a, b, c, d, e]) :
    w.cell? ⟨B, 0, none⟩ = some a ∧ w.cell? ⟨B, 1, none⟩ = some b ∧ w.cell? ⟨B, 2, none⟩ = some c ∧ w.cell? ⟨B, 3, none⟩ = some d ∧ w.cell? ⟨B, 4, none⟩ = some e := by
  simp [World.cell?, h.1]

theorem five_drew {w : World} {B : Nat} {t : TypeId} {cs : Array Value} (h : FiveAt w B t cs) : FiveAt w.drew B t cs := h
theorem noText_list : noText.toList = [] := by rw [ByteArray.toList_eq]
theorem vGood0 (n : Int) (s : ByteArray) (b : Bool) (f : Int) : vGood ⟨0, n, s, b, f⟩ = ((n == 0) && (s.toList == []) && !b && (f == 0)) := rfl
theorem vGood1 (n : Int) (s : ByteArray) (b : Bool) (f : Int) : vGood ⟨1, n, s, b, f⟩ = (goodB n && (s.toList == []) && !b && (f == 0)) := rfl
theorem vGood2 (n : Int) (s : ByteArray) (b : Bool) (f : Int) : vGood ⟨2, n, s, b, f⟩ = ((n == 0) && decide (s.size ≤ 255) && !b && (f == 0)) := rfl
theorem vGood3 (n : Int) (s : ByteArray) (b : Bool) (f : Int) : vGood ⟨3, n, s, b, f⟩ = ((n == 0) && (s.toList == []) && (f == 0)) := rfl
theorem vGood4 (n : Int) (s : ByteArray) (b : Bool) (f : Int) : vGood ⟨4, n, s, b, f⟩ = ((n == 0) && (s.toList == []) && !b && decide (1 ≤ f) && decide (f ≤ 8)) := rfl
theorem vEq_mk (k n : Int) (s : ByteArray) (b : Bool) (f : Int) (k' n' : Int) (s' : ByteArray) (b' : Bool) (f' : Int) :
    vEq ⟨k, n, s, b, f⟩ ⟨k', n', s', b', f'⟩ = ((k == k') && ((n == n') && ((s.toList == s'.toList) && ((b == b') && (f == f'))))) := rfl
theorem vE_out (f : Int) (h : f < 1 ∨ 8 < f) : vE f = ⟨4, 0, noText, false, 3⟩ := by unfold vE; rw [if_pos h]
theorem vE_in (f : Int) (h : ¬ (f < 1 ∨ 8 < f)) : vE f = ⟨4, 0, noText, false, f⟩ := by unfold vE; rw [if_neg h]
theorem eq_blank (n : Int) (s : ByteArray) (b : Bool) (f : Int) : vEq ⟨0, n, s, b, f⟩ ⟨0, 0, noText, false, 0⟩ = vGood ⟨0, n, s, b, f⟩ := by
  rw [vGood0, vEq_mk, noText_list]
  cases b <;> simp [Bool.and_assoc]
theorem eq_num (n : Int) (s : ByteArray) (b : Bool) (f : Int) : vEq ⟨1, n, s, b, f⟩ (vN n) = vGood ⟨1, n, s, b, f⟩ := by
  rw [vGood1]
  unfold vN
  cases hg : goodB n
  · rw [if_neg (by simp), vE_in 2 (by omega), vEq_mk]; rfl
  · rw [if_pos rfl, vEq_mk, noText_list]; cases b <;> simp
theorem eq_text (n : Int) (s : ByteArray) (b : Bool) (f : Int) : vEq ⟨2, n, s, b, f⟩ (vT s) = vGood ⟨2, n, s, b, f⟩ := by
  rw [vGood2]
  unfold vT
  by_cases h : 255 < s.size
  · rw [if_pos h, show decide (s.size ≤ 255) = false from decide_eq_false (by omega), vE_in 3 (by omega), vEq_mk]; simp
  · rw [if_neg h, show decide (s.size ≤ 255) = true from decide_eq_true (by omega), vEq_mk]; cases b <;> simp
theorem eq_bool (n : Int) (s : ByteArray) (b : Bool) (f : Int) : vEq ⟨3, n, s, b, f⟩ (vB b) = vGood ⟨3, n, s, b, f⟩ := by
  rw [vGood3]
  unfold vB
  rw [vEq_mk, noText_list]
  cases b <;> simp [Bool.and_assoc]
theorem eq_err (n : Int) (s : ByteArray) (b : Bool) (f : Int) : vEq ⟨4, n, s, b, f⟩ (vE f) = vGood ⟨4, n, s, b, f⟩ := by
  rw [vGood4]
  by_cases h : f < 1 ∨ 8 < f
  · have h3 : (f == 3) = false := by rw [beq_eq_false_iff_ne]; omega
    rw [vE_out f h, vEq_mk, h3, noText_list]
    rcases h with h | h
    · rw [show decide (1 ≤ f) = false from decide_eq_false (by omega)]; cases b <;> simp
    · rw [show decide (f ≤ 8) = false from decide_eq_false (by omega)]; cases b <;> simp
  · rw [vE_in f h, vEq_mk, noText_list, show decide (1 ≤ f) = true from decide_eq_true (by omega), show decide (f ≤ 8) = true from decide_eq_true (by omega)]
    cases b <;> simp
theorem good_else (k n : Int) (s : ByteArray) (b : Bool) (f : Int) (h0 : k ≠ 0) (h1 : k ≠ 1) (h2 : k ≠ 2) (h3 : k ≠ 3) (h4 : k ≠ 4) : vGood ⟨k, n, s, b, f⟩ = false := by
  unfold vGood
  rw [if_neg h0, if_neg h1, if_neg h2, if_neg h3, if_neg h4]

set_option maxHeartbeats 4000000 in
theorem good3_val (v : Vl) (w : World) (hs : v.text.size ≤ 1000000) :
    Calls Tryz.prog 27 #[.agg v.cells] w fun e w' => e = .returned (.bool (vGood v)) ∧ Below w.heap.size w w' := by
  obtain ⟨k, n, s, b, f⟩ := v
  simp only [] at hs
  have HS := hide hs
  clear hs
  unfold Vl.cells
  simp only []
  by_cases k0 : k = 0
  · subst k0
    rw [← eq_blank]
    have hq := fun w => vl_eq 0 n s b f 0 0 noText false 0 w
    go_enter Tryz.func27, Tryz.ntmps27
    go_wp2
    go_ret
    exact ⟨rfl, below_al _ _⟩
  · have kb0 : (k == 0) = false := by rw [beq_eq_false_iff_ne]; exact k0
    by_cases k1 : k = 1
    · subst k1
      clear kb0 k0
      rw [← eq_num]
      obtain ⟨z, hz⟩ : ∃ z, vN n = z := ⟨_, rfl⟩
      have HC : Hid (∀ w : World, Calls Tryz.prog 25 #[.int .i64 n] w fun e w' => e = .returned (.agg z.cells) ∧ Below w.heap.size w w') := hide (fun w => by have h := n_val n w; rw [hz] at h; exact h)
      rw [hz]
      clear hz
      obtain ⟨k1, n1, s1, t1, f1⟩ := z
      unfold Vl.cells at HC
      simp only [] at HC
      have hq := fun w => vl_eq 1 n s b f k1 n1 s1 t1 f1 w
      go_enter Tryz.func27, Tryz.ntmps27
      go_wp2_with fail
      go_region_with (go_at_call 25; refine (unhide HC _).mono ?_; rintro e w1 ⟨rfl, b1⟩; have hc := five_below (five_drew (five_new w 28 (.int .i64 1) (.int .i64 n) (.string s) (.bool b) (.int .i64 f))) b1 (by show _ < (w.heap.push _).size; simp); obtain ⟨c0, c1, c2, c3, c4⟩ := five_cells hc; have HB := hide (below_nx (below_al w _).drew b1); clear hc b1)
      all_goals (try go_wp2_with fail)
      all_goals go_ret
      all_goals exact ⟨rfl, unhide HB⟩
    · have kb1 : (k == 1) = false := by rw [beq_eq_false_iff_ne]; exact k1
      by_cases k2 : k = 2
      · subst k2
        clear kb0 k0
        clear kb1 k1
        rw [← eq_text]
        obtain ⟨z, hz⟩ : ∃ z, vT s = z := ⟨_, rfl⟩
        have HC : Hid (∀ w : World, Calls Tryz.prog 58 #[.string s] w fun e w' => e = .returned (.agg z.cells) ∧ Below w.heap.size w w') := hide (fun w => by have h := t_val s w (unhide HS); rw [hz] at h; exact h)
        rw [hz]
        clear hz
        obtain ⟨k1, n1, s1, t1, f1⟩ := z
        unfold Vl.cells at HC
        simp only [] at HC
        have hq := fun w => vl_eq 2 n s b f k1 n1 s1 t1 f1 w
        go_enter Tryz.func27, Tryz.ntmps27
        go_wp2_with fail
        go_region_with (go_at_call 58; refine (unhide HC _).mono ?_; rintro e w1 ⟨rfl, b1⟩; have hc := five_below (five_drew (five_new w 28 (.int .i64 2) (.int .i64 n) (.string s) (.bool b) (.int .i64 f))) b1 (by show _ < (w.heap.push _).size; simp); obtain ⟨c0, c1, c2, c3, c4⟩ := five_cells hc; have HB := hide (below_nx (below_al w _).drew b1); clear hc b1)
        all_goals (try go_wp2_with fail)
        all_goals go_ret
        all_goals exact ⟨rfl, unhide HB⟩
      · have kb2 : (k == 2) = false := by rw [beq_eq_false_iff_ne]; exact k2
        by_cases k3 : k = 3
        · subst k3
          clear kb0 k0
          clear kb1 k1
          clear kb2 k2
          rw [← eq_bool]
          obtain ⟨z, hz⟩ : ∃ z, vB b = z := ⟨_, rfl⟩
          have HC : Hid (∀ w : World, Calls Tryz.prog 59 #[.bool b] w fun e w' => e = .returned (.agg z.cells) ∧ Below w.heap.size w w') := hide (fun w => by have h := b_val b w; rw [hz] at h; exact h)
          rw [hz]
          clear hz
          obtain ⟨k1, n1, s1, t1, f1⟩ := z
          unfold Vl.cells at HC
          simp only [] at HC
          have hq := fun w => vl_eq 3 n s b f k1 n1 s1 t1 f1 w
          go_enter Tryz.func27, Tryz.ntmps27
          go_wp2_with fail
          go_region_with (go_at_call 59; refine (unhide HC _).mono ?_; rintro e w1 ⟨rfl, b1⟩; have hc := five_below (five_drew (five_new w 28 (.int .i64 3) (.int .i64 n) (.string s) (.bool b) (.int .i64 f))) b1 (by show _ < (w.heap.push _).size; simp); obtain ⟨c0, c1, c2, c3, c4⟩ := five_cells hc; have HB := hide (below_nx (below_al w _).drew b1); clear hc b1)
          all_goals (try go_wp2_with fail)
          all_goals go_ret
          all_goals exact ⟨rfl, unhide HB⟩
        · have kb3 : (k == 3) = false := by rw [beq_eq_false_iff_ne]; exact k3
          by_cases k4 : k = 4
          · subst k4
            clear kb0 k0
            clear kb1 k1
            clear kb2 k2
            clear kb3 k3
            rw [← eq_err]
            obtain ⟨z, hz⟩ : ∃ z, vE f = z := ⟨_, rfl⟩
            have HC : Hid (∀ w : World, Calls Tryz.prog 57 #[.int .i64 f] w fun e w' => e = .returned (.agg z.cells) ∧ Below w.heap.size w w') := hide (fun w => by have h := e_val f w; rw [hz] at h; exact h)
            rw [hz]
            clear hz
            obtain ⟨k1, n1, s1, t1, f1⟩ := z
            unfold Vl.cells at HC
            simp only [] at HC
            have hq := fun w => vl_eq 4 n s b f k1 n1 s1 t1 f1 w
            go_enter Tryz.func27, Tryz.ntmps27
            go_wp2_with fail
            go_region_with (go_at_call 57; refine (unhide HC _).mono ?_; rintro e w1 ⟨rfl, b1⟩; have hc := five_below (five_drew (five_new w 28 (.int .i64 4) (.int .i64 n) (.string s) (.bool b) (.int .i64 f))) b1 (by show _ < (w.heap.push _).size; simp); obtain ⟨c0, c1, c2, c3, c4⟩ := five_cells hc; have HB := hide (below_nx (below_al w _).drew b1); clear hc b1)
            all_goals (try go_wp2_with fail)
            all_goals go_ret
            all_goals exact ⟨rfl, unhide HB⟩
          · have kb4 : (k == 4) = false := by rw [beq_eq_false_iff_ne]; exact k4
            rw [good_else k n s b f k0 k1 k2 k3 k4]
            clear k0 k1 k2 k3 k4
            go_enter Tryz.func27, Tryz.ntmps27
            go_wp2
            go_ret
            exact ⟨rfl, below_al _ _⟩
end Go.Proofs.YtbeijnflfmjgfaaGreatDoor

namespace Go.Proofs.YtbeijnflfmjgfaaGreatDoor
open Go.RowKit

theorem results_row2 {P : Program} {fn : Func} {p q : Tmp} {ty ty' : TypeId} (h : fn.results = #[.cell p ty, .cell q ty']) (tmps : Array Value) (w : World) (g g' : Nat) (t t' : TypeId) (cs cs' : Array Value) (fr fr' : Nat × Nat) (d d' : TypeDesc)
    (hp : tmps.getD p undef = .pointer (some ⟨g, 0, none⟩)) (hg : w.heap[g]? = some (.cells cs t fr))
    (hu : P.underlying ty = some d) (hd : (match d with | .struct _ | .array _ _ => true | _ => false) = true) (hi : (P.info? ty).map (·.size) = some cs.size)
    (hp' : tmps.getD q undef = .pointer (some ⟨g', 0, none⟩)) (hg' : w.heap[g']? = some (.cells cs' t' fr'))
    (hu' : P.underlying ty' = some d') (hd' : (match d' with | .struct _ | .array _ _ => true | _ => false) = true) (hi' : (P.info? ty').map (·.size) = some cs'.size) :
    (results fn tmps).run P w = .ok (.tuple #[.agg cs, .agg cs']) w := by
  have hp2 : tmps[p]?.getD undef = .pointer (some ⟨g, 0, none⟩) := by simpa using hp
  have hp3 : tmps[q]?.getD undef = .pointer (some ⟨g', 0, none⟩) := by simpa using hp'
  simp [results, h, hp2, hp3, asAddr, run_loadVar_row w g t ty cs fr d hg hu hd hi, run_loadVar_row w g' t' ty' cs' fr' d' hg' hu' hd' hi']

theorem heap3_1 (w : World) (A B C : Obj) : (((w.alloc A).alloc B).alloc C).drew.heap[w.heap.size + 1]? = some B := by
  show (((w.heap.push A).push B).push C)[w.heap.size + 1]? = some B
  rw [Array.getElem?_push, if_neg (by simp), Array.getElem?_push, if_pos (by simp)]
theorem heap3_2 (w : World) (A B C : Obj) : (((w.alloc A).alloc B).alloc C).drew.heap[w.heap.size + 1 + 1]? = some C := by
  show (((w.heap.push A).push B).push C)[w.heap.size + 1 + 1]? = some C
  rw [Array.getElem?_push, if_pos (by simp)]
theorem below_al3d (w : World) (o p q : Obj) : Below w.heap.size w (((w.alloc o).alloc p).alloc q).drew := ((below_al2 w o p).alloc (by simp; omega) _).drew
def cutT (s : ByteArray) : ByteArray := if 300 < s.size then s.extract 0 300 else s
theorem cutT_size (s : ByteArray) : (cutT s).size ≤ 300 := by
  unfold cutT
  split
  · rw [ByteArray.size_extract]; omega
  · omega
def cutV (v : Vl) : Vl := ⟨v.kind, v.num, cutT v.text, v.tr, v.fail⟩

end Go.Proofs.YtbeijnflfmjgfaaGreatDoor

namespace Go.Proofs.YtbeijnflfmjgfaaGreatDoor
open Go.RowKit

set_option maxHeartbeats 2000000 in
theorem counted_val (v : Vl) (w : World) (hs : v.text.size ≤ 1000000) :
    Calls Tryz.prog 116 #[.agg v.cells] w fun e w' => e = .returned (.agg (vSound v).cells) ∧ Below w.heap.size w w' := by
  have HGR := hide (fun w => good3_val v w hs)
  unfold vSound
  cases hg : vGood v
  · have HG := hide hg
    clear hg
    unfold Vl.cells at HGR ⊢
    go_enter Tryz.func116, Tryz.ntmps116
    go_wp2_with fail
    refine (unhide HGR _).mono ?_
    rintro e w1 ⟨rfl, b1⟩
    rw [unhide HG]
    go_wp2_with fail
    refine (e_val 3 _).mono ?_
    rintro e w2 ⟨rfl, b2⟩
    have hf0 := five_below (five_new2 w (.cells #[.int .i64 v.kind, .int .i64 v.num, .string v.text, .bool v.tr, .int .i64 v.fail] 28) 28 (.int .i64 0) (.int .i64 0) (.string noText) (.bool false) (.int .i64 0)) b1 (by simp)
    have hb1 := (below_al2 w (.cells #[.int .i64 v.kind, .int .i64 v.num, .string v.text, .bool v.tr, .int .i64 v.fail] 28) (.cells #[.int .i64 0, .int .i64 0, .string noText, .bool false, .int .i64 0] 28)).trans (b1.mono (by simp; omega))
    have hf := five_below (hf0) b2 (five_lt hf0)
    obtain ⟨x0, c0⟩ := five_c hf 0 (by omega)
    obtain ⟨x1, c1⟩ := five_c hf 1 (by omega)
    obtain ⟨x2, c2⟩ := five_c hf 2 (by omega)
    obtain ⟨x3, c3⟩ := five_c hf 3 (by omega)
    obtain ⟨x4, c4⟩ := five_c hf 4 (by omega)
    have f0 := five_f hf 0
    have f1 := five_f hf 1
    have f2 := five_f hf 2
    have f3 := five_f hf 3
    have f4 := five_f hf 4
    have HF := hide hf
    have HB := hide (below_nx hb1 b2)
    clear hf b2 hf0 b1 hb1
    unfold vE Vl.cells
    go_wp2
    refine bodyPost_ret (results_cell_row rfl _ _ _ _ _ _ _ rfl (five_set (unhide HF) _ _ _ _ _).1 Tryz.underlying28 rfl infoVal) rfl ?_
    exact ⟨rfl, below_five (unhide HB) (by omega) _ _ _ _ _⟩
  · have HG := hide hg
    clear hg
    unfold Vl.cells at HGR ⊢
    go_enter Tryz.func116, Tryz.ntmps116
    go_wp2_with fail
    refine (unhide HGR _).mono ?_
    rintro e w1 ⟨rfl, b2⟩
    rw [unhide HG]
    have ho := five_below (five_old w 28 (.int .i64 v.kind) (.int .i64 v.num) (.string v.text) (.bool v.tr) (.int .i64 v.fail) (.cells #[.int .i64 0, .int .i64 0, .string noText, .bool false, .int .i64 0] 28)) b2 (by simp; omega)
    have o0 : w1.cell? ⟨w.heap.size, 0, none⟩ = some (.int .i64 v.kind) := by simp [World.cell?, ho.1]
    have o1 : w1.cell? ⟨w.heap.size, 1, none⟩ = some (.int .i64 v.num) := by simp [World.cell?, ho.1]
    have o2 : w1.cell? ⟨w.heap.size, 2, none⟩ = some (.string v.text) := by simp [World.cell?, ho.1]
    have o3 : w1.cell? ⟨w.heap.size, 3, none⟩ = some (.bool v.tr) := by simp [World.cell?, ho.1]
    have o4 : w1.cell? ⟨w.heap.size, 4, none⟩ = some (.int .i64 v.fail) := by simp [World.cell?, ho.1]
    clear ho
    have hf := five_below (five_new2 w (.cells #[.int .i64 v.kind, .int .i64 v.num, .string v.text, .bool v.tr, .int .i64 v.fail] 28) 28 (.int .i64 0) (.int .i64 0) (.string noText) (.bool false) (.int .i64 0)) b2 (by simp)
    obtain ⟨x0, c0⟩ := five_c hf 0 (by omega)
    obtain ⟨x1, c1⟩ := five_c hf 1 (by omega)
    obtain ⟨x2, c2⟩ := five_c hf 2 (by omega)
    obtain ⟨x3, c3⟩ := five_c hf 3 (by omega)
    obtain ⟨x4, c4⟩ := five_c hf 4 (by omega)
    have f0 := five_f hf 0
    have f1 := five_f hf 1
    have f2 := five_f hf 2
    have f3 := five_f hf 3
    have f4 := five_f hf 4
    have HF := hide hf
    have HB := hide ((below_al2 w (.cells #[.int .i64 v.kind, .int .i64 v.num, .string v.text, .bool v.tr, .int .i64 v.fail] 28) (.cells #[.int .i64 0, .int .i64 0, .string noText, .bool false, .int .i64 0] 28)).trans (b2.mono (by simp; omega)))
    clear hf b2
    go_wp2
    refine bodyPost_ret (results_cell_row rfl _ _ _ _ _ _ _ rfl (five_set (unhide HF) _ _ _ _ _).1 Tryz.underlying28 rfl infoVal) rfl ?_
    exact ⟨rfl, below_five (unhide HB) (by omega) _ _ _ _ _⟩
end Go.Proofs.YtbeijnflfmjgfaaGreatDoor

namespace Go.Proofs.YtbeijnflfmjgfaaGreatDoor
open Go.RowKit

set_option maxRecDepth 100000 in
set_option maxHeartbeats 2000000 in
theorem shift_low (s : ByteArray) (w : World) (hs : s.size ≤ 1000000) :
    Calls Tryz.prog 166 #[.string s, .int .u8 65, .int .u8 90, .int .i64 32] w fun e w' => e = .returned (.string (mapB lowC s)) ∧ Below w.heap.size w w' := by
  have hc := run_bytes_of_string (P := Tryz.prog) w 9 133 5 s Tryz.underlying9 Tryz.underlying133 Tryz.underlying5
  obtain ⟨c, hcc⟩ : ∃ c, grownCap w s.size 0 5 = c := ⟨_, rfl⟩
  rw [hcc] at hc
  clear hcc
  have HT := hide (turn_start lowC s w c)
  have HB : Hid (Below w.heap.size w (w.drew.alloc (.cells (bytesRow s c) 5 ((bytesRow s c).size, (bytesRow s c).size + 1)))) := hide ((Below.refl _ _).drew.alloc (Nat.le_refl _) _)
  obtain ⟨w0, hw0⟩ : ∃ w0, w.drew.alloc (.cells (bytesRow s c) 5 ((bytesRow s c).size, (bytesRow s c).size + 1)) = w0 := ⟨_, rfl⟩
  rw [hw0] at hc HT HB
  clear hw0
  obtain ⟨n, hn⟩ : ∃ n, s.size = n := ⟨_, rfl⟩
  rw [hn] at hc hs
  have HN := hide hn
  go_enter Tryz.func166, Tryz.ntmps166
  go_wp2
  clear hc
  go_loopw [16] (fun t wr => ∃ i : Nat, t = .int .i64 (i : Int) ∧ i ≤ n ∧ Hid (TurnAt lowC s wr w.heap.size i) ∧ Hid (Below w.heap.size w wr)) (fun t _ => n - (intOf t).toNat)
  case atStart => exact ⟨0, rfl, by omega, HT, HB⟩
  case round =>
    clear HT HB
    obtain ⟨i, rfl, hi, HT, HB⟩ := hrel
    by_cases hin : i < n
    · obtain ⟨c0, f0⟩ := (unhide HT).2 i (by omega)
      rw [if_neg (by omega)] at c0
      obtain ⟨x, hx⟩ : ∃ x, byteAt s i = x := ⟨_, rfl⟩
      have hx8 : x.toNat < 256 := x.toNat_lt
      rw [hx] at c0
      have HX := hide hx
      obtain ⟨k, hk⟩ : ∃ k : Nat, x.toNat = k := ⟨_, rfl⟩
      rw [hk] at c0 hx8
      have HK := hide hk
      clear hx hk
      by_cases h1 : 65 ≤ k
      · by_cases h2 : k ≤ 90
        · have TS : Hid (TurnAt lowC s (wr.setCell ⟨w.heap.size, i, none⟩ (.int .u8 ((k : Int) + 32))) w.heap.size (i + 1)) := hide (by
            have h := turn_set (unhide HT) (by have := unhide HN; omega)
            rw [unhide HX] at h
            have e : ((lowC x).toNat : Int) = (k : Int) + 32 := by
              unfold lowC
              rw [unhide HK, if_pos ⟨h1, h2⟩, UInt8.toNat_ofNat']
              omega
            rw [e] at h
            exact h)
          have HB2 := hide ((unhide HB).setCell (p := ⟨w.heap.size, i, none⟩) (Nat.le_refl _) (.int .u8 ((k : Int) + 32)))
          go_wp2
          go_roundw
          case rel => exact ⟨i + 1, by go_num, by omega, TS, HB2⟩
          case measure => simp [intOf]; omega
        · have TS := hide (turn_same (unhide HT) (by rw [unhide HX]; unfold lowC; rw [unhide HK, if_neg (by omega)]))
          have d2 : decide ((k : Int) ≤ 90) = false := decide_eq_false (by omega)
          go_wp2
          go_roundw
          case rel => exact ⟨i + 1, by go_num, by omega, TS, HB⟩
          case measure => simp [intOf]; omega
      · have TS := hide (turn_same (unhide HT) (by rw [unhide HX]; unfold lowC; rw [unhide HK, if_neg (by omega)]))
        have d1 : decide (65 ≤ (k : Int)) = false := decide_eq_false (by omega)
        go_wp2
        go_roundw
        case rel => exact ⟨i + 1, by go_num, by omega, TS, HB⟩
        case measure => simp [intOf]; omega
    · have hb := turn_end (unhide HT) (by have := unhide HN; omega) c
      rw [unhide HN] at hb
      go_wp2
      go_ret
      exact ⟨rfl, unhide HB⟩

set_option maxHeartbeats 1000000 in
theorem lower_val (s : ByteArray) (w : World) (hs : s.size ≤ 1000000) :
    Calls Tryz.prog 122 #[.string s] w fun e w' => e = .returned (.string (mapB lowC s)) ∧ Below w.heap.size w w' := by
  have HS := hide (fun w => shift_low s w hs)
  clear hs
  go_enter Tryz.func122, Tryz.ntmps122
  go_wp2_with fail
  refine (unhide HS _).mono ?_
  rintro e w1 ⟨rfl, b1⟩
  go_wp2
  go_ret
  exact ⟨rfl, b1⟩
end Go.Proofs.YtbeijnflfmjgfaaGreatDoor

namespace Go.Proofs.YtbeijnflfmjgfaaGreatDoor
open Go.RowKit

def signTab (w : World) : Prop := ∀ i : Nat, i < 9 → w.cell? ⟨2, i, none⟩ = some (.string (signL.getD i noText))
theorem signs_below {w w' : World} (h : signTab w) (hb : Below w.heap.size w w') : signTab w' := by
  intro i hi
  have h0 := h i hi
  have hlt : 2 < w.heap.size := by
    rcases Nat.lt_or_ge 2 w.heap.size with h' | h'
    · exact h'
    · simp [World.cell?, Array.getElem?_eq_none h'] at h0
  rw [hb.cell (p := ⟨2, i, none⟩) hlt]
  exact h0

set_option maxHeartbeats 4000000 in
theorem sign_val (f : Int) (w : World) (ht : signTab w) :
    Calls Tryz.prog 169 #[.int .i64 f] w fun e w' => e = .returned (.string (signV f)) ∧ w' = w := by
  have HT := hide ht
  clear ht
  by_cases h1 : f < 0
  · have e1 : signV f = noText := by unfold signV; rw [if_pos (Or.inl (by omega))]
    rw [e1]
    have E1 := hide e1
    clear e1
    go_enter Tryz.func169, Tryz.ntmps169
    go_wp2
    go_ret
    exact ⟨rfl, rfl⟩
  · by_cases h2 : 9 ≤ f
    · have e1 : signV f = noText := by unfold signV; rw [if_pos (Or.inr (by omega))]
      rw [e1]
      have E1 := hide e1
      clear e1
      go_enter Tryz.func169, Tryz.ntmps169
      go_wp2
      go_ret
      exact ⟨rfl, rfl⟩
    · have hf : f = 0 ∨ f = 1 ∨ f = 2 ∨ f = 3 ∨ f = 4 ∨ f = 5 ∨ f = 6 ∨ f = 7 ∨ f = 8 := by omega
      clear h1 h2
      rcases hf with rfl | rfl | rfl | rfl | rfl | rfl | rfl | rfl | rfl
      · have c := unhide HT 0 (by omega)
        go_enter Tryz.func169, Tryz.ntmps169
        go_wp2
        go_ret
        exact ⟨rfl, rfl⟩
      · have c := unhide HT 1 (by omega)
        go_enter Tryz.func169, Tryz.ntmps169
        go_wp2
        go_ret
        exact ⟨rfl, rfl⟩
      · have c := unhide HT 2 (by omega)
        go_enter Tryz.func169, Tryz.ntmps169
        go_wp2
        go_ret
        exact ⟨rfl, rfl⟩
      · have c := unhide HT 3 (by omega)
        go_enter Tryz.func169, Tryz.ntmps169
        go_wp2
        go_ret
        exact ⟨rfl, rfl⟩
      · have c := unhide HT 4 (by omega)
        go_enter Tryz.func169, Tryz.ntmps169
        go_wp2
        go_ret
        exact ⟨rfl, rfl⟩
      · have c := unhide HT 5 (by omega)
        go_enter Tryz.func169, Tryz.ntmps169
        go_wp2
        go_ret
        exact ⟨rfl, rfl⟩
      · have c := unhide HT 6 (by omega)
        go_enter Tryz.func169, Tryz.ntmps169
        go_wp2
        go_ret
        exact ⟨rfl, rfl⟩
      · have c := unhide HT 7 (by omega)
        go_enter Tryz.func169, Tryz.ntmps169
        go_wp2
        go_ret
        exact ⟨rfl, rfl⟩
      · have c := unhide HT 8 (by omega)
        go_enter Tryz.func169, Tryz.ntmps169
        go_wp2
        go_ret
        exact ⟨rfl, rfl⟩
end Go.Proofs.YtbeijnflfmjgfaaGreatDoor

namespace Go.Proofs.YtbeijnflfmjgfaaGreatDoor.Dv

theorem norm (hi lo y : Nat) (hhy : hi < y) (h1 : lo < 18446744073709551616) (hy : y < 18446744073709551616) :
    ∃ s Y H L u v : Nat, Lib.bitLen y + s = 64 ∧ s ≤ 63 ∧ y * 2 ^ s = Y ∧ 9223372036854775808 ≤ Y ∧ Y < 18446744073709551616 ∧
      hi * 2 ^ s = H ∧ H < 18446744073709551616 ∧ lo / 2 ^ (64 - s) = L ∧ L < 18446744073709551616 ∧ (H ||| L) = u ∧ u < Y ∧
      (lo * 2 ^ s) % 18446744073709551616 = v ∧ v < 18446744073709551616 ∧ (hi * 18446744073709551616 + lo) * 2 ^ s = u * 18446744073709551616 + v := by
  obtain ⟨b1, b2, b3⟩ := Lib.bitLenAux_bounds 64 y (by omega) (by omega)
  have bl : Lib.bitLen y ≤ 64 := Lib.bitLen_le y 64 (by omega) (by omega)
  have be : Lib.bitLenAux 64 y = Lib.bitLen y := rfl
  rw [be] at b1 b2 b3
  generalize Lib.bitLen y = n at *
  have e64 : (18446744073709551616 : Nat) = 2 ^ 64 := by decide
  have e63 : (9223372036854775808 : Nat) = 2 ^ 63 := by decide
  have pw : 2 ^ n * 2 ^ (64 - n) = 2 ^ 64 := by rw [← Nat.pow_add]; congr 1; omega
  have pw1 : 2 ^ (n - 1) * 2 ^ (64 - n) = 2 ^ 63 := by rw [← Nat.pow_add]; congr 1; omega
  have pp : 0 < 2 ^ (64 - n) := Nat.two_pow_pos _
  have hYl : 2 ^ 63 ≤ y * 2 ^ (64 - n) := by rw [← pw1]; exact Nat.mul_le_mul_right _ b2
  have hYu : y * 2 ^ (64 - n) < 2 ^ 64 := by rw [← pw]; exact (Nat.mul_lt_mul_right pp).2 b3
  have hH : hi * 2 ^ (64 - n) < 2 ^ 64 := Nat.lt_of_le_of_lt (Nat.mul_le_mul_right _ (Nat.le_of_lt hhy)) hYu
  have e6 : 64 - (64 - n) = n := by omega
  have hL : lo / 2 ^ n < 2 ^ (64 - n) := by
    rw [Nat.div_lt_iff_lt_mul (Nat.two_pow_pos _), Nat.mul_comm, pw, ← e64]; exact h1
  have hor : hi * 2 ^ (64 - n) ||| lo / 2 ^ n = hi * 2 ^ (64 - n) + lo / 2 ^ n := by
    have := Nat.two_pow_add_eq_or_of_lt hL hi
    rw [Nat.mul_comm hi]; exact this.symm
  have hdm : lo * 2 ^ (64 - n) = lo / 2 ^ n * 2 ^ 64 + (lo * 2 ^ (64 - n)) % 2 ^ 64 := by
    have h := Nat.div_add_mod (lo * 2 ^ (64 - n)) (2 ^ 64)
    have h2 : lo * 2 ^ (64 - n) / 2 ^ 64 = lo / 2 ^ n := by
      rw [← pw]; exact Nat.mul_div_mul_right _ _ pp
    rw [h2] at h
    omega
  have heq : (hi * 2 ^ 64 + lo) * 2 ^ (64 - n) = (hi * 2 ^ (64 - n) + lo / 2 ^ n) * 2 ^ 64 + (lo * 2 ^ (64 - n)) % 2 ^ 64 := by
    rw [Nat.add_mul, Nat.add_mul, Nat.mul_right_comm]
    omega
  have hlt : (hi * 2 ^ 64 + lo) * 2 ^ (64 - n) < y * 2 ^ (64 - n) * 2 ^ 64 := by
    have a : hi * 2 ^ 64 + lo < y * 2 ^ 64 := by omega
    rw [Nat.mul_right_comm]
    exact (Nat.mul_lt_mul_right pp).2 a
  have hu : hi * 2 ^ (64 - n) + lo / 2 ^ n < y * 2 ^ (64 - n) := by
    rw [heq] at hlt
    omega
  refine ⟨64 - n, _, _, _, _, _, by omega, by omega, rfl, by omega, by omega, rfl, by omega, rfl, ?_, rfl, ?_, rfl, Nat.mod_lt _ (by omega), ?_⟩
  · rw [e6]; exact Nat.lt_of_le_of_lt (Nat.div_le_self _ _) h1
  · rw [e6, hor]; exact hu
  · rw [e6, hor, e64]; exact heq

def dig (Y u n : Nat) : Nat := (u * 4294967296 + n) / Y

theorem dig_lt (Y u n : Nat) (hu : u < Y) (hn : n < 4294967296) : dig Y u n < 4294967296 := by
  unfold dig
  rw [Nat.div_lt_iff_lt_mul (by omega)]
  have : u * 4294967296 + 4294967296 ≤ Y * 4294967296 := by omega
  omega

theorem mulY (q y1 y0 : Nat) : q * (y1 * 4294967296 + y0) = q * y1 * 4294967296 + q * y0 := by
  rw [Nat.mul_add, Nat.mul_assoc]

theorem too_big (y1 y0 u n q r : Nat) (hu : u < y1 * 4294967296 + y0) (hn : n < 4294967296) (h : q * y1 + r = u) (hc : 4294967296 ≤ q ∨ 4294967296 * r + n < q * y0) :
    dig (y1 * 4294967296 + y0) u n + 1 ≤ q := by
  rcases hc with hc | hc
  · have := dig_lt _ u n hu hn; omega
  · have : dig (y1 * 4294967296 + y0) u n < q := by
      unfold dig
      rw [Nat.div_lt_iff_lt_mul (by omega), mulY]
      omega
    omega

theorem small (y1 y0 u n q r : Nat) (hu : u < y1 * 4294967296 + y0) (h : q * y1 + r = u) (hq : dig (y1 * 4294967296 + y0) u n ≤ q) (hc : q * y0 ≤ 4294967296 * r + n) :
    q = dig (y1 * 4294967296 + y0) u n := by
  refine Nat.le_antisymm ?_ hq
  unfold dig
  rw [Nat.le_div_iff_mul_le (by omega), mulY]
  omega

theorem brk (y1 y0 u n q r : Nat) (hu : u < y1 * 4294967296 + y0) (hy0 : y0 < 4294967296) (h : q * y1 + r = u) (hq : dig (y1 * 4294967296 + y0) u n ≤ q) (hr : 4294967296 ≤ r) (hb : q ≤ 4294967296) :
    q = dig (y1 * 4294967296 + y0) u n := by
  refine small y1 y0 u n q r hu h hq ?_
  have : q * y0 ≤ 4294967296 * y0 := Nat.mul_le_mul_right _ hb
  omega

theorem first (y1 y0 u n : Nat) (hu : u < y1 * 4294967296 + y0) (hn : n < 4294967296) (hy0 : y0 < 4294967296) (hy1 : 2147483648 ≤ y1) :
    dig (y1 * 4294967296 + y0) u n ≤ u / y1 ∧ u / y1 ≤ 4294967297 ∧ u / y1 * y1 + u % y1 = u ∧ u % y1 < y1 := by
  have hp : 0 < y1 := by omega
  refine ⟨?_, ?_, ?_, Nat.mod_lt _ hp⟩
  · rw [Nat.le_div_iff_mul_le hp]
    have h := Nat.div_mul_le_self (u * 4294967296 + n) (y1 * 4294967296 + y0)
    have h' : dig (y1 * 4294967296 + y0) u n * (y1 * 4294967296 + y0) ≤ u * 4294967296 + n := h
    rw [mulY] at h'
    omega
  · have h := Nat.div_mul_le_self u y1
    generalize u / y1 = q at *
    by_cases hc : q ≤ 4294967297
    · exact hc
    · have : 4294967298 * y1 ≤ q * y1 := Nat.mul_le_mul_right _ (by omega)
      omega
  · have := Nat.div_add_mod u y1
    rw [Nat.mul_comm] at this
    exact this

theorem next {q y1 r u : Nat} (h : q * y1 + r = u) (hq : 1 ≤ q) : (q - 1) * y1 + (r + y1) = u := by
  obtain ⟨p, rfl⟩ : ∃ p, q = p + 1 := ⟨q - 1, by omega⟩
  rw [Nat.add_sub_cancel, ← h, Nat.add_mul]; omega

theorem left (Y u n : Nat) (hY : 0 < Y) : dig Y u n * Y ≤ u * 4294967296 + n ∧ u * 4294967296 + n - dig Y u n * Y = (u * 4294967296 + n) % Y ∧ u * 4294967296 + n - dig Y u n * Y < Y := by
  unfold dig
  have h := Nat.div_add_mod (u * 4294967296 + n) Y
  have h2 := Nat.mod_lt (u * 4294967296 + n) hY
  rw [Nat.mul_comm] at h
  omega

theorem two_gen (Y A B v0 : Nat) (hY : 0 < Y) : (A * B + v0) / Y = A / Y * B + (A % Y * B + v0) / Y ∧ (A * B + v0) % Y = (A % Y * B + v0) % Y := by
  have h := Nat.div_add_mod A Y
  generalize A / Y = a at *
  generalize A % Y = b at *
  have e2 : A * B + v0 = (b * B + v0) + Y * (a * B) := by
    rw [← h, Nat.add_mul, Nat.mul_assoc]; omega
  rw [e2]
  refine ⟨?_, ?_⟩
  · rw [Nat.add_mul_div_left _ _ hY, Nat.add_comm]
  · rw [Nat.add_mul_mod_self_left]

theorem two (Y u v1 v0 : Nat) (hY : 0 < Y) :
    (u * 18446744073709551616 + (v1 * 4294967296 + v0)) / Y = dig Y u v1 * 4294967296 + dig Y ((u * 4294967296 + v1) % Y) v0 ∧
    (u * 18446744073709551616 + (v1 * 4294967296 + v0)) % Y = (((u * 4294967296 + v1) % Y) * 4294967296 + v0) % Y := by
  have e : u * 18446744073709551616 + (v1 * 4294967296 + v0) = (u * 4294967296 + v1) * 4294967296 + v0 := by omega
  rw [e]
  unfold dig
  exact two_gen Y (u * 4294967296 + v1) 4294967296 v0 hY

theorem back (hi lo y s Y u v : Nat) (hY : y * 2 ^ s = Y) (h : (hi * 18446744073709551616 + lo) * 2 ^ s = u * 18446744073709551616 + v) :
    (u * 18446744073709551616 + v) / Y = (hi * 18446744073709551616 + lo) / y ∧ (u * 18446744073709551616 + v) % Y / 2 ^ s = (hi * 18446744073709551616 + lo) % y := by
  rw [← h, ← hY]
  refine ⟨Nat.mul_div_mul_right _ _ (Nat.two_pow_pos _), ?_⟩
  rw [Nat.mul_mod_mul_right, Nat.mul_div_cancel _ (Nat.two_pow_pos _)]

end Go.Proofs.YtbeijnflfmjgfaaGreatDoor.Dv

namespace Go.Proofs
open Go.Shelf
def Tryz.lays162_ren : Go.Shelf.Ren := ⟨fun | 162 => 184 | 232 => 158 | 227 => 159 | 234 => 161 | 236 => 163 | 228 => 178 | 271 => 181 | 151 => 180 | 120 => 194 | 197 => 179 | 152 => 193 | 260 => 192 | 137 => 202 | 119 => 203 | 224 => 200 | 225 => 199 | 217 => 198 | 266 => 208 | n => n, fun | 9 => 9 | 4 => 4 | 3 => 3 | 5 => 5 | 117 => 167 | 116 => 166 | 0 => 0 | 124 => 170 | 21 => 21 | 105 => 180 | 46 => 185 | 119 => 195 | 139 => 198 | 138 => 197 | n => n, fun | 3 => 5 | 4 => 6 | n => n⟩
theorem Tryz.lays162 : Go.Proofs.Lays.n162 Tryz.prog Tryz.lays162_ren := {
  mixed := by kernel_rfl
  f119 := Tryz.func203.trans (congrArg some (by kernel_rfl))
  f120 := Tryz.func194.trans (congrArg some (by kernel_rfl))
  f137 := Tryz.func202.trans (congrArg some (by kernel_rfl))
  f151 := Tryz.func180.trans (congrArg some (by kernel_rfl))
  f152 := Tryz.func193.trans (congrArg some (by kernel_rfl))
  f162 := Tryz.func184.trans (congrArg some (by kernel_rfl))
  f197 := Tryz.func179.trans (congrArg some (by kernel_rfl))
  f217 := Tryz.func198.trans (congrArg some (by kernel_rfl))
  f224 := Tryz.func200.trans (congrArg some (by kernel_rfl))
  f225 := Tryz.func199.trans (congrArg some (by kernel_rfl))
  f227 := Tryz.func159.trans (congrArg some (by kernel_rfl))
  f228 := Tryz.func178.trans (congrArg some (by kernel_rfl))
  f232 := Tryz.func158.trans (congrArg some (by kernel_rfl))
  f234 := Tryz.func161.trans (congrArg some (by kernel_rfl))
  f236 := Tryz.func163.trans (congrArg some (by kernel_rfl))
  f260 := Tryz.func192.trans (congrArg some (by kernel_rfl))
  f266 := Tryz.func208.trans (congrArg some (by kernel_rfl))
  f271 := Tryz.func181.trans (congrArg some (by kernel_rfl))
  t0 := Tryz.underlying0
  a0 := Tryz.isAgg0
  z0 := Tryz.sizeOf0
  v0 := Tryz.zeroValue0
  t3 := Tryz.underlying3
  a3 := Tryz.isAgg3
  z3 := Tryz.sizeOf3
  v3 := Tryz.zeroValue3
  t4 := Tryz.underlying4
  a4 := Tryz.isAgg4
  z4 := Tryz.sizeOf4
  v4 := Tryz.zeroValue4
  t5 := Tryz.underlying5
  a5 := Tryz.isAgg5
  z5 := Tryz.sizeOf5
  v5 := Tryz.zeroValue5
  t9 := Tryz.underlying9
  a9 := Tryz.isAgg9
  z9 := Tryz.sizeOf9
  v9 := Tryz.zeroValue9
  t21 := Tryz.underlying21
  a21 := Tryz.isAgg21
  z21 := Tryz.sizeOf21
  v21 := Tryz.zeroValue21
  t46 := Tryz.underlying185
  a46 := Tryz.isAgg185
  z46 := Tryz.sizeOf185
  v46 := Tryz.zeroValue185
  t105 := Tryz.underlying180
  a105 := Tryz.isAgg180
  z105 := Tryz.sizeOf180
  v105 := Tryz.zeroValue180
  t116 := Tryz.underlying166
  a116 := Tryz.isAgg166
  z116 := Tryz.sizeOf166
  t117 := Tryz.underlying167
  a117 := Tryz.isAgg167
  z117 := Tryz.sizeOf167
  v117 := Tryz.zeroValue167
  t119 := Tryz.underlying195
  a119 := Tryz.isAgg195
  z119 := Tryz.sizeOf195
  t124 := Tryz.underlying170
  a124 := Tryz.isAgg170
  z124 := Tryz.sizeOf170
  v124 := Tryz.zeroValue170
  t138 := Tryz.underlying197
  a138 := Tryz.isAgg197
  z138 := Tryz.sizeOf197
  v138 := Tryz.zeroValue197
  t139 := Tryz.underlying198
  a139 := Tryz.isAgg198
  z139 := Tryz.sizeOf198
  v139 := Tryz.zeroValue198
  g3 := by kernel_rfl
  g4 := by kernel_rfl }
open Go.RowKit in
theorem Tryz.strings_TrimRight_one (s : ByteArray) (c : UInt8) (hc : c.toNat < 128) (w : World) (hs : s.size ≤ 9223372036854775807) :
    Calls Tryz.prog 184 #[.string s, .string ⟨#[c]⟩] w fun e w' => e = .returned (.string ⟨(Lib.trimRightB s.data.toList c).toArray⟩) ∧ w' = w := Any.strings_TrimRight_one Tryz.lays162 s c hc w hs
def Tryz.lays160_ren : Go.Shelf.Ren := ⟨fun | 160 => 118 | 232 => 158 | 231 => 157 | 227 => 159 | 234 => 161 | 233 => 160 | 236 => 163 | 235 => 162 | 228 => 178 | 271 => 181 | 151 => 180 | 197 => 179 | 120 => 194 | 152 => 193 | 260 => 192 | 137 => 202 | 119 => 203 | 224 => 200 | 225 => 199 | 217 => 198 | 266 => 208 | n => n, fun | 9 => 9 | 4 => 4 | 3 => 3 | 5 => 5 | 117 => 167 | 116 => 166 | 0 => 0 | 124 => 170 | 21 => 21 | 105 => 180 | 46 => 185 | 119 => 195 | 139 => 198 | 138 => 197 | n => n, fun | 3 => 5 | 4 => 6 | n => n⟩
theorem Tryz.lays160 : Go.Proofs.Lays.n160 Tryz.prog Tryz.lays160_ren := {
  mixed := by kernel_rfl
  f119 := Tryz.func203.trans (congrArg some (by kernel_rfl))
  f120 := Tryz.func194.trans (congrArg some (by kernel_rfl))
  f137 := Tryz.func202.trans (congrArg some (by kernel_rfl))
  f151 := Tryz.func180.trans (congrArg some (by kernel_rfl))
  f152 := Tryz.func193.trans (congrArg some (by kernel_rfl))
  f160 := Tryz.func118.trans (congrArg some (by kernel_rfl))
  f197 := Tryz.func179.trans (congrArg some (by kernel_rfl))
  f217 := Tryz.func198.trans (congrArg some (by kernel_rfl))
  f224 := Tryz.func200.trans (congrArg some (by kernel_rfl))
  f225 := Tryz.func199.trans (congrArg some (by kernel_rfl))
  f227 := Tryz.func159.trans (congrArg some (by kernel_rfl))
  f228 := Tryz.func178.trans (congrArg some (by kernel_rfl))
  f231 := Tryz.func157.trans (congrArg some (by kernel_rfl))
  f232 := Tryz.func158.trans (congrArg some (by kernel_rfl))
  f233 := Tryz.func160.trans (congrArg some (by kernel_rfl))
  f234 := Tryz.func161.trans (congrArg some (by kernel_rfl))
  f235 := Tryz.func162.trans (congrArg some (by kernel_rfl))
  f236 := Tryz.func163.trans (congrArg some (by kernel_rfl))
  f260 := Tryz.func192.trans (congrArg some (by kernel_rfl))
  f266 := Tryz.func208.trans (congrArg some (by kernel_rfl))
  f271 := Tryz.func181.trans (congrArg some (by kernel_rfl))
  t0 := Tryz.underlying0
  a0 := Tryz.isAgg0
  z0 := Tryz.sizeOf0
  v0 := Tryz.zeroValue0
  t3 := Tryz.underlying3
  a3 := Tryz.isAgg3
  z3 := Tryz.sizeOf3
  v3 := Tryz.zeroValue3
  t4 := Tryz.underlying4
  a4 := Tryz.isAgg4
  z4 := Tryz.sizeOf4
  v4 := Tryz.zeroValue4
  t5 := Tryz.underlying5
  a5 := Tryz.isAgg5
  z5 := Tryz.sizeOf5
  v5 := Tryz.zeroValue5
  t9 := Tryz.underlying9
  a9 := Tryz.isAgg9
  z9 := Tryz.sizeOf9
  v9 := Tryz.zeroValue9
  t21 := Tryz.underlying21
  a21 := Tryz.isAgg21
  z21 := Tryz.sizeOf21
  v21 := Tryz.zeroValue21
  t46 := Tryz.underlying185
  a46 := Tryz.isAgg185
  z46 := Tryz.sizeOf185
  v46 := Tryz.zeroValue185
  t105 := Tryz.underlying180
  a105 := Tryz.isAgg180
  z105 := Tryz.sizeOf180
  v105 := Tryz.zeroValue180
  t116 := Tryz.underlying166
  a116 := Tryz.isAgg166
  z116 := Tryz.sizeOf166
  t117 := Tryz.underlying167
  a117 := Tryz.isAgg167
  z117 := Tryz.sizeOf167
  v117 := Tryz.zeroValue167
  t119 := Tryz.underlying195
  a119 := Tryz.isAgg195
  z119 := Tryz.sizeOf195
  t124 := Tryz.underlying170
  a124 := Tryz.isAgg170
  z124 := Tryz.sizeOf170
  v124 := Tryz.zeroValue170
  t138 := Tryz.underlying197
  a138 := Tryz.isAgg197
  z138 := Tryz.sizeOf197
  v138 := Tryz.zeroValue197
  t139 := Tryz.underlying198
  a139 := Tryz.isAgg198
  z139 := Tryz.sizeOf198
  v139 := Tryz.zeroValue198
  g3 := by kernel_rfl
  g4 := by kernel_rfl }
open Go.RowKit in
theorem Tryz.strings_Trim_one (s : ByteArray) (c : UInt8) (hc : c.toNat < 128) (w : World) (hs : s.size ≤ 9223372036854775807) :
    Calls Tryz.prog 118 #[.string s, .string ⟨#[c]⟩] w fun e w' => e = .returned (.string ⟨(Lib.trimB s.data.toList c).toArray⟩) ∧ (w' = w ∨ w' = w.drew) := Any.strings_Trim_one Tryz.lays160 s c hc w hs
def Tryz.lays134_ren : Go.Shelf.Ren := ⟨fun | 134 => 185 | 129 => 196 | n => n, fun | 53 => 112 | 3 => 3 | 4 => 4 | 46 => 185 | 5 => 5 | 9 => 9 | n => n, fun | n => n⟩
theorem Tryz.lays134 : Go.Proofs.Lays.n134 Tryz.prog Tryz.lays134_ren := {
  mixed := by kernel_rfl
  f129 := Tryz.func196.trans (congrArg some (by kernel_rfl))
  f134 := Tryz.func185.trans (congrArg some (by kernel_rfl))
  t3 := Tryz.underlying3
  a3 := Tryz.isAgg3
  z3 := Tryz.sizeOf3
  v3 := Tryz.zeroValue3
  t4 := Tryz.underlying4
  a4 := Tryz.isAgg4
  z4 := Tryz.sizeOf4
  v4 := Tryz.zeroValue4
  t5 := Tryz.underlying5
  a5 := Tryz.isAgg5
  z5 := Tryz.sizeOf5
  v5 := Tryz.zeroValue5
  t9 := Tryz.underlying9
  a9 := Tryz.isAgg9
  z9 := Tryz.sizeOf9
  v9 := Tryz.zeroValue9
  t46 := Tryz.underlying185
  a46 := Tryz.isAgg185
  z46 := Tryz.sizeOf185
  v46 := Tryz.zeroValue185
  t53 := Tryz.underlying112
  a53 := Tryz.isAgg112
  z53 := Tryz.sizeOf112
  v53 := Tryz.zeroValue112 }
theorem Tryz.bits_LeadingZeros64 (x : Int) (w : World) (h0 : 0 ≤ x) (h1 : x ≤ 18446744073709551615) :
    Calls Tryz.prog 185 #[.int .u64 x] w fun e w' => e = .returned (.int .i64 (64 - (Lib.bitLen x.toNat : Int))) ∧ w' = w := Any.bits_LeadingZeros64 Tryz.lays134 x w h0 h1
def Tryz.lays106_ren : Go.Shelf.Ren := ⟨fun | 106 => 121 | 213 => 165 | 265 => 182 | n => n, fun | 9 => 9 | 3 => 3 | n => n, fun | n => n⟩
theorem Tryz.lays106 : Go.Proofs.Lays.n106 Tryz.prog Tryz.lays106_ren := {
  mixed := by kernel_rfl
  f106 := Tryz.func121.trans (congrArg some (by kernel_rfl))
  f213 := Tryz.func165.trans (congrArg some (by kernel_rfl))
  f265 := Tryz.func182.trans (congrArg some (by kernel_rfl))
  t3 := Tryz.underlying3
  a3 := Tryz.isAgg3
  z3 := Tryz.sizeOf3
  v3 := Tryz.zeroValue3
  t9 := Tryz.underlying9
  a9 := Tryz.isAgg9
  z9 := Tryz.sizeOf9
  v9 := Tryz.zeroValue9 }
open Go.RowKit in
theorem Tryz.strings_Compare (a b : ByteArray) (w : World) :
    Calls Tryz.prog 121 #[.string a, .string b] w fun e w' => e = .returned (.int .i64 (Lib.compareBytes a.data.toList b.data.toList)) ∧ w' = w := Any.strings_Compare Tryz.lays106 a b w
def Tryz.lays103_ren : Go.Shelf.Ren := ⟨fun | 103 => 152 | 210 => 176 | 206 => 190 | n => n, fun | 9 => 9 | 4 => 4 | 24 => 158 | 3 => 3 | n => n, fun | n => n⟩
theorem Tryz.lays103 : Go.Proofs.Lays.n103 Tryz.prog Tryz.lays103_ren := {
  mixed := by kernel_rfl
  f103 := Tryz.func152.trans (congrArg some (by kernel_rfl))
  f206 := Tryz.func190.trans (congrArg some (by kernel_rfl))
  f210 := Tryz.func176.trans (congrArg some (by kernel_rfl))
  t3 := Tryz.underlying3
  a3 := Tryz.isAgg3
  z3 := Tryz.sizeOf3
  v3 := Tryz.zeroValue3
  t4 := Tryz.underlying4
  a4 := Tryz.isAgg4
  z4 := Tryz.sizeOf4
  v4 := Tryz.zeroValue4
  t9 := Tryz.underlying9
  a9 := Tryz.isAgg9
  z9 := Tryz.sizeOf9
  v9 := Tryz.zeroValue9
  t24 := Tryz.underlying158
  a24 := Tryz.isAgg158
  z24 := Tryz.sizeOf158
  v24 := Tryz.zeroValue158 }
open Go.RowKit in
theorem Tryz.strings_CutPrefix (s p : ByteArray) (w : World) :
    Calls Tryz.prog 152 #[.string s, .string p] w fun e w' => e = .returned (.tuple #[.string ⟨(Lib.trimPrefix s.data.toList p.data.toList).toArray⟩, .bool (Lib.hasPrefix s.data.toList p.data.toList)]) ∧ w' = w := Any.strings_CutPrefix Tryz.lays103 s p w
def Tryz.lays283_ren : Go.Shelf.Ren := ⟨fun | 283 => 204 | n => n, fun | 3 => 3 | 9 => 9 | 4 => 4 | n => n, fun | n => n⟩
theorem Tryz.lays283 : Go.Proofs.Lays.n283 Tryz.prog Tryz.lays283_ren := {
  mixed := by kernel_rfl
  f283 := Tryz.func204.trans (congrArg some (by kernel_rfl))
  t3 := Tryz.underlying3
  a3 := Tryz.isAgg3
  z3 := Tryz.sizeOf3
  v3 := Tryz.zeroValue3
  t4 := Tryz.underlying4
  a4 := Tryz.isAgg4
  z4 := Tryz.sizeOf4
  v4 := Tryz.zeroValue4
  t9 := Tryz.underlying9
  a9 := Tryz.isAgg9
  z9 := Tryz.sizeOf9
  v9 := Tryz.zeroValue9 }
open Go.Lib in
theorem Tryz.internal_strconv_small (i : Nat) (h : i < 100) (w : World) :
    Calls Tryz.prog 204 #[.int .i64 i] w fun e w' => e = .returned (.string ⟨(Lib.decDigits i).toArray⟩) ∧ w' = w := Any.internal_strconv_small Tryz.lays283 i h w
def Tryz.laysM284_ren : Go.Shelf.Ren := ⟨fun | 284 => 205 | 129 => 196 | 317 => 210 | 318 => 211 | n => n, fun | 53 => 112 | 3 => 3 | 212 => 208 | 0 => 0 | 4 => 4 | 46 => 185 | 5 => 5 | 9 => 9 | n => n, fun | 17 => 7 | n => n⟩
theorem Tryz.laysM284 : Go.Proofs.LaysM.n284 Tryz.prog Tryz.laysM284_ren := {
  mixed := by kernel_rfl
  f129 := Tryz.func196.trans (congrArg some (by kernel_rfl))
  f284 := Tryz.func205.trans (congrArg some (by kernel_rfl))
  f317 := Tryz.func210.trans (congrArg some (by kernel_rfl))
  f318 := Tryz.func211.trans (congrArg some (by kernel_rfl))
  t0 := Tryz.underlying0
  a0 := Tryz.isAgg0
  z0 := Tryz.sizeOf0
  v0 := Tryz.zeroValue0
  t3 := Tryz.underlying3
  a3 := Tryz.isAgg3
  z3 := Tryz.sizeOf3
  v3 := Tryz.zeroValue3
  t4 := Tryz.underlying4
  a4 := Tryz.isAgg4
  z4 := Tryz.sizeOf4
  v4 := Tryz.zeroValue4
  t5 := Tryz.underlying5
  a5 := Tryz.isAgg5
  z5 := Tryz.sizeOf5
  v5 := Tryz.zeroValue5
  t9 := Tryz.underlying9
  a9 := Tryz.isAgg9
  z9 := Tryz.sizeOf9
  v9 := Tryz.zeroValue9
  t46 := Tryz.underlying185
  a46 := Tryz.isAgg185
  z46 := Tryz.sizeOf185
  v46 := Tryz.zeroValue185
  t53 := Tryz.underlying112
  a53 := Tryz.isAgg112
  z53 := Tryz.sizeOf112
  v53 := Tryz.zeroValue112
  t212 := Tryz.underlying208
  a212 := Tryz.isAgg208
  z212 := Tryz.sizeOf208
  v212 := Tryz.zeroValue208
  g17 := by kernel_rfl
  i0 := by kernel_rfl
  i3 := by kernel_rfl
  i4 := by kernel_rfl
  i5 := by kernel_rfl
  i9 := by kernel_rfl
  i46 := by kernel_rfl
  i53 := by kernel_rfl
  i212 := by kernel_rfl
  m17 := by kernel_rfl }
open Go.Lib in
theorem Tryz.internal_strconv_numDigits (u : Nat) (h1 : 1 ≤ u) (h2 : u < 18446744073709551616) (w : World) (htab : Lib.TabIs Tryz.prog w "internal/strconv.uint64pow10" .u64 Lib.pow10Tab) :
    Calls Tryz.prog 205 #[.int .u64 u] w fun e w' => e = .returned (.int .i64 (Lib.nDigits u)) ∧ w' = w := Any.internal_strconv_numDigits Tryz.laysM284 u h1 h2 w htab
def Tryz.lays285_ren : Go.Shelf.Ren := ⟨fun | 285 => 206 | n => n, fun | 37 => 133 | 53 => 112 | 3 => 3 | 4 => 4 | 51 => 204 | 9 => 9 | 5 => 5 | 0 => 0 | n => n, fun | n => n⟩
theorem Tryz.lays285 : Go.Proofs.Lays.n285 Tryz.prog Tryz.lays285_ren := {
  mixed := by kernel_rfl
  f285 := Tryz.func206.trans (congrArg some (by kernel_rfl))
  t0 := Tryz.underlying0
  a0 := Tryz.isAgg0
  z0 := Tryz.sizeOf0
  v0 := Tryz.zeroValue0
  t3 := Tryz.underlying3
  a3 := Tryz.isAgg3
  z3 := Tryz.sizeOf3
  v3 := Tryz.zeroValue3
  t4 := Tryz.underlying4
  a4 := Tryz.isAgg4
  z4 := Tryz.sizeOf4
  v4 := Tryz.zeroValue4
  t5 := Tryz.underlying5
  a5 := Tryz.isAgg5
  z5 := Tryz.sizeOf5
  v5 := Tryz.zeroValue5
  t9 := Tryz.underlying9
  a9 := Tryz.isAgg9
  z9 := Tryz.sizeOf9
  v9 := Tryz.zeroValue9
  t37 := Tryz.underlying133
  a37 := Tryz.isAgg133
  z37 := Tryz.sizeOf133
  v37 := Tryz.zeroValue133
  t51 := Tryz.underlying204
  a51 := Tryz.isAgg204
  z51 := Tryz.sizeOf204
  v51 := Tryz.zeroValue204
  t53 := Tryz.underlying112
  a53 := Tryz.isAgg112
  z53 := Tryz.sizeOf112
  v53 := Tryz.zeroValue112 }
open Go.RowKit Go.Sort Go.Lib in
theorem Tryz.internal_strconv_formatBase10 (blk off cap : Nat) (u : Nat) (d : Array UInt8) (w : World) (hH : Holds (fun (b : UInt8) => Value.int .u8 (b.toNat : Int)) w blk off d) (hu : u < 10 ^ d.size) (hu64 : u < 18446744073709551616) (hsz : d.size < 4611686018427387904) :
    Calls Tryz.prog 206 #[.slice (some ⟨blk, off, none⟩) d.size cap, .int .u64 u] w fun e w' =>
      e = .returned (.tuple #[]) ∧ ∃ (n v' : Nat) (dk : Array UInt8), w' = (putRow (fun (b : UInt8) => Value.int .u8 (b.toNat : Int)) w blk off dk).drewN n ∧ FmtInv d.size u 0 v' dk := Any.internal_strconv_formatBase10 Tryz.lays285 blk off cap u d w hH hu hu64 hsz
def Tryz.lays145_ren : Go.Shelf.Ren := ⟨fun | 145 => 153 | 220 => 177 | 219 => 191 | 217 => 198 | 225 => 199 | 224 => 200 | 267 => 201 | 266 => 208 | 314 => 209 | n => n, fun | 9 => 9 | 4 => 4 | 59 => 160 | 3 => 3 | 5 => 5 | 46 => 185 | 146 => 205 | 51 => 204 | n => n, fun | 1 => 1 | n => n⟩
theorem Tryz.lays145 : Go.Proofs.Lays.n145 Tryz.prog Tryz.lays145_ren := {
  mixed := by kernel_rfl
  f145 := Tryz.func153.trans (congrArg some (by kernel_rfl))
  f217 := Tryz.func198.trans (congrArg some (by kernel_rfl))
  f219 := Tryz.func191.trans (congrArg some (by kernel_rfl))
  f220 := Tryz.func177.trans (congrArg some (by kernel_rfl))
  f224 := Tryz.func200.trans (congrArg some (by kernel_rfl))
  f225 := Tryz.func199.trans (congrArg some (by kernel_rfl))
  f266 := Tryz.func208.trans (congrArg some (by kernel_rfl))
  f267 := Tryz.func201.trans (congrArg some (by kernel_rfl))
  f314 := Tryz.func209.trans (congrArg some (by kernel_rfl))
  t3 := Tryz.underlying3
  a3 := Tryz.isAgg3
  z3 := Tryz.sizeOf3
  v3 := Tryz.zeroValue3
  t4 := Tryz.underlying4
  a4 := Tryz.isAgg4
  z4 := Tryz.sizeOf4
  v4 := Tryz.zeroValue4
  t5 := Tryz.underlying5
  a5 := Tryz.isAgg5
  z5 := Tryz.sizeOf5
  v5 := Tryz.zeroValue5
  t9 := Tryz.underlying9
  a9 := Tryz.isAgg9
  z9 := Tryz.sizeOf9
  v9 := Tryz.zeroValue9
  t46 := Tryz.underlying185
  a46 := Tryz.isAgg185
  z46 := Tryz.sizeOf185
  v46 := Tryz.zeroValue185
  t51 := Tryz.underlying204
  a51 := Tryz.isAgg204
  z51 := Tryz.sizeOf204
  v51 := Tryz.zeroValue204
  t59 := Tryz.underlying160
  a59 := Tryz.isAgg160
  z59 := Tryz.sizeOf160
  v59 := Tryz.zeroValue160
  t146 := Tryz.underlying205
  a146 := Tryz.isAgg205
  z146 := Tryz.sizeOf205
  v146 := Tryz.zeroValue205
  g1 := by kernel_rfl }
open Go.RowKit Go.Lib in
theorem Tryz.strings_Cut (s sep : ByteArray) (m : Int) (w : World) (hs : s.size < 4294967281) (hm : w.cell? ⟨1, 0, none⟩ = some (.int .i64 m)) :
    Calls Tryz.prog 153 #[.string s, .string sep] w fun e w' => e = .returned (.tuple #[.string ⟨(Lib.cut s.data.toList sep.data.toList).1.toArray⟩, .string ⟨(Lib.cut s.data.toList sep.data.toList).2.1.toArray⟩, .bool (Lib.cut s.data.toList sep.data.toList).2.2]) ∧ ∃ n, w' = w.drewN n := Any.strings_Cut Tryz.lays145 s sep m w hs hm
def Tryz.laysM145_ren : Go.Shelf.Ren := ⟨fun | 145 => 153 | 220 => 177 | 219 => 191 | 217 => 198 | 225 => 199 | 224 => 200 | 267 => 201 | 266 => 208 | 314 => 209 | n => n, fun | 9 => 9 | 4 => 4 | 59 => 160 | 3 => 3 | 5 => 5 | 46 => 185 | 146 => 205 | 51 => 204 | n => n, fun | 1 => 1 | n => n⟩
theorem Tryz.laysM145 : Go.Proofs.LaysM.n145 Tryz.prog Tryz.laysM145_ren := {
  mixed := by kernel_rfl
  f145 := Tryz.func153.trans (congrArg some (by kernel_rfl))
  f217 := Tryz.func198.trans (congrArg some (by kernel_rfl))
  f219 := Tryz.func191.trans (congrArg some (by kernel_rfl))
  f220 := Tryz.func177.trans (congrArg some (by kernel_rfl))
  f224 := Tryz.func200.trans (congrArg some (by kernel_rfl))
  f225 := Tryz.func199.trans (congrArg some (by kernel_rfl))
  f266 := Tryz.func208.trans (congrArg some (by kernel_rfl))
  f267 := Tryz.func201.trans (congrArg some (by kernel_rfl))
  f314 := Tryz.func209.trans (congrArg some (by kernel_rfl))
  t3 := Tryz.underlying3
  a3 := Tryz.isAgg3
  z3 := Tryz.sizeOf3
  v3 := Tryz.zeroValue3
  t4 := Tryz.underlying4
  a4 := Tryz.isAgg4
  z4 := Tryz.sizeOf4
  v4 := Tryz.zeroValue4
  t5 := Tryz.underlying5
  a5 := Tryz.isAgg5
  z5 := Tryz.sizeOf5
  v5 := Tryz.zeroValue5
  t9 := Tryz.underlying9
  a9 := Tryz.isAgg9
  z9 := Tryz.sizeOf9
  v9 := Tryz.zeroValue9
  t46 := Tryz.underlying185
  a46 := Tryz.isAgg185
  z46 := Tryz.sizeOf185
  v46 := Tryz.zeroValue185
  t51 := Tryz.underlying204
  a51 := Tryz.isAgg204
  z51 := Tryz.sizeOf204
  v51 := Tryz.zeroValue204
  t59 := Tryz.underlying160
  a59 := Tryz.isAgg160
  z59 := Tryz.sizeOf160
  v59 := Tryz.zeroValue160
  t146 := Tryz.underlying205
  a146 := Tryz.isAgg205
  z146 := Tryz.sizeOf205
  v146 := Tryz.zeroValue205
  g1 := by kernel_rfl
  i3 := by kernel_rfl
  i4 := by kernel_rfl
  i5 := by kernel_rfl
  i9 := by kernel_rfl
  i46 := by kernel_rfl
  i51 := by kernel_rfl
  i59 := by kernel_rfl
  i146 := by kernel_rfl
  m1 := by kernel_rfl
  s1_3 := fun w h => Go.Proofs.cell_of_shapedOpen_int (zero := #[.int .i64 0]) (t := 3) h (of_decide_eq_true (by kernel_rfl)) (by kernel_rfl) rfl (by kernel_rfl) (by kernel_rfl) Tryz.underlying3 }
def Tryz.lays264_ren : Go.Shelf.Ren := ⟨fun | 264 => 171 | n => n, fun | 53 => 112 | 46 => 185 | n => n, fun | n => n⟩
theorem Tryz.lays264 : Go.Proofs.Lays.n264 Tryz.prog Tryz.lays264_ren := {
  mixed := by kernel_rfl
  f264 := Tryz.func171.trans (congrArg some (by kernel_rfl))
  t46 := Tryz.underlying185
  a46 := Tryz.isAgg185
  z46 := Tryz.sizeOf185
  v46 := Tryz.zeroValue185
  t53 := Tryz.underlying112
  a53 := Tryz.isAgg112
  z53 := Tryz.sizeOf112
  v53 := Tryz.zeroValue112 }
open Go.RowKit Go.Lib in
theorem Tryz.bits_Mul64 (x y : Nat) (hx : x < 18446744073709551616) (hy : y < 18446744073709551616) (w : World) :
    Calls Tryz.prog 171 #[.int .u64 x, .int .u64 y] w fun e w' => e = .returned (.tuple #[.int .u64 ((x * y / 18446744073709551616 : Nat) : Int), .int .u64 ((x * y % 18446744073709551616 : Nat) : Int)]) ∧ w' = w := Any.bits_Mul64 Tryz.lays264 x y hx hy w
end Go.Proofs
