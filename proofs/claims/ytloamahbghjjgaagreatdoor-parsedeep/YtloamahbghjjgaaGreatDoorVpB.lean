/- The contracts of the program's Good and counted, of layer 3. -/
import Derived.Deep.RegionWith
import Derived.Test.YtloamahbghjjgaaGreatDoorVpA
import Derived.Test.YtloamahbghjjgaaGreatDoorVpQ
namespace Go.Proofs.YtloamahbghjjgaaGreatDoor
open Go.RowKit


theorem five_cells {w : World} {B : Nat} {t : TypeId} {a b c d e : Value} (h : FiveAt w B t #[a, b, c, d, e]) :
    w.cell? ⟨B, 0, none⟩ = some a ∧ w.cell? ⟨B, 1, none⟩ = some b ∧ w.cell? ⟨B, 2, none⟩ = some c ∧ w.cell? ⟨B, 3, none⟩ = some d ∧ w.cell? ⟨B, 4, none⟩ = some e := by
  simp [World.cell?, h.1]

theorem five_drew {w : World} {B : Nat} {t : TypeId} {cs : Array Value} (h : FiveAt w B t cs) : FiveAt w.drew B t cs := h
theorem noText_list : noText.toList = [] := by rw [ByteArray.toList_eq]
theorem vGood0 (n : Int) (s : ByteArray) (b : Bool) (f : Int) : vGood ⟨0, n, s, b, f⟩ = ((n == 0) && (s.toList == []) && !b && (f == 0)) := rfl
theorem vGood1 (n : Int) (s : ByteArray) (b : Bool) (f : Int) : vGood ⟨1, n, s, b, f⟩ = (goodB n && (s.toList == []) && !b && (f == 0)) := rfl
theorem vGood2 (n : Int) (s : ByteArray) (b : Bool) (f : Int) : vGood ⟨2, n, s, b, f⟩ = ((n == 0) && decide (s.size ≤ 255) && !b && (f == 0)) := rfl
theorem vGood3 (n : Int) (s : ByteArray) (b : Bool) (f : Int) : vGood ⟨3, n, s, b, f⟩ = ((n == 0) && (s.toList == []) && (f == 0)) := rfl
theorem vGood4 (n : Int) (s : ByteArray) (b : Bool) (f : Int) : vGood ⟨4, n, s, b, f⟩ = ((n == 0) && (s.toList == []) && !b && decide (1 ≤ f) && decide (f ≤ 8)) := rfl
theorem vEq_mk (k n : Int) (s : ByteArray) (b : Bool) (f : Int) (k' n' : Int) (s' : ByteArray) (b' : Bool) (f' : Int) :
    vEq ⟨k, n, s, b, f⟩ ⟨k', n', s', b', f'⟩ = ((k == k') && ((n == n') && ((s.toList == s'.toList) && ((b == b') && (f == f'))))) := rfl
theorem vE_out (f : Int) (h : f < 1 ∨ 8 < f) : vE f = ⟨4, 0, noText, false, 3⟩ := by unfold vE; rw [if_pos h]
theorem vE_in (f : Int) (h : ¬ (f < 1 ∨ 8 < f)) : vE f = ⟨4, 0, noText, false, f⟩ := by unfold vE; rw [if_neg h]
theorem eq_blank (n : Int) (s : ByteArray) (b : Bool) (f : Int) : vEq ⟨0, n, s, b, f⟩ ⟨0, 0, noText, false, 0⟩ = vGood ⟨0, n, s, b, f⟩ := by
  rw [vGood0, vEq_mk, noText_list]
  cases b <;> simp [Bool.and_assoc]
theorem eq_num (n : Int) (s : ByteArray) (b : Bool) (f : Int) : vEq ⟨1, n, s, b, f⟩ (vN n) = vGood ⟨1, n, s, b, f⟩ := by
  rw [vGood1]
  unfold vN
  cases hg : goodB n
  · rw [if_neg (by simp), vE_in 2 (by omega), vEq_mk]; rfl
  · rw [if_pos rfl, vEq_mk, noText_list]; cases b <;> simp
theorem eq_text (n : Int) (s : ByteArray) (b : Bool) (f : Int) : vEq ⟨2, n, s, b, f⟩ (vT s) = vGood ⟨2, n, s, b, f⟩ := by
  rw [vGood2]
  unfold vT
  by_cases h : 255 < s.size
  · rw [if_pos h, show decide (s.size ≤ 255) = false from decide_eq_false (by omega), vE_in 3 (by omega), vEq_mk]; simp
  · rw [if_neg h, show decide (s.size ≤ 255) = true from decide_eq_true (by omega), vEq_mk]; cases b <;> simp
theorem eq_bool (n : Int) (s : ByteArray) (b : Bool) (f : Int) : vEq ⟨3, n, s, b, f⟩ (vB b) = vGood ⟨3, n, s, b, f⟩ := by
  rw [vGood3]
  unfold vB
  rw [vEq_mk, noText_list]
  cases b <;> simp [Bool.and_assoc]
theorem eq_err (n : Int) (s : ByteArray) (b : Bool) (f : Int) : vEq ⟨4, n, s, b, f⟩ (vE f) = vGood ⟨4, n, s, b, f⟩ := by
  rw [vGood4]
  by_cases h : f < 1 ∨ 8 < f
  · have h3 : (f == 3) = false := by rw [beq_eq_false_iff_ne]; omega
    rw [vE_out f h, vEq_mk, h3, noText_list]
    rcases h with h | h
    · rw [show decide (1 ≤ f) = false from decide_eq_false (by omega)]; cases b <;> simp
    · rw [show decide (f ≤ 8) = false from decide_eq_false (by omega)]; cases b <;> simp
  · rw [vE_in f h, vEq_mk, noText_list, show decide (1 ≤ f) = true from decide_eq_true (by omega), show decide (f ≤ 8) = true from decide_eq_true (by omega)]
    cases b <;> simp
theorem good_else (k n : Int) (s : ByteArray) (b : Bool) (f : Int) (h0 : k ≠ 0) (h1 : k ≠ 1) (h2 : k ≠ 2) (h3 : k ≠ 3) (h4 : k ≠ 4) : vGood ⟨k, n, s, b, f⟩ = false := by
  unfold vGood
  rw [if_neg h0, if_neg h1, if_neg h2, if_neg h3, if_neg h4]

set_option maxHeartbeats 4000000 in
theorem good3_val (v : Vl) (w : World) (hs : v.text.size ≤ 1000000) :
    Calls Tryz.prog 165 #[.agg v.cells] w fun e w' => e = .returned (.bool (vGood v)) ∧ Below w.heap.size w w' := by
  obtain ⟨k, n, s, b, f⟩ := v
  simp only [] at hs
  have HS := hide hs
  clear hs
  unfold Vl.cells
  simp only []
  by_cases k0 : k = 0
  · subst k0
    rw [← eq_blank]
    have hq := fun w => vl_eq 0 n s b f 0 0 noText false 0 w
    go_enter Tryz.func165, Tryz.ntmps165
    go_wp2
    go_ret
    exact ⟨rfl, below_al _ _⟩
  · have kb0 : (k == 0) = false := by rw [beq_eq_false_iff_ne]; exact k0
    by_cases k1 : k = 1
    · subst k1
      clear kb0 k0
      rw [← eq_num]
      obtain ⟨z, hz⟩ : ∃ z, vN n = z := ⟨_, rfl⟩
      have HC : Hid (∀ w : World, Calls Tryz.prog 201 #[.int .i64 n] w fun e w' => e = .returned (.agg z.cells) ∧ Below w.heap.size w w') := hide (fun w => by have h := n_val n w; rw [hz] at h; exact h)
      rw [hz]
      clear hz
      obtain ⟨k1, n1, s1, t1, f1⟩ := z
      unfold Vl.cells at HC
      simp only [] at HC
      have hq := fun w => vl_eq 1 n s b f k1 n1 s1 t1 f1 w
      go_enter Tryz.func165, Tryz.ntmps165
      go_wp2_with fail
      go_region_with (go_at_call 201; refine (unhide HC _).mono ?_; rintro e w1 ⟨rfl, b1⟩; have hc := five_below (five_drew (five_new w 46 (.int .i64 1) (.int .i64 n) (.string s) (.bool b) (.int .i64 f))) b1 (by show _ < (w.heap.push _).size; simp); obtain ⟨c0, c1, c2, c3, c4⟩ := five_cells hc; have HB := hide (below_nx (below_al w _).drew b1); clear hc b1)
      all_goals (try go_wp2_with fail)
      all_goals go_ret
      all_goals exact ⟨rfl, unhide HB⟩
    · have kb1 : (k == 1) = false := by rw [beq_eq_false_iff_ne]; exact k1
      by_cases k2 : k = 2
      · subst k2
        clear kb0 k0
        clear kb1 k1
        rw [← eq_text]
        obtain ⟨z, hz⟩ : ∃ z, vT s = z := ⟨_, rfl⟩
        have HC : Hid (∀ w : World, Calls Tryz.prog 202 #[.string s] w fun e w' => e = .returned (.agg z.cells) ∧ Below w.heap.size w w') := hide (fun w => by have h := t_val s w (unhide HS); rw [hz] at h; exact h)
        rw [hz]
        clear hz
        obtain ⟨k1, n1, s1, t1, f1⟩ := z
        unfold Vl.cells at HC
        simp only [] at HC
        have hq := fun w => vl_eq 2 n s b f k1 n1 s1 t1 f1 w
        go_enter Tryz.func165, Tryz.ntmps165
        go_wp2_with fail
        go_region_with (go_at_call 202; refine (unhide HC _).mono ?_; rintro e w1 ⟨rfl, b1⟩; have hc := five_below (five_drew (five_new w 46 (.int .i64 2) (.int .i64 n) (.string s) (.bool b) (.int .i64 f))) b1 (by show _ < (w.heap.push _).size; simp); obtain ⟨c0, c1, c2, c3, c4⟩ := five_cells hc; have HB := hide (below_nx (below_al w _).drew b1); clear hc b1)
        all_goals (try go_wp2_with fail)
        all_goals go_ret
        all_goals exact ⟨rfl, unhide HB⟩
      · have kb2 : (k == 2) = false := by rw [beq_eq_false_iff_ne]; exact k2
        by_cases k3 : k = 3
        · subst k3
          clear kb0 k0
          clear kb1 k1
          clear kb2 k2
          rw [← eq_bool]
          obtain ⟨z, hz⟩ : ∃ z, vB b = z := ⟨_, rfl⟩
          have HC : Hid (∀ w : World, Calls Tryz.prog 47 #[.bool b] w fun e w' => e = .returned (.agg z.cells) ∧ Below w.heap.size w w') := hide (fun w => by have h := b_val b w; rw [hz] at h; exact h)
          rw [hz]
          clear hz
          obtain ⟨k1, n1, s1, t1, f1⟩ := z
          unfold Vl.cells at HC
          simp only [] at HC
          have hq := fun w => vl_eq 3 n s b f k1 n1 s1 t1 f1 w
          go_enter Tryz.func165, Tryz.ntmps165
          go_wp2_with fail
          go_region_with (go_at_call 47; refine (unhide HC _).mono ?_; rintro e w1 ⟨rfl, b1⟩; have hc := five_below (five_drew (five_new w 46 (.int .i64 3) (.int .i64 n) (.string s) (.bool b) (.int .i64 f))) b1 (by show _ < (w.heap.push _).size; simp); obtain ⟨c0, c1, c2, c3, c4⟩ := five_cells hc; have HB := hide (below_nx (below_al w _).drew b1); clear hc b1)
          all_goals (try go_wp2_with fail)
          all_goals go_ret
          all_goals exact ⟨rfl, unhide HB⟩
        · have kb3 : (k == 3) = false := by rw [beq_eq_false_iff_ne]; exact k3
          by_cases k4 : k = 4
          · subst k4
            clear kb0 k0
            clear kb1 k1
            clear kb2 k2
            clear kb3 k3
            rw [← eq_err]
            obtain ⟨z, hz⟩ : ∃ z, vE f = z := ⟨_, rfl⟩
            have HC : Hid (∀ w : World, Calls Tryz.prog 203 #[.int .i64 f] w fun e w' => e = .returned (.agg z.cells) ∧ Below w.heap.size w w') := hide (fun w => by have h := e_val f w; rw [hz] at h; exact h)
            rw [hz]
            clear hz
            obtain ⟨k1, n1, s1, t1, f1⟩ := z
            unfold Vl.cells at HC
            simp only [] at HC
            have hq := fun w => vl_eq 4 n s b f k1 n1 s1 t1 f1 w
            go_enter Tryz.func165, Tryz.ntmps165
            go_wp2_with fail
            go_region_with (go_at_call 203; refine (unhide HC _).mono ?_; rintro e w1 ⟨rfl, b1⟩; have hc := five_below (five_drew (five_new w 46 (.int .i64 4) (.int .i64 n) (.string s) (.bool b) (.int .i64 f))) b1 (by show _ < (w.heap.push _).size; simp); obtain ⟨c0, c1, c2, c3, c4⟩ := five_cells hc; have HB := hide (below_nx (below_al w _).drew b1); clear hc b1)
            all_goals (try go_wp2_with fail)
            all_goals go_ret
            all_goals exact ⟨rfl, unhide HB⟩
          · have kb4 : (k == 4) = false := by rw [beq_eq_false_iff_ne]; exact k4
            rw [good_else k n s b f k0 k1 k2 k3 k4]
            clear k0 k1 k2 k3 k4
            go_enter Tryz.func165, Tryz.ntmps165
            go_wp2
            go_ret
            exact ⟨rfl, below_al _ _⟩
end Go.Proofs.YtloamahbghjjgaaGreatDoor
