/- The contracts of the program's truth, AsBool, AsText, of layer 3. -/
import Derived.Test.YteaodfeaidjcnaaGreatDoorVpG
import Derived.Test.YteaodfeaidjcnaaGreatDoorVrY
namespace Go.Proofs.YteaodfeaidjcnaaGreatDoor
open Go.RowKit

theorem tr_false (u : Vl) (h : vGood u = true) (hk : u.kind ≠ 3) : u.tr = false := by
  obtain ⟨k, n, s, b, f⟩ := u
  simp only [] at hk ⊢
  by_cases k0 : k = 0
  · subst k0; rw [vGood0] at h; simp at h; exact h.1.2
  · by_cases k1 : k = 1
    · subst k1; rw [vGood1] at h; simp at h; exact h.1.2
    · by_cases k2 : k = 2
      · subst k2; rw [vGood2] at h; simp at h; exact h.1.2
      · by_cases k4 : k = 4
        · subst k4; rw [vGood4] at h; simp at h; exact h.1.1.2
        · rw [good_else k n s b f k0 k1 k2 hk k4] at h; cases h
def truthV (s : ByteArray) : Bool × Bool :=
  if ((mapB lowC s).toList == [116, 114, 117, 101]) = true then (true, true) else if ((mapB lowC s).toList == [102, 97, 108, 115, 101]) = true then (false, true) else (false, false)
theorem pair_bb {r : Bool × Bool} {a b : Bool} (h : r = (a, b)) : Ending.returned (.tuple #[.bool a, .bool b]) = .returned (.tuple #[.bool r.1, .bool r.2]) := by rw [h]

set_option maxHeartbeats 1000000 in
theorem truth_val (s : ByteArray) (w : World) (hs : s.size ≤ 1000000) :
    Calls Tryz.prog 28 #[.string s] w fun e w' => e = .returned (.tuple #[.bool (truthV s).1, .bool (truthV s).2]) ∧ Below w.heap.size w w' := by
  have HL := hide (fun w => lower_val s w hs)
  clear hs
  obtain ⟨R, hR⟩ : ∃ R, truthV s = R := ⟨_, rfl⟩
  rw [hR]
  unfold truthV at hR
  obtain ⟨L, hL⟩ : ∃ L, mapB lowC s = L := ⟨_, rfl⟩
  rw [hL] at HL hR
  clear hL
  cases e1 : (L.toList == [116, 114, 117, 101])
  · cases e2 : (L.toList == [102, 97, 108, 115, 101])
    · have E : Hid (R = (false, false)) := hide (by rw [← hR]; simp only [e1, e2]; rfl)
      clear hR
      go_enter Tryz.func28, Tryz.ntmps28
      go_wp2_with fail
      refine (unhide HL _).mono ?_
      rintro e w1 ⟨rfl, b1⟩
      go_wp2
      go_ret2
      exact ⟨pair_bb (unhide E), b1⟩
    · have E : Hid (R = (false, true)) := hide (by rw [← hR]; simp only [e1, e2]; rfl)
      clear hR
      go_enter Tryz.func28, Tryz.ntmps28
      go_wp2_with fail
      refine (unhide HL _).mono ?_
      rintro e w1 ⟨rfl, b1⟩
      go_wp2
      go_ret2
      exact ⟨pair_bb (unhide E), b1⟩
  · have E : Hid (R = (true, true)) := hide (by rw [← hR]; simp only [e1]; rfl)
    clear hR
    go_enter Tryz.func28, Tryz.ntmps28
    go_wp2_with fail
    refine (unhide HL _).mono ?_
    rintro e w1 ⟨rfl, b1⟩
    go_wp2
    go_ret2
    exact ⟨pair_bb (unhide E), b1⟩

set_option maxRecDepth 100000 in
set_option maxHeartbeats 4000000 in
theorem asbool_val (v : Vl) (w : World) (hs : v.text.size ≤ 1000) :
    Calls Tryz.prog 10 #[.agg v.cells] w fun e w' => e = .returned (.tuple #[.bool (asBoolV (vSound v)).1, .int .i64 (asBoolV (vSound v)).2]) ∧ Below w.heap.size w w' := by
  obtain ⟨u, hu⟩ : ∃ u, vSound v = u := ⟨_, rfl⟩
  have HS := hide (fun w => counted_val v w (by omega))
  have HTX : Hid (u.text.size ≤ 1000) := hide (by rw [← hu]; exact sound_size2 v hs)
  have HG : Hid (vGood u = true) := hide (by rw [← hu]; exact sound_good v)
  have HSS : Hid (vSound u = u) := hide (by rw [← hu]; exact sound_idem v)
  rw [hu] at HS ⊢
  clear hu
  unfold Vl.cells at HS ⊢
  cases h1 : (u.kind == 1)
  · have n1 : u.kind ≠ 1 := by rw [beq_eq_false_iff_ne] at h1; exact h1
    cases h2 : (u.kind == 2)
    · have n2 : u.kind ≠ 2 := by rw [beq_eq_false_iff_ne] at h2; exact h2
      cases h4 : (u.kind == 4)
      · have n4 : u.kind ≠ 4 := by rw [beq_eq_false_iff_ne] at h4; exact h4
        have E : Hid (asBoolV u = (u.tr, 0)) := hide (by
          unfold asBoolV
          rw [if_neg n1, if_neg n2]
          by_cases n3 : u.kind = 3
          · rw [if_pos n3]
          · rw [if_neg n3, if_neg n4, tr_false u (unhide HG) n3])
        clear n1 n2 n4
        go_enter Tryz.func10, Tryz.ntmps10
        go_wp2_with fail
        refine (unhide HS _).mono ?_
        rintro e w1 ⟨rfl, b1⟩
        have hf := five_below (five_new w 28 (.int .i64 v.kind) (.int .i64 v.num) (.string v.text) (.bool v.tr) (.int .i64 v.fail)) b1 (by simp)
        have HB := hide (below_five ((below_al w (.cells #[.int .i64 v.kind, .int .i64 v.num, .string v.text, .bool v.tr, .int .i64 v.fail] 28)).trans (b1.mono (by simp))) (Nat.le_refl _) (.int .i64 u.kind) (.int .i64 u.num) (.string u.text) (.bool u.tr) (.int .i64 u.fail))
        have HF := hide (five_set hf (.int .i64 u.kind) (.int .i64 u.num) (.string u.text) (.bool u.tr) (.int .i64 u.fail))
        obtain ⟨x0, c0⟩ := five_c hf 0 (by omega)
        obtain ⟨x1, c1⟩ := five_c hf 1 (by omega)
        obtain ⟨x2, c2⟩ := five_c hf 2 (by omega)
        obtain ⟨x3, c3⟩ := five_c hf 3 (by omega)
        obtain ⟨x4, c4⟩ := five_c hf 4 (by omega)
        have f0 := five_f hf 0
        have f1 := five_f hf 1
        have f2 := five_f hf 2
        have f3 := five_f hf 3
        have f4 := five_f hf 4
        clear hf b1
        go_wp2
        try go_region
        all_goals (try go_wp2_with fail)
        all_goals go_ret2
        all_goals first | exact ⟨pair_b (unhide E), unhide HB⟩ | exact ⟨pair_b (unhide E), (unhide HB).drew⟩
      · have k4 : u.kind = 4 := by rw [beq_iff_eq] at h4; exact h4
        have E : Hid (asBoolV u = (false, u.fail)) := hide (by unfold asBoolV; rw [if_neg n1, if_neg n2, if_neg (by omega), if_pos k4])
        clear n1 n2 k4
        go_enter Tryz.func10, Tryz.ntmps10
        go_wp2_with fail
        refine (unhide HS _).mono ?_
        rintro e w1 ⟨rfl, b1⟩
        have hf := five_below (five_new w 28 (.int .i64 v.kind) (.int .i64 v.num) (.string v.text) (.bool v.tr) (.int .i64 v.fail)) b1 (by simp)
        have HB := hide (below_five ((below_al w (.cells #[.int .i64 v.kind, .int .i64 v.num, .string v.text, .bool v.tr, .int .i64 v.fail] 28)).trans (b1.mono (by simp))) (Nat.le_refl _) (.int .i64 u.kind) (.int .i64 u.num) (.string u.text) (.bool u.tr) (.int .i64 u.fail))
        have HF := hide (five_set hf (.int .i64 u.kind) (.int .i64 u.num) (.string u.text) (.bool u.tr) (.int .i64 u.fail))
        obtain ⟨x0, c0⟩ := five_c hf 0 (by omega)
        obtain ⟨x1, c1⟩ := five_c hf 1 (by omega)
        obtain ⟨x2, c2⟩ := five_c hf 2 (by omega)
        obtain ⟨x3, c3⟩ := five_c hf 3 (by omega)
        obtain ⟨x4, c4⟩ := five_c hf 4 (by omega)
        have f0 := five_f hf 0
        have f1 := five_f hf 1
        have f2 := five_f hf 2
        have f3 := five_f hf 3
        have f4 := five_f hf 4
        clear hf b1
        go_wp2
        try go_region
        all_goals (try go_wp2_with fail)
        all_goals go_ret2
        all_goals first | exact ⟨pair_b (unhide E), unhide HB⟩ | exact ⟨pair_b (unhide E), (unhide HB).drew⟩
    · have k2 : u.kind = 2 := by rw [beq_iff_eq] at h2; exact h2
      have E : Hid (asBoolV u = if (truthV u.text).2 = true then ((truthV u.text).1, 0) else (false, 3)) := hide (by
        unfold asBoolV truthV
        rw [if_neg n1, if_pos k2]
        by_cases e1 : ((mapB lowC u.text).toList == [116, 114, 117, 101]) = true
        · rw [if_pos e1, if_pos e1]; rfl
        · rw [if_neg e1, if_neg e1]
          by_cases e2 : ((mapB lowC u.text).toList == [102, 97, 108, 115, 101]) = true
          · rw [if_pos e2, if_pos e2]; rfl
          · rw [if_neg e2, if_neg e2]; rfl)
      clear n1 k2
      go_enter Tryz.func10, Tryz.ntmps10
      go_wp2_with fail
      refine (unhide HS _).mono ?_
      rintro e w1 ⟨rfl, b1⟩
      have hf := five_below (five_new w 28 (.int .i64 v.kind) (.int .i64 v.num) (.string v.text) (.bool v.tr) (.int .i64 v.fail)) b1 (by simp)
      have HB := hide (below_five ((below_al w (.cells #[.int .i64 v.kind, .int .i64 v.num, .string v.text, .bool v.tr, .int .i64 v.fail] 28)).trans (b1.mono (by simp))) (Nat.le_refl _) (.int .i64 u.kind) (.int .i64 u.num) (.string u.text) (.bool u.tr) (.int .i64 u.fail))
      have HF := hide (five_set hf (.int .i64 u.kind) (.int .i64 u.num) (.string u.text) (.bool u.tr) (.int .i64 u.fail))
      obtain ⟨x0, c0⟩ := five_c hf 0 (by omega)
      obtain ⟨x1, c1⟩ := five_c hf 1 (by omega)
      obtain ⟨x2, c2⟩ := five_c hf 2 (by omega)
      obtain ⟨x3, c3⟩ := five_c hf 3 (by omega)
      obtain ⟨x4, c4⟩ := five_c hf 4 (by omega)
      have f0 := five_f hf 0
      have f1 := five_f hf 1
      have f2 := five_f hf 2
      have f3 := five_f hf 3
      have f4 := five_f hf 4
      clear hf b1
      go_wp2_with fail
      refine (truth_val u.text _ (by have := unhide HTX; omega)).mono ?_
      rintro e w2 ⟨rfl, b2⟩
      replace HB := hide (below_nx (unhide HB) b2)
      clear b2
      obtain ⟨r, hr⟩ : ∃ r, truthV u.text = r := ⟨_, rfl⟩
      rw [hr] at E ⊢
      clear hr
      obtain ⟨p, q⟩ := r
      simp only [] at E ⊢
      cases q
      · go_wp2
        try go_region
        all_goals (try go_wp2_with fail)
        all_goals go_ret2
        all_goals first | exact ⟨pair_b (unhide E), unhide HB⟩ | exact ⟨pair_b (unhide E), (unhide HB).drew⟩
      · go_wp2
        try go_region
        all_goals (try go_wp2_with fail)
        all_goals go_ret2
        all_goals first | exact ⟨pair_b (unhide E), unhide HB⟩ | exact ⟨pair_b (unhide E), (unhide HB).drew⟩
  · have k1 : u.kind = 1 := by rw [beq_iff_eq] at h1; exact h1
    have E : Hid (asBoolV u = ((u.num != 0), 0)) := hide (by unfold asBoolV; rw [if_pos k1])
    clear k1
    go_enter Tryz.func10, Tryz.ntmps10
    go_wp2_with fail
    refine (unhide HS _).mono ?_
    rintro e w1 ⟨rfl, b1⟩
    have hf := five_below (five_new w 28 (.int .i64 v.kind) (.int .i64 v.num) (.string v.text) (.bool v.tr) (.int .i64 v.fail)) b1 (by simp)
    have HB := hide (below_five ((below_al w (.cells #[.int .i64 v.kind, .int .i64 v.num, .string v.text, .bool v.tr, .int .i64 v.fail] 28)).trans (b1.mono (by simp))) (Nat.le_refl _) (.int .i64 u.kind) (.int .i64 u.num) (.string u.text) (.bool u.tr) (.int .i64 u.fail))
    have HF := hide (five_set hf (.int .i64 u.kind) (.int .i64 u.num) (.string u.text) (.bool u.tr) (.int .i64 u.fail))
    obtain ⟨x0, c0⟩ := five_c hf 0 (by omega)
    obtain ⟨x1, c1⟩ := five_c hf 1 (by omega)
    obtain ⟨x2, c2⟩ := five_c hf 2 (by omega)
    obtain ⟨x3, c3⟩ := five_c hf 3 (by omega)
    obtain ⟨x4, c4⟩ := five_c hf 4 (by omega)
    have f0 := five_f hf 0
    have f1 := five_f hf 1
    have f2 := five_f hf 2
    have f3 := five_f hf 3
    have f4 := five_f hf 4
    clear hf b1
    go_wp2
    try go_region
    all_goals (try go_wp2_with fail)
    all_goals go_ret2
    all_goals first | exact ⟨pair_b (unhide E), unhide HB⟩ | exact ⟨pair_b (unhide E), (unhide HB).drew⟩

set_option maxRecDepth 100000 in
set_option maxHeartbeats 4000000 in
theorem astext_val (v : Vl) (w : World) (hs : v.text.size ≤ 1000) (he : Env3 w) :
    Calls Tryz.prog 8 #[.agg v.cells] w fun e w' => e = .returned (.tuple #[.string (asTextV (vSound v)).1, .int .i64 (asTextV (vSound v)).2]) ∧ Below w.heap.size w w' := by
  have HE := hide he
  clear he
  obtain ⟨u, hu⟩ : ∃ u, vSound v = u := ⟨_, rfl⟩
  have HS := hide (fun w => counted_val v w (by omega))
  have HTX : Hid (u.text.size ≤ 1000) := hide (by rw [← hu]; exact sound_size2 v hs)
  have HG : Hid (vGood u = true) := hide (by rw [← hu]; exact sound_good v)
  have HSS : Hid (vSound u = u) := hide (by rw [← hu]; exact sound_idem v)
  rw [hu] at HS ⊢
  clear hu
  unfold Vl.cells at HS ⊢
  cases h4 : (u.kind == 4)
  · have n4 : u.kind ≠ 4 := by rw [beq_eq_false_iff_ne] at h4; exact h4
    have E : Hid (asTextV u = (showV u, 0)) := hide (by unfold asTextV; rw [if_neg n4])
    clear n4
    go_enter Tryz.func8, Tryz.ntmps8
    go_wp2_with fail
    refine (unhide HS _).mono ?_
    rintro e w1 ⟨rfl, b1⟩
    have hf := five_below (five_new w 28 (.int .i64 v.kind) (.int .i64 v.num) (.string v.text) (.bool v.tr) (.int .i64 v.fail)) b1 (by simp)
    have HB := hide (below_five ((below_al w (.cells #[.int .i64 v.kind, .int .i64 v.num, .string v.text, .bool v.tr, .int .i64 v.fail] 28)).trans (b1.mono (by simp))) (Nat.le_refl _) (.int .i64 u.kind) (.int .i64 u.num) (.string u.text) (.bool u.tr) (.int .i64 u.fail))
    have HF := hide (five_set hf (.int .i64 u.kind) (.int .i64 u.num) (.string u.text) (.bool u.tr) (.int .i64 u.fail))
    obtain ⟨x0, c0⟩ := five_c hf 0 (by omega)
    obtain ⟨x1, c1⟩ := five_c hf 1 (by omega)
    obtain ⟨x2, c2⟩ := five_c hf 2 (by omega)
    obtain ⟨x3, c3⟩ := five_c hf 3 (by omega)
    obtain ⟨x4, c4⟩ := five_c hf 4 (by omega)
    have f0 := five_f hf 0
    have f1 := five_f hf 1
    have f2 := five_f hf 2
    have f3 := five_f hf 3
    have f4 := five_f hf 4
    clear hf b1
    go_wp2_with fail
    refine (show_val u _ (by have := unhide HTX; omega) ((unhide HE).below (unhide HB))).mono ?_
    rintro e w2 ⟨rfl, b2⟩
    rw [unhide HSS]
    replace HB := hide (below_nx (unhide HB) b2)
    clear b2
    go_wp2
    try go_region
    all_goals (try go_wp2_with fail)
    all_goals go_ret2
    all_goals first | exact ⟨pair_s (unhide E), unhide HB⟩ | exact ⟨pair_s (unhide E), (unhide HB).drew⟩
  · have k4 : u.kind = 4 := by rw [beq_iff_eq] at h4; exact h4
    have E : Hid (asTextV u = (noText, u.fail)) := hide (by unfold asTextV; rw [if_pos k4])
    clear k4
    go_enter Tryz.func8, Tryz.ntmps8
    go_wp2_with fail
    refine (unhide HS _).mono ?_
    rintro e w1 ⟨rfl, b1⟩
    have hf := five_below (five_new w 28 (.int .i64 v.kind) (.int .i64 v.num) (.string v.text) (.bool v.tr) (.int .i64 v.fail)) b1 (by simp)
    have HB := hide (below_five ((below_al w (.cells #[.int .i64 v.kind, .int .i64 v.num, .string v.text, .bool v.tr, .int .i64 v.fail] 28)).trans (b1.mono (by simp))) (Nat.le_refl _) (.int .i64 u.kind) (.int .i64 u.num) (.string u.text) (.bool u.tr) (.int .i64 u.fail))
    have HF := hide (five_set hf (.int .i64 u.kind) (.int .i64 u.num) (.string u.text) (.bool u.tr) (.int .i64 u.fail))
    obtain ⟨x0, c0⟩ := five_c hf 0 (by omega)
    obtain ⟨x1, c1⟩ := five_c hf 1 (by omega)
    obtain ⟨x2, c2⟩ := five_c hf 2 (by omega)
    obtain ⟨x3, c3⟩ := five_c hf 3 (by omega)
    obtain ⟨x4, c4⟩ := five_c hf 4 (by omega)
    have f0 := five_f hf 0
    have f1 := five_f hf 1
    have f2 := five_f hf 2
    have f3 := five_f hf 3
    have f4 := five_f hf 4
    clear hf b1
    go_wp2
    try go_region
    all_goals (try go_wp2_with fail)
    all_goals go_ret2
    all_goals first | exact ⟨pair_s (unhide E), unhide HB⟩ | exact ⟨pair_s (unhide E), (unhide HB).drew⟩
end Go.Proofs.YteaodfeaidjcnaaGreatDoor
