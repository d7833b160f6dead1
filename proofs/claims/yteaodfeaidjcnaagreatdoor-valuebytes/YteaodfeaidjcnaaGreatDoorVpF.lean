/- What the program's texts of layer 3 lean on, and the contract of Show. -/
import Derived.Test.YteaodfeaidjcnaaGreatDoorVpE
import Derived.Test.YteaodfeaidjcnaaGreatDoorFxY
import Derived.Test.YteaodfeaidjcnaaGreatDoorVrG
namespace Go.Proofs.YteaodfeaidjcnaaGreatDoor
open Go.RowKit

/-- What a law's first world holds, and every later one: the table of powers of ten, the cell of MaxLen, the errors in signs. -/
structure Env3 (w : World) : Prop where
  tab : powTab w
  len : lenCell w
  sg : signTab w
theorem len_below {w w' : World} (h : lenCell w) (hb : Below w.heap.size w w') : lenCell w' := by
  obtain ⟨m, hm⟩ := h
  refine ⟨m, ?_⟩
  have hlt : 3 < w.heap.size := by
    rcases Nat.lt_or_ge 3 w.heap.size with h' | h'
    · exact h'
    · simp [World.cell?, Array.getElem?_eq_none h'] at hm
  rw [hb.cell (p := ⟨3, 0, none⟩) hlt]
  exact hm
theorem Env3.below {w w' : World} (h : Env3 w) (hb : Below w.heap.size w w') : Env3 w' := ⟨tab_below h.tab hb, len_below h.len hb, signs_below h.sg hb⟩
theorem sign_b (f : Int) (w : World) (h : Env3 w) :
    Calls Tryz.prog 36 #[.int .i64 f] w fun e w' => e = .returned (.string (signV f)) ∧ Below w.heap.size w w' :=
  (sign_val f w h.sg).mono (fun e w' ⟨h1, h2⟩ => ⟨h1, by rw [h2]; exact Below.refl _ _⟩)

set_option maxRecDepth 100000 in
set_option maxHeartbeats 4000000 in
theorem show_val (v : Vl) (w : World) (hs : v.text.size ≤ 1000000) (he : Env3 w) :
    Calls Tryz.prog 13 #[.agg v.cells] w fun e w' => e = .returned (.string (showV (vSound v))) ∧ Below w.heap.size w w' := by
  obtain ⟨u, hu⟩ : ∃ u, vSound v = u := ⟨_, rfl⟩
  have HE := hide he
  clear he
  have HS := hide (fun w => counted_val v w hs)
  have HTX : Hid (u.text.size ≤ 1000000) := hide (by rw [← hu]; exact sound_size v hs)
  rw [hu] at HS ⊢
  clear hu
  unfold Vl.cells at HS ⊢
  cases h1 : (u.kind == 1)
  · have n1 : u.kind ≠ 1 := by rw [beq_eq_false_iff_ne] at h1; exact h1
    cases h2 : (u.kind == 2)
    · have n2 : u.kind ≠ 2 := by rw [beq_eq_false_iff_ne] at h2; exact h2
      cases h3 : (u.kind == 3)
      · have n3 : u.kind ≠ 3 := by rw [beq_eq_false_iff_ne] at h3; exact h3
        cases h4 : (u.kind == 4)
        · have n4 : u.kind ≠ 4 := by rw [beq_eq_false_iff_ne] at h4; exact h4
          have E : Hid (showV u = noText) := hide (by unfold showV; rw [if_neg n1, if_neg n2, if_neg n3, if_neg n4])
          clear n1 n2 n3 n4
          go_enter Tryz.func13, Tryz.ntmps13
          go_wp2_with fail
          refine (unhide HS _).mono ?_
          rintro e w1 ⟨rfl, b1⟩
          have hf := five_below (five_new w 28 (.int .i64 v.kind) (.int .i64 v.num) (.string v.text) (.bool v.tr) (.int .i64 v.fail)) b1 (by simp)
          have HB := hide (below_five ((below_al w (.cells #[.int .i64 v.kind, .int .i64 v.num, .string v.text, .bool v.tr, .int .i64 v.fail] 28)).trans (b1.mono (by simp))) (Nat.le_refl _) (.int .i64 u.kind) (.int .i64 u.num) (.string u.text) (.bool u.tr) (.int .i64 u.fail))
          have HF := hide (five_set hf (.int .i64 u.kind) (.int .i64 u.num) (.string u.text) (.bool u.tr) (.int .i64 u.fail))
          obtain ⟨x0, c0⟩ := five_c hf 0 (by omega)
          obtain ⟨x1, c1⟩ := five_c hf 1 (by omega)
          obtain ⟨x2, c2⟩ := five_c hf 2 (by omega)
          obtain ⟨x3, c3⟩ := five_c hf 3 (by omega)
          obtain ⟨x4, c4⟩ := five_c hf 4 (by omega)
          have f0 := five_f hf 0
          have f1 := five_f hf 1
          have f2 := five_f hf 2
          have f3 := five_f hf 3
          have f4 := five_f hf 4
          clear hf b1
          go_wp2
          go_ret
          exact ⟨by rw [unhide E]; rfl, unhide HB⟩
        · have k4 : u.kind = 4 := by rw [beq_iff_eq] at h4; exact h4
          have E : Hid (showV u = signV u.fail) := hide (by unfold showV; rw [if_neg n1, if_neg n2, if_neg n3, if_pos k4])
          clear n1 n2 n3 k4
          go_enter Tryz.func13, Tryz.ntmps13
          go_wp2_with fail
          refine (unhide HS _).mono ?_
          rintro e w1 ⟨rfl, b1⟩
          have hf := five_below (five_new w 28 (.int .i64 v.kind) (.int .i64 v.num) (.string v.text) (.bool v.tr) (.int .i64 v.fail)) b1 (by simp)
          have HB := hide (below_five ((below_al w (.cells #[.int .i64 v.kind, .int .i64 v.num, .string v.text, .bool v.tr, .int .i64 v.fail] 28)).trans (b1.mono (by simp))) (Nat.le_refl _) (.int .i64 u.kind) (.int .i64 u.num) (.string u.text) (.bool u.tr) (.int .i64 u.fail))
          have HF := hide (five_set hf (.int .i64 u.kind) (.int .i64 u.num) (.string u.text) (.bool u.tr) (.int .i64 u.fail))
          obtain ⟨x0, c0⟩ := five_c hf 0 (by omega)
          obtain ⟨x1, c1⟩ := five_c hf 1 (by omega)
          obtain ⟨x2, c2⟩ := five_c hf 2 (by omega)
          obtain ⟨x3, c3⟩ := five_c hf 3 (by omega)
          obtain ⟨x4, c4⟩ := five_c hf 4 (by omega)
          have f0 := five_f hf 0
          have f1 := five_f hf 1
          have f2 := five_f hf 2
          have f3 := five_f hf 3
          have f4 := five_f hf 4
          clear hf b1
          go_wp2_with fail
          refine (sign_b u.fail _ ((unhide HE).below (unhide HB))).mono ?_
          rintro e w2 ⟨rfl, b2⟩
          have HB2 := hide (below_nx (unhide HB) b2)
          clear b2
          go_wp2
          go_ret
          exact ⟨by rw [unhide E]; rfl, unhide HB2⟩
      · have k3 : u.kind = 3 := by rw [beq_iff_eq] at h3; exact h3
        have E : Hid (showV u = (if u.tr = true then (⟨#[84, 82, 85, 69]⟩ : ByteArray) else ⟨#[70, 65, 76, 83, 69]⟩)) := hide (by unfold showV; rw [if_neg n1, if_neg n2, if_pos k3])
        clear n1 n2 k3
        cases hb : u.tr
        · have E2 : Hid (showV u = (⟨#[70, 65, 76, 83, 69]⟩ : ByteArray)) := hide (by rw [unhide E, hb]; rfl)
          go_enter Tryz.func13, Tryz.ntmps13
          go_wp2_with fail
          refine (unhide HS _).mono ?_
          rintro e w1 ⟨rfl, b1⟩
          have hf := five_below (five_new w 28 (.int .i64 v.kind) (.int .i64 v.num) (.string v.text) (.bool v.tr) (.int .i64 v.fail)) b1 (by simp)
          have HB := hide (below_five ((below_al w (.cells #[.int .i64 v.kind, .int .i64 v.num, .string v.text, .bool v.tr, .int .i64 v.fail] 28)).trans (b1.mono (by simp))) (Nat.le_refl _) (.int .i64 u.kind) (.int .i64 u.num) (.string u.text) (.bool u.tr) (.int .i64 u.fail))
          have HF := hide (five_set hf (.int .i64 u.kind) (.int .i64 u.num) (.string u.text) (.bool u.tr) (.int .i64 u.fail))
          obtain ⟨x0, c0⟩ := five_c hf 0 (by omega)
          obtain ⟨x1, c1⟩ := five_c hf 1 (by omega)
          obtain ⟨x2, c2⟩ := five_c hf 2 (by omega)
          obtain ⟨x3, c3⟩ := five_c hf 3 (by omega)
          obtain ⟨x4, c4⟩ := five_c hf 4 (by omega)
          have f0 := five_f hf 0
          have f1 := five_f hf 1
          have f2 := five_f hf 2
          have f3 := five_f hf 3
          have f4 := five_f hf 4
          clear hf b1
          rw [hb] at HB HF
          go_wp2
          go_ret
          exact ⟨by rw [unhide E2]; rfl, unhide HB⟩
        · have E2 : Hid (showV u = (⟨#[84, 82, 85, 69]⟩ : ByteArray)) := hide (by rw [unhide E, hb]; rfl)
          go_enter Tryz.func13, Tryz.ntmps13
          go_wp2_with fail
          refine (unhide HS _).mono ?_
          rintro e w1 ⟨rfl, b1⟩
          have hf := five_below (five_new w 28 (.int .i64 v.kind) (.int .i64 v.num) (.string v.text) (.bool v.tr) (.int .i64 v.fail)) b1 (by simp)
          have HB := hide (below_five ((below_al w (.cells #[.int .i64 v.kind, .int .i64 v.num, .string v.text, .bool v.tr, .int .i64 v.fail] 28)).trans (b1.mono (by simp))) (Nat.le_refl _) (.int .i64 u.kind) (.int .i64 u.num) (.string u.text) (.bool u.tr) (.int .i64 u.fail))
          have HF := hide (five_set hf (.int .i64 u.kind) (.int .i64 u.num) (.string u.text) (.bool u.tr) (.int .i64 u.fail))
          obtain ⟨x0, c0⟩ := five_c hf 0 (by omega)
          obtain ⟨x1, c1⟩ := five_c hf 1 (by omega)
          obtain ⟨x2, c2⟩ := five_c hf 2 (by omega)
          obtain ⟨x3, c3⟩ := five_c hf 3 (by omega)
          obtain ⟨x4, c4⟩ := five_c hf 4 (by omega)
          have f0 := five_f hf 0
          have f1 := five_f hf 1
          have f2 := five_f hf 2
          have f3 := five_f hf 3
          have f4 := five_f hf 4
          clear hf b1
          rw [hb] at HB HF
          go_wp2
          go_ret
          exact ⟨by rw [unhide E2]; rfl, unhide HB⟩
    · have k2 : u.kind = 2 := by rw [beq_iff_eq] at h2; exact h2
      have E : Hid (showV u = u.text) := hide (by unfold showV; rw [if_neg n1, if_pos k2])
      clear n1 k2
      go_enter Tryz.func13, Tryz.ntmps13
      go_wp2_with fail
      refine (unhide HS _).mono ?_
      rintro e w1 ⟨rfl, b1⟩
      have hf := five_below (five_new w 28 (.int .i64 v.kind) (.int .i64 v.num) (.string v.text) (.bool v.tr) (.int .i64 v.fail)) b1 (by simp)
      have HB := hide (below_five ((below_al w (.cells #[.int .i64 v.kind, .int .i64 v.num, .string v.text, .bool v.tr, .int .i64 v.fail] 28)).trans (b1.mono (by simp))) (Nat.le_refl _) (.int .i64 u.kind) (.int .i64 u.num) (.string u.text) (.bool u.tr) (.int .i64 u.fail))
      have HF := hide (five_set hf (.int .i64 u.kind) (.int .i64 u.num) (.string u.text) (.bool u.tr) (.int .i64 u.fail))
      obtain ⟨x0, c0⟩ := five_c hf 0 (by omega)
      obtain ⟨x1, c1⟩ := five_c hf 1 (by omega)
      obtain ⟨x2, c2⟩ := five_c hf 2 (by omega)
      obtain ⟨x3, c3⟩ := five_c hf 3 (by omega)
      obtain ⟨x4, c4⟩ := five_c hf 4 (by omega)
      have f0 := five_f hf 0
      have f1 := five_f hf 1
      have f2 := five_f hf 2
      have f3 := five_f hf 3
      have f4 := five_f hf 4
      clear hf b1
      go_wp2
      go_ret
      exact ⟨by rw [unhide E]; rfl, unhide HB⟩
  · have k1 : u.kind = 1 := by rw [beq_iff_eq] at h1; exact h1
    have E : Hid (showV u = (⟨(textL u.num).toArray⟩ : ByteArray)) := hide (by unfold showV; rw [if_pos k1])
    clear k1
    go_enter Tryz.func13, Tryz.ntmps13
    go_wp2_with fail
    refine (unhide HS _).mono ?_
    rintro e w1 ⟨rfl, b1⟩
    have hf := five_below (five_new w 28 (.int .i64 v.kind) (.int .i64 v.num) (.string v.text) (.bool v.tr) (.int .i64 v.fail)) b1 (by simp)
    have HB := hide (below_five ((below_al w (.cells #[.int .i64 v.kind, .int .i64 v.num, .string v.text, .bool v.tr, .int .i64 v.fail] 28)).trans (b1.mono (by simp))) (Nat.le_refl _) (.int .i64 u.kind) (.int .i64 u.num) (.string u.text) (.bool u.tr) (.int .i64 u.fail))
    have HF := hide (five_set hf (.int .i64 u.kind) (.int .i64 u.num) (.string u.text) (.bool u.tr) (.int .i64 u.fail))
    obtain ⟨x0, c0⟩ := five_c hf 0 (by omega)
    obtain ⟨x1, c1⟩ := five_c hf 1 (by omega)
    obtain ⟨x2, c2⟩ := five_c hf 2 (by omega)
    obtain ⟨x3, c3⟩ := five_c hf 3 (by omega)
    obtain ⟨x4, c4⟩ := five_c hf 4 (by omega)
    have f0 := five_f hf 0
    have f1 := five_f hf 1
    have f2 := five_f hf 2
    have f3 := five_f hf 3
    have f4 := five_f hf 4
    clear hf b1
    go_wp2_with fail
    refine (text_any u.num _ ((unhide HE).below (unhide HB)).tab).mono ?_
    rintro e w2 ⟨rfl, b2⟩
    have HB2 := hide (below_nx (unhide HB) b2)
    clear b2
    go_wp2
    go_ret
    exact ⟨by rw [unhide E]; rfl, unhide HB2⟩
end Go.Proofs.YteaodfeaidjcnaaGreatDoor
