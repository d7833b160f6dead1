/- The contracts of the program's Trim of blanks and AsNum, of layer 3. -/
import Derived.Test.YteaodfeaidjcnaaGreatDoorVpF
import Derived.Test.YteaodfeaidjcnaaGreatDoorVrY
import Derived.Test.YteaodfeaidjcnaaGreatDoorShelf
import Derived.Lib.TrimByte
namespace Go.Proofs.YteaodfeaidjcnaaGreatDoor
open Go.RowKit

theorem sound_good (v : Vl) : vGood (vSound v) = true := by
  unfold vSound
  cases h : vGood v
  · rw [if_neg (by decide), vE_in 3 (by omega), vGood4, noText_list]; rfl
  · rw [if_pos rfl]; exact h
theorem num_zero (u : Vl) (h : vGood u = true) (hk : u.kind ≠ 1) : u.num = 0 := by
  obtain ⟨k, n, s, b, f⟩ := u
  simp only [] at hk ⊢
  by_cases k0 : k = 0
  · subst k0; rw [vGood0] at h; simp at h; exact h.1.1.1
  · by_cases k2 : k = 2
    · subst k2; rw [vGood2] at h; simp at h; exact h.1.1.1
    · by_cases k3 : k = 3
      · subst k3; rw [vGood3] at h; simp at h; exact h.1.1
      · by_cases k4 : k = 4
        · subst k4; rw [vGood4] at h; simp at h; exact h.1.1.1.1
        · rw [good_else k n s b f k0 hk k2 k3 k4] at h; cases h
def dR (p : UInt8 → Bool) (l : List UInt8) : List UInt8 := (l.reverse.dropWhile p).reverse
theorem dR_cons (p : UInt8 → Bool) (a : UInt8) (l : List UInt8) : dR p (a :: l) = if dR p l = [] then (if p a = true then [] else [a]) else a :: dR p l := by
  unfold dR
  rw [List.reverse_cons, List.dropWhile_append]
  by_cases h : List.dropWhile p l.reverse = []
  · rw [h]; cases hp : p a <;> simp [hp]
  · rw [if_neg (by simpa using h), if_neg (by simpa using h)]; simp
theorem dR_comm (p : UInt8 → Bool) (l : List UInt8) : (dR p l).dropWhile p = dR p (l.dropWhile p) := by
  induction l with
  | nil => rfl
  | cons a l ih =>
    rw [dR_cons]
    cases hp : p a
    · rw [List.dropWhile_cons_of_neg (by simp [hp]), dR_cons, hp]
      by_cases h : dR p l = []
      · rw [if_pos h, if_neg (by decide), List.dropWhile_cons_of_neg (by simp [hp])]
      · rw [if_neg h, List.dropWhile_cons_of_neg (by simp [hp])]
    · rw [List.dropWhile_cons_of_pos hp, if_pos rfl]
      by_cases h : dR p l = []
      · rw [if_pos h, ← ih, h]
      · rw [if_neg h, List.dropWhile_cons_of_pos hp, ih]
theorem is32 : (fun c : UInt8 => c == 32) = (fun c : UInt8 => c.toNat == 32) := by
  funext c
  by_cases h : c = 32
  · subst h; rfl
  · rw [beq_eq_false_iff_ne.mpr h, Eq.comm, beq_eq_false_iff_ne]
    intro h2; exact h (UInt8.toNat_inj.mp h2)
theorem trim_bare (s : ByteArray) : (⟨(Lib.trimB s.data.toList 32).toArray⟩ : ByteArray) = bareV s := by
  unfold bareV Lib.trimB Lib.trimLeftB Lib.trimRightB dl
  have h := dR_comm (fun c : UInt8 => c == 32) s.data.toList
  unfold dR at h
  rw [h, is32]

theorem trim_val (s : ByteArray) (w : World) (hs : s.size ≤ 1000000) :
    Calls Tryz.prog 24 #[.string s, .string ⟨#[32]⟩] w fun e w' => e = .returned (.string (bareV s)) ∧ Below w.heap.size w w' := by
  refine (Tryz.strings_Trim_one s 32 (by decide) w (by omega)).mono ?_
  rintro e w' ⟨rfl, hw⟩
  refine ⟨by rw [trim_bare], ?_⟩
  rcases hw with rfl | rfl
  · exact Below.refl _ _
  · exact (Below.refl _ _).drew

set_option maxRecDepth 100000 in
set_option maxHeartbeats 4000000 in
theorem asnum_val (v : Vl) (w : World) (hs : v.text.size ≤ 1000) (he : Env3 w) :
    Calls Tryz.prog 6 #[.agg v.cells] w fun e w' => e = .returned (.tuple #[.int .i64 (asNumV (vSound v)).1, .int .i64 (asNumV (vSound v)).2]) ∧ Below w.heap.size w w' := by
  have HE := hide he
  clear he
  obtain ⟨u, hu⟩ : ∃ u, vSound v = u := ⟨_, rfl⟩
  have HS := hide (fun w => counted_val v w (by omega))
  have HTX : Hid (u.text.size ≤ 1000) := hide (by rw [← hu]; exact sound_size2 v hs)
  have HG : Hid (vGood u = true) := hide (by rw [← hu]; exact sound_good v)
  rw [hu] at HS ⊢
  clear hu
  unfold Vl.cells at HS ⊢
  cases h2 : (u.kind == 2)
  · have n2 : u.kind ≠ 2 := by rw [beq_eq_false_iff_ne] at h2; exact h2
    cases h3 : (u.kind == 3)
    · have n3 : u.kind ≠ 3 := by rw [beq_eq_false_iff_ne] at h3; exact h3
      cases h4 : (u.kind == 4)
      · have n4 : u.kind ≠ 4 := by rw [beq_eq_false_iff_ne] at h4; exact h4
        have E : Hid (asNumV u = (u.num, 0)) := hide (by
          unfold asNumV
          by_cases n1 : u.kind = 1
          · rw [if_pos n1]
          · rw [if_neg n1, if_neg n2, if_neg n3, if_neg n4, num_zero u (unhide HG) n1])
        clear n2 n3 n4
        go_enter Tryz.func6, Tryz.ntmps6
        go_wp2_with fail
        refine (unhide HS _).mono ?_
        rintro e w1 ⟨rfl, b1⟩
        have hf := five_below (five_new w 28 (.int .i64 v.kind) (.int .i64 v.num) (.string v.text) (.bool v.tr) (.int .i64 v.fail)) b1 (by simp)
        have HB := hide (below_five ((below_al w (.cells #[.int .i64 v.kind, .int .i64 v.num, .string v.text, .bool v.tr, .int .i64 v.fail] 28)).trans (b1.mono (by simp))) (Nat.le_refl _) (.int .i64 u.kind) (.int .i64 u.num) (.string u.text) (.bool u.tr) (.int .i64 u.fail))
        have HF := hide (five_set hf (.int .i64 u.kind) (.int .i64 u.num) (.string u.text) (.bool u.tr) (.int .i64 u.fail))
        obtain ⟨x0, c0⟩ := five_c hf 0 (by omega)
        obtain ⟨x1, c1⟩ := five_c hf 1 (by omega)
        obtain ⟨x2, c2⟩ := five_c hf 2 (by omega)
        obtain ⟨x3, c3⟩ := five_c hf 3 (by omega)
        obtain ⟨x4, c4⟩ := five_c hf 4 (by omega)
        have f0 := five_f hf 0
        have f1 := five_f hf 1
        have f2 := five_f hf 2
        have f3 := five_f hf 3
        have f4 := five_f hf 4
        clear hf b1
        go_wp2
        try go_region
        all_goals (try go_wp2_with fail)
        all_goals go_ret2
        all_goals first | exact ⟨pair_n (unhide E), unhide HB⟩ | exact ⟨pair_n (unhide E), (unhide HB).drew⟩
      · have k4 : u.kind = 4 := by rw [beq_iff_eq] at h4; exact h4
        have E : Hid (asNumV u = (0, u.fail)) := hide (by unfold asNumV; rw [if_neg (by omega), if_neg n2, if_neg n3, if_pos k4])
        clear n2 n3 k4
        go_enter Tryz.func6, Tryz.ntmps6
        go_wp2_with fail
        refine (unhide HS _).mono ?_
        rintro e w1 ⟨rfl, b1⟩
        have hf := five_below (five_new w 28 (.int .i64 v.kind) (.int .i64 v.num) (.string v.text) (.bool v.tr) (.int .i64 v.fail)) b1 (by simp)
        have HB := hide (below_five ((below_al w (.cells #[.int .i64 v.kind, .int .i64 v.num, .string v.text, .bool v.tr, .int .i64 v.fail] 28)).trans (b1.mono (by simp))) (Nat.le_refl _) (.int .i64 u.kind) (.int .i64 u.num) (.string u.text) (.bool u.tr) (.int .i64 u.fail))
        have HF := hide (five_set hf (.int .i64 u.kind) (.int .i64 u.num) (.string u.text) (.bool u.tr) (.int .i64 u.fail))
        obtain ⟨x0, c0⟩ := five_c hf 0 (by omega)
        obtain ⟨x1, c1⟩ := five_c hf 1 (by omega)
        obtain ⟨x2, c2⟩ := five_c hf 2 (by omega)
        obtain ⟨x3, c3⟩ := five_c hf 3 (by omega)
        obtain ⟨x4, c4⟩ := five_c hf 4 (by omega)
        have f0 := five_f hf 0
        have f1 := five_f hf 1
        have f2 := five_f hf 2
        have f3 := five_f hf 3
        have f4 := five_f hf 4
        clear hf b1
        go_wp2
        try go_region
        all_goals (try go_wp2_with fail)
        all_goals go_ret2
        all_goals first | exact ⟨pair_n (unhide E), unhide HB⟩ | exact ⟨pair_n (unhide E), (unhide HB).drew⟩
    · have k3 : u.kind = 3 := by rw [beq_iff_eq] at h3; exact h3
      have E : Hid (asNumV u = (if u.tr = true then 10000 else 0, 0)) := hide (by unfold asNumV; rw [if_neg (by omega), if_neg n2, if_pos k3])
      have HN : Hid (u.num = 0) := hide (num_zero u (unhide HG) (by omega))
      clear n2 k3
      cases hb : u.tr
      · replace E : Hid (asNumV u = (u.num, 0)) := hide (by rw [unhide E, hb, unhide HN]; rfl)
        go_enter Tryz.func6, Tryz.ntmps6
        go_wp2_with fail
        refine (unhide HS _).mono ?_
        rintro e w1 ⟨rfl, b1⟩
        have hf := five_below (five_new w 28 (.int .i64 v.kind) (.int .i64 v.num) (.string v.text) (.bool v.tr) (.int .i64 v.fail)) b1 (by simp)
        have HB := hide (below_five ((below_al w (.cells #[.int .i64 v.kind, .int .i64 v.num, .string v.text, .bool v.tr, .int .i64 v.fail] 28)).trans (b1.mono (by simp))) (Nat.le_refl _) (.int .i64 u.kind) (.int .i64 u.num) (.string u.text) (.bool u.tr) (.int .i64 u.fail))
        have HF := hide (five_set hf (.int .i64 u.kind) (.int .i64 u.num) (.string u.text) (.bool u.tr) (.int .i64 u.fail))
        obtain ⟨x0, c0⟩ := five_c hf 0 (by omega)
        obtain ⟨x1, c1⟩ := five_c hf 1 (by omega)
        obtain ⟨x2, c2⟩ := five_c hf 2 (by omega)
        obtain ⟨x3, c3⟩ := five_c hf 3 (by omega)
        obtain ⟨x4, c4⟩ := five_c hf 4 (by omega)
        have f0 := five_f hf 0
        have f1 := five_f hf 1
        have f2 := five_f hf 2
        have f3 := five_f hf 3
        have f4 := five_f hf 4
        clear hf b1
        rw [hb] at HB HF
        go_wp2
        try go_region
        all_goals (try go_wp2_with fail)
        all_goals go_ret2
        all_goals first | exact ⟨pair_n (unhide E), unhide HB⟩ | exact ⟨pair_n (unhide E), (unhide HB).drew⟩
      · rw [hb] at E
        go_enter Tryz.func6, Tryz.ntmps6
        go_wp2_with fail
        refine (unhide HS _).mono ?_
        rintro e w1 ⟨rfl, b1⟩
        have hf := five_below (five_new w 28 (.int .i64 v.kind) (.int .i64 v.num) (.string v.text) (.bool v.tr) (.int .i64 v.fail)) b1 (by simp)
        have HB := hide (below_five ((below_al w (.cells #[.int .i64 v.kind, .int .i64 v.num, .string v.text, .bool v.tr, .int .i64 v.fail] 28)).trans (b1.mono (by simp))) (Nat.le_refl _) (.int .i64 u.kind) (.int .i64 u.num) (.string u.text) (.bool u.tr) (.int .i64 u.fail))
        have HF := hide (five_set hf (.int .i64 u.kind) (.int .i64 u.num) (.string u.text) (.bool u.tr) (.int .i64 u.fail))
        obtain ⟨x0, c0⟩ := five_c hf 0 (by omega)
        obtain ⟨x1, c1⟩ := five_c hf 1 (by omega)
        obtain ⟨x2, c2⟩ := five_c hf 2 (by omega)
        obtain ⟨x3, c3⟩ := five_c hf 3 (by omega)
        obtain ⟨x4, c4⟩ := five_c hf 4 (by omega)
        have f0 := five_f hf 0
        have f1 := five_f hf 1
        have f2 := five_f hf 2
        have f3 := five_f hf 3
        have f4 := five_f hf 4
        clear hf b1
        rw [hb] at HB HF
        go_wp2
        try go_region
        all_goals (try go_wp2_with fail)
        all_goals go_ret2
        all_goals first | exact ⟨pair_n (unhide E), unhide HB⟩ | exact ⟨pair_n (unhide E), (unhide HB).drew⟩
  · have k2 : u.kind = 2 := by rw [beq_iff_eq] at h2; exact h2
    have E : Hid (asNumV u = (if ((parseR (bareV u.text).data.toList).2 != 0) = true then (0, 3) else ((parseR (bareV u.text).data.toList).1, 0))) := hide (by unfold asNumV; rw [if_neg (by omega), if_pos k2])
    clear k2
    go_enter Tryz.func6, Tryz.ntmps6
    go_wp2_with fail
    refine (unhide HS _).mono ?_
    rintro e w1 ⟨rfl, b1⟩
    have hf := five_below (five_new w 28 (.int .i64 v.kind) (.int .i64 v.num) (.string v.text) (.bool v.tr) (.int .i64 v.fail)) b1 (by simp)
    have HB := hide (below_five ((below_al w (.cells #[.int .i64 v.kind, .int .i64 v.num, .string v.text, .bool v.tr, .int .i64 v.fail] 28)).trans (b1.mono (by simp))) (Nat.le_refl _) (.int .i64 u.kind) (.int .i64 u.num) (.string u.text) (.bool u.tr) (.int .i64 u.fail))
    have HF := hide (five_set hf (.int .i64 u.kind) (.int .i64 u.num) (.string u.text) (.bool u.tr) (.int .i64 u.fail))
    obtain ⟨x0, c0⟩ := five_c hf 0 (by omega)
    obtain ⟨x1, c1⟩ := five_c hf 1 (by omega)
    obtain ⟨x2, c2⟩ := five_c hf 2 (by omega)
    obtain ⟨x3, c3⟩ := five_c hf 3 (by omega)
    obtain ⟨x4, c4⟩ := five_c hf 4 (by omega)
    have f0 := five_f hf 0
    have f1 := five_f hf 1
    have f2 := five_f hf 2
    have f3 := five_f hf 3
    have f4 := five_f hf 4
    clear hf b1
    go_wp2_with fail
    refine (trim_val u.text _ (by have := unhide HTX; omega)).mono ?_
    rintro e w2 ⟨rfl, b2⟩
    replace HB := hide (below_nx (unhide HB) b2)
    clear b2
    go_wp2_with fail
    refine (parse_any (bareV u.text) _ (by have := unhide HTX; have := bare_size u.text; omega) ((unhide HE).below (unhide HB)).len).mono ?_
    rintro e w3 ⟨rfl, b3⟩
    replace HB := hide (below_nx (unhide HB) b3)
    clear b3
    obtain ⟨r, hr⟩ : ∃ r, parseR (bareV u.text).data.toList = r := ⟨_, rfl⟩
    rw [hr] at E ⊢
    clear hr
    obtain ⟨p, q⟩ := r
    simp only [] at E ⊢
    cases e1 : (q != 0)
    · rw [e1] at E
      go_wp2
      try go_region
      all_goals (try go_wp2_with fail)
      all_goals go_ret2
      all_goals first | exact ⟨pair_n (unhide E), unhide HB⟩ | exact ⟨pair_n (unhide E), (unhide HB).drew⟩
    · rw [e1] at E
      go_wp2
      try go_region
      all_goals (try go_wp2_with fail)
      all_goals go_ret2
      all_goals first | exact ⟨pair_n (unhide E), unhide HB⟩ | exact ⟨pair_n (unhide E), (unhide HB).drew⟩
end Go.Proofs.YteaodfeaidjcnaaGreatDoor
