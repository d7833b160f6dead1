/- The contracts of the program's Trim of blanks and AsNum, of layer 3. -/
import Derived.BigQuiet
import Derived.BigRegion
import Derived.Deep.CutBlock
import Derived.Deep.CutRange
import Derived.Deep.DeepFit
import Derived.Deep.QuietTactic
import Derived.Deep.RegionWith
import Derived.Laws.Bits64b
import Derived.Laws.IdiomStrings
import Derived.Laws.Rows
import Derived.Laws.StructEq
import Derived.Lib.BitFns
import Derived.Lib.IndexBytes
import Derived.Lib.ItoaMem
import Derived.Lib.ItoaNum
import Derived.Lib.TrimByte
import Derived.Lib.Walk
import Derived.Shelf.Bits.Mul64
import Derived.Shelf.LaysM
import Derived.Shelf.Small.Bits
import Derived.Shelf.Small.Strs
import Derived.Shelf.Small.Wraps
import Derived.Shelf.Strconv.Itoa0
import Derived.Shelf.Strconv.Itoa1
import Derived.Shelf.Strconv.Itoa2
import Derived.Shelf.Strings.AsciiSet
import Derived.Shelf.Strings.Cut
import Derived.Shelf.Strings.Prefix
import Derived.Shelf.Strings.Search1
import Derived.Shelf.Strings.Search2
import Derived.Shelf.Strings.Shaped
import Derived.Shelf.Strings.Trim
import Derived.Test.YtbeijnflfmjgfaaGreatDoorProg
import Derived.Test.YtbeijnflfmjgfaaGreatDoorRows
import Derived.WalkKit
import Derived.WalkLawsBesides
import Derived.WalkSmall
import Derived.WalkSpells
import Derived.Test.YtbeijnflfmjgfaaGreatDoorZnAA
import Derived.Test.YtbeijnflfmjgfaaGreatDoorZnAB
import Derived.Test.YtbeijnflfmjgfaaGreatDoorZnAC
import Derived.Test.YtbeijnflfmjgfaaGreatDoorZnAD
import Derived.Test.YtbeijnflfmjgfaaGreatDoorZnAE
import Derived.Test.YtbeijnflfmjgfaaGreatDoorZnAF
import Derived.Test.YtbeijnflfmjgfaaGreatDoorZnAG
import Derived.Test.YtbeijnflfmjgfaaGreatDoorZnAH
import Derived.Test.YtbeijnflfmjgfaaGreatDoorZnAK
import Derived.Test.YtbeijnflfmjgfaaGreatDoorZnAI
namespace Go.Proofs.YtbeijnflfmjgfaaGreatDoor
open Go.RowKit

theorem sound_good (v : Vl) : vGood (vSound v) = true := by
  unfold vSound
  cases h : vGood v
  · rw [if_neg (by decide), vE_in 3 (by omega), vGood4, noText_list]; rfl
  · rw [if_pos rfl]; exact h
theorem num_zero (u : Vl) (h : vGood u = true) (hk : u.kind ≠ 1) : u.num = 0 := by
  obtain ⟨k, n, s, b, f⟩ := u
  simp only [] at hk ⊢
  by_cases k0 : k = 0
  · subst k0; rw [vGood0] at h; simp at h; exact h.1.1.1
  · by_cases k2 : k = 2
    · subst k2; rw [vGood2] at h; simp at h; exact h.1.1.1
    · by_cases k3 : k = 3
      · subst k3; rw [vGood3] at h; simp at h; exact h.1.1
      · by_cases k4 : k = 4
        · subst k4; rw [vGood4] at h; simp at h; exact h.1.1.1.1
        · rw [good_else k n s b f k0 hk k2 k3 k4] at h; cases h
def dR (p : UInt8 → Bool) (l : List UInt8) : List UInt8 := (l.reverse.dropWhile p).reverse
theorem dR_cons (p : UInt8 → Bool) (a : UInt8) (l : List UInt8) : dR p (a :: l) = if dR p l = [] then (if p a = true then [] else [a]) else a :: dR p l := by
  unfold dR
  rw [List.reverse_cons, List.dropWhile_append]
  by_cases h : List.dropWhile p l.reverse = []
  · rw [h]; cases hp : p a <;> simp [hp]
  · rw [if_neg (by simpa using h), if_neg (by simpa using h)]; simp
theorem dR_comm (p : UInt8 → Bool) (l : List UInt8) : (dR p l).dropWhile p = dR p (l.dropWhile p) := by
  induction l with
  | nil => rfl
  | cons a l ih =>
    rw [dR_cons]
    cases hp : p a
    · rw [List.dropWhile_cons_of_neg (by simp [hp]), dR_cons, hp]
      by_cases h : dR p l = []
      · rw [if_pos h, if_neg (by decide), List.dropWhile_cons_of_neg (by simp [hp])]
      · rw [if_neg h, List.dropWhile_cons_of_neg (by simp [hp])]
    · rw [List.dropWhile_cons_of_pos hp, if_pos rfl]
      by_cases h : dR p l = []
      · rw [if_pos h, ← ih, h]
      · rw [if_neg h, List.dropWhile_cons_of_pos hp, ih]
theorem is32 : (fun c : UInt8 => c == 32) = (fun c : UInt8 => c.toNat == 32) := by
  funext c
  by_cases h : c = 32
  · subst h; rfl
  · rw [beq_eq_false_iff_ne.mpr h, Eq.comm, beq_eq_false_iff_ne]
    intro h2; exact h (UInt8.toNat_inj.mp h2)
theorem trim_bare (s : ByteArray) : (⟨(Lib.trimB s.data.toList 32).toArray⟩ : ByteArray) = bareV s := by
  unfold bareV Lib.trimB Lib.trimLeftB Lib.trimRightB dl
  have h := dR_comm (fun c : UInt8 => c == 32) s.data.toList
  unfold dR at h
  rw [h, is32]

theorem trim_val (s : ByteArray) (w : World) (hs : s.size ≤ 1000000) :
    Calls Tryz.prog 118 #[.string s, .string ⟨#[32]⟩] w fun e w' => e = .returned (.string (bareV s)) ∧ Below w.heap.size w w' := by
  refine (Tryz.strings_Trim_one s 32 (by decide) w (by omega)).mono ?_
  rintro e w' ⟨rfl, hw⟩
  refine ⟨by rw [trim_bare], ?_⟩
  rcases hw with rfl | rfl
  · exact Below.refl _ _
  · exact (Below.refl _ _).drew

set_option maxRecDepth 100000 in
set_option maxHeartbeats 4000000 in
theorem asnum_val (v : Vl) (w : World) (hs : v.text.size ≤ 1000) (he : Env3 w) :
    Calls Tryz.prog 63 #[.agg v.cells] w fun e w' => e = .returned (.tuple #[.int .i64 (asNumV (vSound v)).1, .int .i64 (asNumV (vSound v)).2]) ∧ Below w.heap.size w w' := by
  have HE := hide he
  clear he
  obtain ⟨u, hu⟩ : ∃ u, vSound v = u := ⟨_, rfl⟩
  have HS := hide (fun w => counted_val v w (by omega))
  have HTX : Hid (u.text.size ≤ 1000) := hide (by rw [← hu]; exact sound_size2 v hs)
  have HG : Hid (vGood u = true) := hide (by rw [← hu]; exact sound_good v)
  rw [hu] at HS ⊢
  clear hu
  unfold Vl.cells at HS ⊢
  cases h2 : (u.kind == 2)
  · have n2 : u.kind ≠ 2 := by rw [beq_eq_false_iff_ne] at h2; exact h2
    cases h3 : (u.kind == 3)
    · have n3 : u.kind ≠ 3 := by rw [beq_eq_false_iff_ne] at h3; exact h3
      cases h4 : (u.kind == 4)
      · have n4 : u.kind ≠ 4 := by rw [beq_eq_false_iff_ne] at h4; exact h4
        have E : Hid (asNumV u = (u.num, 0)) := hide (by
          unfold asNumV
          by_cases n1 : u.kind = 1
          · rw [if_pos n1]
          · rw [if_neg n1, if_neg n2, if_neg n3, if_neg n4, num_zero u (unhide HG) n1])
        clear n2 n3 n4
        go_enter Tryz.func63, Tryz.ntmps63
        go_wp2_with fail
        refine (unhide HS _).mono ?_
        rintro e w1 ⟨rfl, b1⟩
        have hf := five_below (five_new w 28 (.int .i64 v.kind) (.int .i64 v.num) (.string v.text) (.bool v.tr) (.int .i64 v.fail)) b1 (by simp)
        have HB := hide (below_five ((below_al w (.cells #[.int .i64 v.kind, .int .i64 v.num, .string v.text, .bool v.tr, .int .i64 v.fail] 28)).trans (b1.mono (by simp))) (Nat.le_refl _) (.int .i64 u.kind) (.int .i64 u.num) (.string u.text) (.bool u.tr) (.int .i64 u.fail))
        have HF := hide (five_set hf (.int .i64 u.kind) (.int .i64 u.num) (.string u.text) (.bool u.tr) (.int .i64 u.fail))
        obtain ⟨x0, c0⟩ := five_c hf 0 (by omega)
        obtain ⟨x1, c1⟩ := five_c hf 1 (by omega)
        obtain ⟨x2, c2⟩ := five_c hf 2 (by omega)
        obtain ⟨x3, c3⟩ := five_c hf 3 (by omega)
        obtain ⟨x4, c4⟩ := five_c hf 4 (by omega)
        have f0 := five_f hf 0
        have f1 := five_f hf 1
        have f2 := five_f hf 2
        have f3 := five_f hf 3
        have f4 := five_f hf 4
        clear hf b1
        go_wp2
        try go_region
        all_goals (try go_wp2_with fail)
        all_goals go_ret2
        all_goals first | exact ⟨pair_n (unhide E), unhide HB⟩ | exact ⟨pair_n (unhide E), (unhide HB).drew⟩
      · have k4 : u.kind = 4 := by rw [beq_iff_eq] at h4; exact h4
        have E : Hid (asNumV u = (0, u.fail)) := hide (by unfold asNumV; rw [if_neg (by omega), if_neg n2, if_neg n3, if_pos k4])
        clear n2 n3 k4
        go_enter Tryz.func63, Tryz.ntmps63
        go_wp2_with fail
        refine (unhide HS _).mono ?_
        rintro e w1 ⟨rfl, b1⟩
        have hf := five_below (five_new w 28 (.int .i64 v.kind) (.int .i64 v.num) (.string v.text) (.bool v.tr) (.int .i64 v.fail)) b1 (by simp)
        have HB := hide (below_five ((below_al w (.cells #[.int .i64 v.kind, .int .i64 v.num, .string v.text, .bool v.tr, .int .i64 v.fail] 28)).trans (b1.mono (by simp))) (Nat.le_refl _) (.int .i64 u.kind) (.int .i64 u.num) (.string u.text) (.bool u.tr) (.int .i64 u.fail))
        have HF := hide (five_set hf (.int .i64 u.kind) (.int .i64 u.num) (.string u.text) (.bool u.tr) (.int .i64 u.fail))
        obtain ⟨x0, c0⟩ := five_c hf 0 (by omega)
        obtain ⟨x1, c1⟩ := five_c hf 1 (by omega)
        obtain ⟨x2, c2⟩ := five_c hf 2 (by omega)
        obtain ⟨x3, c3⟩ := five_c hf 3 (by omega)
        obtain ⟨x4, c4⟩ := five_c hf 4 (by omega)
        have f0 := five_f hf 0
        have f1 := five_f hf 1
        have f2 := five_f hf 2
        have f3 := five_f hf 3
        have f4 := five_f hf 4
        clear hf b1
        go_wp2
        try go_region
        all_goals (try go_wp2_with fail)
        all_goals go_ret2
        all_goals first | exact ⟨pair_n (unhide E), unhide HB⟩ | exact ⟨pair_n (unhide E), (unhide HB).drew⟩
    · have k3 : u.kind = 3 := by rw [beq_iff_eq] at h3; exact h3
      have E : Hid (asNumV u = (if u.tr = true then 10000 else 0, 0)) := hide (by unfold asNumV; rw [if_neg (by omega), if_neg n2, if_pos k3])
      have HN : Hid (u.num = 0) := hide (num_zero u (unhide HG) (by omega))
      clear n2 k3
      cases hb : u.tr
      · replace E : Hid (asNumV u = (u.num, 0)) := hide (by rw [unhide E, hb, unhide HN]; rfl)
        go_enter Tryz.func63, Tryz.ntmps63
        go_wp2_with fail
        refine (unhide HS _).mono ?_
        rintro e w1 ⟨rfl, b1⟩
        have hf := five_below (five_new w 28 (.int .i64 v.kind) (.int .i64 v.num) (.string v.text) (.bool v.tr) (.int .i64 v.fail)) b1 (by simp)
        have HB := hide (below_five ((below_al w (.cells #[.int .i64 v.kind, .int .i64 v.num, .string v.text, .bool v.tr, .int .i64 v.fail] 28)).trans (b1.mono (by simp))) (Nat.le_refl _) (.int .i64 u.kind) (.int .i64 u.num) (.string u.text) (.bool u.tr) (.int .i64 u.fail))
        have HF := hide (five_set hf (.int .i64 u.kind) (.int .i64 u.num) (.string u.text) (.bool u.tr) (.int .i64 u.fail))
        obtain ⟨x0, c0⟩ := five_c hf 0 (by omega)
        obtain ⟨x1, c1⟩ := five_c hf 1 (by omega)
        obtain ⟨x2, c2⟩ := five_c hf 2 (by omega)
        obtain ⟨x3, c3⟩ := five_c hf 3 (by omega)
        obtain ⟨x4, c4⟩ := five_c hf 4 (by omega)
        have f0 := five_f hf 0
        have f1 := five_f hf 1
        have f2 := five_f hf 2
        have f3 := five_f hf 3
        have f4 := five_f hf 4
        clear hf b1
        rw [hb] at HB HF
        go_wp2
        try go_region
        all_goals (try go_wp2_with fail)
        all_goals go_ret2
        all_goals first | exact ⟨pair_n (unhide E), unhide HB⟩ | exact ⟨pair_n (unhide E), (unhide HB).drew⟩
      · rw [hb] at E
        go_enter Tryz.func63, Tryz.ntmps63
        go_wp2_with fail
        refine (unhide HS _).mono ?_
        rintro e w1 ⟨rfl, b1⟩
        have hf := five_below (five_new w 28 (.int .i64 v.kind) (.int .i64 v.num) (.string v.text) (.bool v.tr) (.int .i64 v.fail)) b1 (by simp)
        have HB := hide (below_five ((below_al w (.cells #[.int .i64 v.kind, .int .i64 v.num, .string v.text, .bool v.tr, .int .i64 v.fail] 28)).trans (b1.mono (by simp))) (Nat.le_refl _) (.int .i64 u.kind) (.int .i64 u.num) (.string u.text) (.bool u.tr) (.int .i64 u.fail))
        have HF := hide (five_set hf (.int .i64 u.kind) (.int .i64 u.num) (.string u.text) (.bool u.tr) (.int .i64 u.fail))
        obtain ⟨x0, c0⟩ := five_c hf 0 (by omega)
        obtain ⟨x1, c1⟩ := five_c hf 1 (by omega)
        obtain ⟨x2, c2⟩ := five_c hf 2 (by omega)
        obtain ⟨x3, c3⟩ := five_c hf 3 (by omega)
        obtain ⟨x4, c4⟩ := five_c hf 4 (by omega)
        have f0 := five_f hf 0
        have f1 := five_f hf 1
        have f2 := five_f hf 2
        have f3 := five_f hf 3
        have f4 := five_f hf 4
        clear hf b1
        rw [hb] at HB HF
        go_wp2
        try go_region
        all_goals (try go_wp2_with fail)
        all_goals go_ret2
        all_goals first | exact ⟨pair_n (unhide E), unhide HB⟩ | exact ⟨pair_n (unhide E), (unhide HB).drew⟩
  · have k2 : u.kind = 2 := by rw [beq_iff_eq] at h2; exact h2
    have E : Hid (asNumV u = (if ((parseR (bareV u.text).data.toList).2 != 0) = true then (0, 3) else ((parseR (bareV u.text).data.toList).1, 0))) := hide (by unfold asNumV; rw [if_neg (by omega), if_pos k2])
    clear k2
    go_enter Tryz.func63, Tryz.ntmps63
    go_wp2_with fail
    refine (unhide HS _).mono ?_
    rintro e w1 ⟨rfl, b1⟩
    have hf := five_below (five_new w 28 (.int .i64 v.kind) (.int .i64 v.num) (.string v.text) (.bool v.tr) (.int .i64 v.fail)) b1 (by simp)
    have HB := hide (below_five ((below_al w (.cells #[.int .i64 v.kind, .int .i64 v.num, .string v.text, .bool v.tr, .int .i64 v.fail] 28)).trans (b1.mono (by simp))) (Nat.le_refl _) (.int .i64 u.kind) (.int .i64 u.num) (.string u.text) (.bool u.tr) (.int .i64 u.fail))
    have HF := hide (five_set hf (.int .i64 u.kind) (.int .i64 u.num) (.string u.text) (.bool u.tr) (.int .i64 u.fail))
    obtain ⟨x0, c0⟩ := five_c hf 0 (by omega)
    obtain ⟨x1, c1⟩ := five_c hf 1 (by omega)
    obtain ⟨x2, c2⟩ := five_c hf 2 (by omega)
    obtain ⟨x3, c3⟩ := five_c hf 3 (by omega)
    obtain ⟨x4, c4⟩ := five_c hf 4 (by omega)
    have f0 := five_f hf 0
    have f1 := five_f hf 1
    have f2 := five_f hf 2
    have f3 := five_f hf 3
    have f4 := five_f hf 4
    clear hf b1
    go_wp2_with fail
    refine (trim_val u.text _ (by have := unhide HTX; omega)).mono ?_
    rintro e w2 ⟨rfl, b2⟩
    replace HB := hide (below_nx (unhide HB) b2)
    clear b2
    go_wp2_with fail
    refine (parse_any (bareV u.text) _ (by have := unhide HTX; have := bare_size u.text; omega) ((unhide HE).below (unhide HB)).len).mono ?_
    rintro e w3 ⟨rfl, b3⟩
    replace HB := hide (below_nx (unhide HB) b3)
    clear b3
    obtain ⟨r, hr⟩ : ∃ r, parseR (bareV u.text).data.toList = r := ⟨_, rfl⟩
    rw [hr] at E ⊢
    clear hr
    obtain ⟨p, q⟩ := r
    simp only [] at E ⊢
    cases e1 : (q != 0)
    · rw [e1] at E
      go_wp2
      try go_region
      all_goals (try go_wp2_with fail)
      all_goals go_ret2
      all_goals first | exact ⟨pair_n (unhide E), unhide HB⟩ | exact ⟨pair_n (unhide E), (unhide HB).drew⟩
    · rw [e1] at E
      go_wp2
      try go_region
      all_goals (try go_wp2_with fail)
      all_goals go_ret2
      all_goals first | exact ⟨pair_n (unhide E), unhide HB⟩ | exact ⟨pair_n (unhide E), (unhide HB).drew⟩
end Go.Proofs.YtbeijnflfmjgfaaGreatDoor

namespace Go.Proofs.YtbeijnflfmjgfaaGreatDoor
open Go.RowKit

set_option maxRecDepth 100000 in
set_option maxHeartbeats 4000000 in
theorem astext_val (v : Vl) (w : World) (hs : v.text.size ≤ 1000) (he : Env3 w) :
    Calls Tryz.prog 71 #[.agg v.cells] w fun e w' => e = .returned (.tuple #[.string (asTextV (vSound v)).1, .int .i64 (asTextV (vSound v)).2]) ∧ Below w.heap.size w w' := by
  have HE := hide he
  clear he
  obtain ⟨u, hu⟩ : ∃ u, vSound v = u := ⟨_, rfl⟩
  have HS := hide (fun w => counted_val v w (by omega))
  have HTX : Hid (u.text.size ≤ 1000) := hide (by rw [← hu]; exact sound_size2 v hs)
  have HG : Hid (vGood u = true) := hide (by rw [← hu]; exact sound_good v)
  have HSS : Hid (vSound u = u) := hide (by rw [← hu]; exact sound_idem v)
  rw [hu] at HS ⊢
  clear hu
  unfold Vl.cells at HS ⊢
  cases h4 : (u.kind == 4)
  · have n4 : u.kind ≠ 4 := by rw [beq_eq_false_iff_ne] at h4; exact h4
    have E : Hid (asTextV u = (showV u, 0)) := hide (by unfold asTextV; rw [if_neg n4])
    clear n4
    go_enter Tryz.func71, Tryz.ntmps71
    go_wp2_with fail
    refine (unhide HS _).mono ?_
    rintro e w1 ⟨rfl, b1⟩
    have hf := five_below (five_new w 28 (.int .i64 v.kind) (.int .i64 v.num) (.string v.text) (.bool v.tr) (.int .i64 v.fail)) b1 (by simp)
    have HB := hide (below_five ((below_al w (.cells #[.int .i64 v.kind, .int .i64 v.num, .string v.text, .bool v.tr, .int .i64 v.fail] 28)).trans (b1.mono (by simp))) (Nat.le_refl _) (.int .i64 u.kind) (.int .i64 u.num) (.string u.text) (.bool u.tr) (.int .i64 u.fail))
    have HF := hide (five_set hf (.int .i64 u.kind) (.int .i64 u.num) (.string u.text) (.bool u.tr) (.int .i64 u.fail))
    obtain ⟨x0, c0⟩ := five_c hf 0 (by omega)
    obtain ⟨x1, c1⟩ := five_c hf 1 (by omega)
    obtain ⟨x2, c2⟩ := five_c hf 2 (by omega)
    obtain ⟨x3, c3⟩ := five_c hf 3 (by omega)
    obtain ⟨x4, c4⟩ := five_c hf 4 (by omega)
    have f0 := five_f hf 0
    have f1 := five_f hf 1
    have f2 := five_f hf 2
    have f3 := five_f hf 3
    have f4 := five_f hf 4
    clear hf b1
    go_wp2_with fail
    refine (show_val u _ (by have := unhide HTX; omega) ((unhide HE).below (unhide HB))).mono ?_
    rintro e w2 ⟨rfl, b2⟩
    rw [unhide HSS]
    replace HB := hide (below_nx (unhide HB) b2)
    clear b2
    go_wp2
    try go_region
    all_goals (try go_wp2_with fail)
    all_goals go_ret2
    all_goals first | exact ⟨pair_s (unhide E), unhide HB⟩ | exact ⟨pair_s (unhide E), (unhide HB).drew⟩
  · have k4 : u.kind = 4 := by rw [beq_iff_eq] at h4; exact h4
    have E : Hid (asTextV u = (noText, u.fail)) := hide (by unfold asTextV; rw [if_pos k4])
    clear k4
    go_enter Tryz.func71, Tryz.ntmps71
    go_wp2_with fail
    refine (unhide HS _).mono ?_
    rintro e w1 ⟨rfl, b1⟩
    have hf := five_below (five_new w 28 (.int .i64 v.kind) (.int .i64 v.num) (.string v.text) (.bool v.tr) (.int .i64 v.fail)) b1 (by simp)
    have HB := hide (below_five ((below_al w (.cells #[.int .i64 v.kind, .int .i64 v.num, .string v.text, .bool v.tr, .int .i64 v.fail] 28)).trans (b1.mono (by simp))) (Nat.le_refl _) (.int .i64 u.kind) (.int .i64 u.num) (.string u.text) (.bool u.tr) (.int .i64 u.fail))
    have HF := hide (five_set hf (.int .i64 u.kind) (.int .i64 u.num) (.string u.text) (.bool u.tr) (.int .i64 u.fail))
    obtain ⟨x0, c0⟩ := five_c hf 0 (by omega)
    obtain ⟨x1, c1⟩ := five_c hf 1 (by omega)
    obtain ⟨x2, c2⟩ := five_c hf 2 (by omega)
    obtain ⟨x3, c3⟩ := five_c hf 3 (by omega)
    obtain ⟨x4, c4⟩ := five_c hf 4 (by omega)
    have f0 := five_f hf 0
    have f1 := five_f hf 1
    have f2 := five_f hf 2
    have f3 := five_f hf 3
    have f4 := five_f hf 4
    clear hf b1
    go_wp2
    try go_region
    all_goals (try go_wp2_with fail)
    all_goals go_ret2
    all_goals first | exact ⟨pair_s (unhide E), unhide HB⟩ | exact ⟨pair_s (unhide E), (unhide HB).drew⟩
end Go.Proofs.YtbeijnflfmjgfaaGreatDoor

namespace Go.Proofs.YtbeijnflfmjgfaaGreatDoor
open Go.RowKit

set_option maxHeartbeats 1000000 in
theorem nan_kind (a : Int) (w : World) : Calls Tryz.prog 164 #[.int .i64 a] w fun e w' => e = .returned (.bool false) ∧ w' = w := by
  go_enter Tryz.func164, Tryz.ntmps164
  go_wp2
  go_ret
  exact ⟨rfl, rfl⟩
set_option maxHeartbeats 1000000 in
theorem cmp_kind (a b : Int) (w : World) : Calls Tryz.prog 120 #[.int .i64 a, .int .i64 b] w fun e w' => e = .returned (.int .i64 (cmpV a b)) ∧ w' = w := by
  have HN := hide nan_kind
  unfold cmpV
  by_cases h : a < b
  · rw [if_pos h]
    go_enter Tryz.func120, Tryz.ntmps120
    go_wp2_with fail
    refine (unhide HN a _).mono ?_
    rintro e w1 ⟨rfl, rfl⟩
    go_wp2_with fail
    refine (unhide HN b _).mono ?_
    rintro e w2 ⟨rfl, rfl⟩
    go_wp2
    go_ret
    exact ⟨rfl, rfl⟩
  · rw [if_neg h]
    by_cases h2 : b < a
    · rw [if_pos h2]
      go_enter Tryz.func120, Tryz.ntmps120
      go_wp2_with fail
      refine (unhide HN a _).mono ?_
      rintro e w1 ⟨rfl, rfl⟩
      go_wp2_with fail
      refine (unhide HN b _).mono ?_
      rintro e w2 ⟨rfl, rfl⟩
      go_wp2
      go_ret
      exact ⟨rfl, rfl⟩
    · rw [if_neg h2]
      obtain rfl : a = b := by omega
      go_enter Tryz.func120, Tryz.ntmps120
      go_wp2_with fail
      refine (unhide HN a _).mono ?_
      rintro e w1 ⟨rfl, rfl⟩
      go_wp2_with fail
      refine (unhide HN a _).mono ?_
      rintro e w2 ⟨rfl, rfl⟩
      go_wp2
      go_ret
      exact ⟨rfl, rfl⟩
set_option maxHeartbeats 1000000 in
theorem nan_num (a : Int) (w : World) : Calls Tryz.prog 167 #[.int .i64 a] w fun e w' => e = .returned (.bool false) ∧ w' = w := by
  go_enter Tryz.func167, Tryz.ntmps167
  go_wp2
  go_ret
  exact ⟨rfl, rfl⟩
set_option maxHeartbeats 1000000 in
theorem cmp_num (a b : Int) (w : World) : Calls Tryz.prog 123 #[.int .i64 a, .int .i64 b] w fun e w' => e = .returned (.int .i64 (cmpV a b)) ∧ w' = w := by
  have HN := hide nan_num
  unfold cmpV
  by_cases h : a < b
  · rw [if_pos h]
    go_enter Tryz.func123, Tryz.ntmps123
    go_wp2_with fail
    refine (unhide HN a _).mono ?_
    rintro e w1 ⟨rfl, rfl⟩
    go_wp2_with fail
    refine (unhide HN b _).mono ?_
    rintro e w2 ⟨rfl, rfl⟩
    go_wp2
    go_ret
    exact ⟨rfl, rfl⟩
  · rw [if_neg h]
    by_cases h2 : b < a
    · rw [if_pos h2]
      go_enter Tryz.func123, Tryz.ntmps123
      go_wp2_with fail
      refine (unhide HN a _).mono ?_
      rintro e w1 ⟨rfl, rfl⟩
      go_wp2_with fail
      refine (unhide HN b _).mono ?_
      rintro e w2 ⟨rfl, rfl⟩
      go_wp2
      go_ret
      exact ⟨rfl, rfl⟩
    · rw [if_neg h2]
      obtain rfl : a = b := by omega
      go_enter Tryz.func123, Tryz.ntmps123
      go_wp2_with fail
      refine (unhide HN a _).mono ?_
      rintro e w1 ⟨rfl, rfl⟩
      go_wp2_with fail
      refine (unhide HN a _).mono ?_
      rintro e w2 ⟨rfl, rfl⟩
      go_wp2
      go_ret
      exact ⟨rfl, rfl⟩

theorem five_new3 (w : World) (o p : Obj) (t : TypeId) (a b c d e : Value) : FiveAt (((w.alloc o).alloc p).alloc (.cells #[a, b, c, d, e] t)) (w.heap.size + 1 + 1) t #[a, b, c, d, e] := by
  refine ⟨?_, rfl⟩
  have h := heap_alloc_new ((w.alloc o).alloc p) (.cells #[a, b, c, d, e] t)
  rw [show ((w.alloc o).alloc p).heap.size = w.heap.size + 1 + 1 by show ((w.heap.push o).push p).size = _; simp] at h
  exact h
theorem below_al3 (w : World) (o p q : Obj) : Below w.heap.size w (((w.alloc o).alloc p).alloc q) := (below_al2 w o p).alloc (by simp; omega) _
theorem cmp_lt (l m : List UInt8) : Lib.compareBytes l m = ltL l m := by
  induction l generalizing m with
  | nil => cases m <;> rfl
  | cons a l ih =>
    cases m with
    | nil => rfl
    | cons b m =>
      unfold Lib.compareBytes ltL
      rw [ih]
      rfl
theorem textcmp_val (s t : ByteArray) (w : World) :
    Calls Tryz.prog 121 #[.string s, .string t] w fun e w' => e = .returned (.int .i64 (ltL s.data.toList t.data.toList)) ∧ w' = w := by
  rw [← cmp_lt]
  exact Tryz.strings_Compare s t w
def besV (u x : Vl) : Vl := if u.kind = 0 then bl x.kind else u
set_option maxHeartbeats 2000000 in
theorem beside_val (u x : Vl) (w : World) :
    Calls Tryz.prog 119 #[.agg u.cells, .agg x.cells] w fun e w' => e = .returned (.agg (besV u x).cells) ∧ Below w.heap.size w w' := by
  unfold besV bl
  by_cases h : u.kind = 0
  · rw [if_pos h]
    obtain ⟨k, n, s, b, f⟩ := u
    simp only [] at h
    subst h
    unfold Vl.cells
    simp only []
    go_enter Tryz.func119, Tryz.ntmps119
    go_wp2
    refine bodyPost_ret (results_cell_row rfl _ _ _ _ _ _ _ rfl (five_new3 w _ _ _ _ _ _ _ _).1 Tryz.underlying28 rfl infoVal) rfl ?_
    exact ⟨rfl, below_al3 _ _ _ _⟩
  · rw [if_neg h]
    have hb : (u.kind == 0) = false := by rw [beq_eq_false_iff_ne]; exact h
    clear h
    unfold Vl.cells
    go_enter Tryz.func119, Tryz.ntmps119
    go_wp2
    refine bodyPost_ret (results_cell_row rfl _ _ _ _ _ _ _ rfl (five_new3 w _ _ _ _ _ _ _ _).1 Tryz.underlying28 rfl infoVal) rfl ?_
    exact ⟨rfl, below_al3 _ _ _ _⟩
end Go.Proofs.YtbeijnflfmjgfaaGreatDoor

namespace Go.Proofs.YtbeijnflfmjgfaaGreatDoor
open Go.RowKit

theorem good_kind (x : Vl) (h : vGood x = true) : x.kind = 0 ∨ x.kind = 1 ∨ x.kind = 2 ∨ x.kind = 3 ∨ x.kind = 4 := by
  obtain ⟨k, n, s, b, f⟩ := x
  by_cases k0 : k = 0
  · exact Or.inl k0
  · by_cases k1 : k = 1
    · exact Or.inr (Or.inl k1)
    · by_cases k2 : k = 2
      · exact Or.inr (Or.inr (Or.inl k2))
      · by_cases k3 : k = 3
        · exact Or.inr (Or.inr (Or.inr (Or.inl k3)))
        · by_cases k4 : k = 4
          · exact Or.inr (Or.inr (Or.inr (Or.inr k4)))
          · rw [good_else k n s b f k0 k1 k2 k3 k4] at h; cases h
theorem bl_good (k : Int) (h : k = 0 ∨ k = 1 ∨ k = 2 ∨ k = 3) : vGood (bl k) = true := by
  rcases h with rfl | rfl | rfl | rfl <;> decide +kernel
theorem bes_good (u x : Vl) (hu : vGood u = true) (hx : vGood x = true) (k2 : x.kind ≠ 4) : vGood (besV u x) = true := by
  unfold besV
  by_cases h : u.kind = 0
  · rw [if_pos h]
    exact bl_good x.kind (by have := good_kind x hx; omega)
  · rw [if_neg h]; exact hu
theorem sound_of (u : Vl) (h : vGood u = true) : vSound u = u := by unfold vSound; rw [if_pos h]
theorem bes_size (u x : Vl) (hu : u.text.size ≤ 1000) : (besV u x).text.size ≤ 1000 := by
  unfold besV
  by_cases h : u.kind = 0
  · rw [if_pos h]; show noText.size ≤ 1000; decide
  · rw [if_neg h]; exact hu
def ordP (U X : Vl) : Int := if U.kind = X.kind then (if U.kind = 2 then ltL (mapB lowC U.text).data.toList (mapB lowC X.text).data.toList else cmpV (asNumV U).1 (asNumV X).1) else cmpV U.kind X.kind
theorem cmp00 : cmpV 0 0 = 0 := by decide
theorem cmp01 : cmpV 0 10000 = -1 := by decide
theorem cmp10 : cmpV 10000 0 = 1 := by decide
theorem cmp11 : cmpV 10000 10000 = 0 := by decide
theorem ord_prog (u x : Vl) (hu : vGood u = true) (hx : vGood x = true) (k1 : u.kind ≠ 4) (k2 : x.kind ≠ 4) : ordV3 u x = (ordP (besV u x) (besV x u), 0) := by
  have g1 := good_kind u hu
  have g2 := good_kind x hx
  clear hu hx
  obtain ⟨k, n, s, b, f⟩ := u
  obtain ⟨k', n', s', b', f'⟩ := x
  simp only [] at g1 g2 k1 k2
  have h1 : k = 0 ∨ k = 1 ∨ k = 2 ∨ k = 3 := by omega
  have h2 : k' = 0 ∨ k' = 1 ∨ k' = 2 ∨ k' = 3 := by omega
  clear g1 g2 k1 k2
  rcases h1 with rfl | rfl | rfl | rfl <;> rcases h2 with rfl | rfl | rfl | rfl <;> cases b <;> cases b' <;> simp [ordV3, besV, bl, sameV, ordP, asNumV, cmp00, cmp01, cmp10, cmp11]
theorem ordP_ne (U X : Vl) (h : (U.kind == X.kind) = false) : ordP U X = cmpV U.kind X.kind := by
  unfold ordP; rw [if_neg (by rw [beq_eq_false_iff_ne] at h; exact h)]
theorem ordP_text (U X : Vl) (h : (U.kind == X.kind) = true) (h2 : (U.kind == 2) = true) : ordP U X = ltL (mapB lowC U.text).data.toList (mapB lowC X.text).data.toList := by
  rw [beq_iff_eq] at h h2
  unfold ordP; rw [if_pos h, if_pos h2]
theorem ordP_num (U X : Vl) (h : (U.kind == X.kind) = true) (h2 : (U.kind == 2) = false) : ordP U X = cmpV (asNumV U).1 (asNumV X).1 := by
  rw [beq_iff_eq] at h; rw [beq_eq_false_iff_ne] at h2
  unfold ordP; rw [if_pos h, if_neg h2]

end Go.Proofs.YtbeijnflfmjgfaaGreatDoor

namespace Go.Proofs.YtbeijnflfmjgfaaGreatDoor
open Go.RowKit

theorem bytes_ext9 {s t : ByteArray} (h : s.data.toList = t.data.toList) : s = t := by
  obtain ⟨⟨s⟩⟩ := s
  obtain ⟨⟨t⟩⟩ := t
  simp only [] at h
  rw [h]
theorem no_text9 (s : ByteArray) (h : s.toList = []) : s = noText := bytes_ext9 (by rw [ByteArray.toList_eq] at h; rw [h])
theorem app_list9 (s t : ByteArray) : (s ++ t).data.toList = s.data.toList ++ t.data.toList := by
  rw [ByteArray.data_append, Array.toList_append]
theorem good_form9 (X : Vl) (h : vGood X = true) :
    X = ⟨0, 0, noText, false, 0⟩ ∨ (∃ n, goodB n = true ∧ X = ⟨1, n, noText, false, 0⟩) ∨ (∃ s : ByteArray, s.size ≤ 255 ∧ X = ⟨2, 0, s, false, 0⟩) ∨ (∃ b, X = ⟨3, 0, noText, b, 0⟩) ∨ (∃ f, 1 ≤ f ∧ f ≤ 8 ∧ X = ⟨4, 0, noText, false, f⟩) := by
  have hk := good_kind X h
  obtain ⟨k, n, s, b, f⟩ := X
  simp only [] at hk
  rcases hk with rfl | rfl | rfl | rfl | rfl
  · rw [vGood0] at h
    simp at h
    obtain ⟨⟨⟨h1, h2⟩, h3⟩, h4⟩ := h
    subst h1 h3 h4
    exact Or.inl (by rw [no_text9 s h2])
  · rw [vGood1] at h
    simp at h
    obtain ⟨⟨⟨h1, h2⟩, h3⟩, h4⟩ := h
    subst h3 h4
    exact Or.inr (Or.inl ⟨n, h1, by rw [no_text9 s h2]⟩)
  · rw [vGood2] at h
    simp at h
    obtain ⟨⟨⟨h1, h2⟩, h3⟩, h4⟩ := h
    subst h1 h3 h4
    exact Or.inr (Or.inr (Or.inl ⟨s, h2, rfl⟩))
  · rw [vGood3] at h
    simp at h
    obtain ⟨⟨h1, h2⟩, h3⟩ := h
    subst h1 h3
    exact Or.inr (Or.inr (Or.inr (Or.inl ⟨b, by rw [no_text9 s h2]⟩)))
  · rw [vGood4] at h
    simp at h
    obtain ⟨⟨⟨⟨h1, h2⟩, h3⟩, h4⟩, h5⟩ := h
    subst h1 h3
    exact Or.inr (Or.inr (Or.inr (Or.inr ⟨f, h4, h5, by rw [no_text9 s h2]⟩)))
theorem sgn_range (b : Bool) (p : Nat) : -9000000000000000000 ≤ sgnN b p ∧ sgnN b p ≤ 9000000000000000000 := by
  unfold sgnN
  split
  · omega
  · split <;> omega
theorem parse_range (l : List UInt8) : -9000000000000000000 ≤ (parseR l).1 ∧ (parseR l).1 ≤ 9000000000000000000 := by
  unfold parseR
  split
  · split
    · exact sgn_range _ _
    · simp only []; omega
  · simp only []; omega
theorem num_range (v : Vl) : ((asNumV (vSound v)).2 = 0 ∨ 1 ≤ (asNumV (vSound v)).2 ∧ (asNumV (vSound v)).2 ≤ 8) ∧ -9000000000000000000 ≤ (asNumV (vSound v)).1 ∧ (asNumV (vSound v)).1 ≤ 9000000000000000000 := by
  rcases good_form9 (vSound v) (sound_good v) with h | ⟨n, hn, h⟩ | ⟨s, hs, h⟩ | ⟨b, h⟩ | ⟨f, h1, h8, h⟩
  · rw [h]; unfold asNumV; simp
  · rw [h]
    rw [goodB_iff] at hn
    exact ⟨Or.inl rfl, hn.1, hn.2⟩
  · rw [h]
    show ((if ((parseR (bareV s).data.toList).2 != 0) = true then ((0 : Int), (3 : Int)) else ((parseR (bareV s).data.toList).1, 0)).2 = 0 ∨ _) ∧ _
    have hp := parse_range (bareV s).data.toList
    unfold asNumV
    simp only []
    by_cases hq : ((parseR (bareV s).data.toList).2 != 0) = true
    · simp [hq]
    · simp [hq]; exact hp
  · rw [h]; cases b
    · exact ⟨Or.inl rfl, by decide, by decide⟩
    · exact ⟨Or.inl rfl, by decide, by decide⟩
  · rw [h]
    exact ⟨Or.inr ⟨h1, h8⟩, show (-9000000000000000000 : Int) ≤ 0 by decide, show (0 : Int) ≤ 9000000000000000000 by decide⟩
theorem text_range (v : Vl) : ((asTextV (vSound v)).2 = 0 ∨ 1 ≤ (asTextV (vSound v)).2 ∧ (asTextV (vSound v)).2 ≤ 8) ∧ (asTextV (vSound v)).1.size ≤ 255 := by
  rcases good_form9 (vSound v) (sound_good v) with h | ⟨n, hn, h⟩ | ⟨s, hs, h⟩ | ⟨b, h⟩ | ⟨f, h1, h8, h⟩
  · rw [h]; exact ⟨Or.inl rfl, by decide⟩
  · rw [h]
    have := text_len n
    exact ⟨Or.inl rfl, by show (textL n).length ≤ 255; omega⟩
  · rw [h]; exact ⟨Or.inl rfl, hs⟩
  · rw [h]; cases b
    · exact ⟨Or.inl rfl, by decide⟩
    · exact ⟨Or.inl rfl, by decide⟩
  · rw [h]
    exact ⟨Or.inr ⟨h1, h8⟩, show noText.size ≤ 255 by decide⟩
theorem ord_err {u x : Vl} (hu : vGood u = true) (hx : vGood x = true) : (ordV3 u x).2 = 0 ∨ 1 ≤ (ordV3 u x).2 ∧ (ordV3 u x).2 ≤ 8 := by
  have aux : ∀ y : Vl, vGood y = true → y.kind = 4 → 1 ≤ y.fail ∧ y.fail ≤ 8 := by
    intro y hy hk
    rcases good_form9 y hy with h | ⟨n, hn, h⟩ | ⟨s, hs, h⟩ | ⟨b, h⟩ | ⟨f, h1, h8, h⟩
    · rw [h] at hk; simp at hk
    · rw [h] at hk; simp at hk
    · rw [h] at hk; simp at hk
    · rw [h] at hk; simp at hk
    · rw [h]; exact ⟨h1, h8⟩
  unfold ordV3
  by_cases h1 : u.kind = 4
  · rw [if_pos h1]; exact Or.inr (aux u hu h1)
  · rw [if_neg h1]
    by_cases h2 : x.kind = 4
    · rw [if_pos h2]; exact Or.inr (aux x hx h2)
    · rw [if_neg h2]
      left
      repeat' split
      all_goals rfl
end Go.Proofs.YtbeijnflfmjgfaaGreatDoor
