/- The contracts of the reference's AsBool, AsNum, of layer 3. -/
import Derived.Test.YteaodfeaidjcnaaGreatDoorVrG
import Derived.Test.YteaodfeaidjcnaaGreatDoorRfP
namespace Go.Proofs.YteaodfeaidjcnaaGreatDoor
open Go.RowKit

def asBoolV (u : Vl) : Bool × Int :=
  if u.kind = 1 then ((u.num != 0), 0) else if u.kind = 2 then (if ((mapB lowC u.text).toList == [116, 114, 117, 101]) = true then (true, 0) else if ((mapB lowC u.text).toList == [102, 97, 108, 115, 101]) = true then (false, 0) else (false, 3))
    else if u.kind = 3 then (u.tr, 0) else if u.kind = 4 then (false, u.fail) else (false, 0)
def asNumV (u : Vl) : Int × Int :=
  if u.kind = 1 then (u.num, 0) else if u.kind = 2 then (if ((parseR (bareV u.text).data.toList).2 != 0) = true then (0, 3) else ((parseR (bareV u.text).data.toList).1, 0))
    else if u.kind = 3 then (if u.tr = true then 10000 else 0, 0) else if u.kind = 4 then (0, u.fail) else (0, 0)
theorem pair_b {k : IntKind} {r : Bool × Int} {a : Bool} {b : Int} (h : r = (a, b)) : Ending.returned (.tuple #[.bool a, .int k b]) = .returned (.tuple #[.bool r.1, .int k r.2]) := by rw [h]
theorem pair_n {k k' : IntKind} {r : Int × Int} {a b : Int} (h : r = (a, b)) : Ending.returned (.tuple #[.int k a, .int k' b]) = .returned (.tuple #[.int k r.1, .int k' r.2]) := by rw [h]
theorem sound_size2 (v : Vl) (h : v.text.size ≤ 1000) : (vSound v).text.size ≤ 1000 := by
  unfold vSound
  split
  · exact h
  · show noText.size ≤ 1000; decide
theorem good_e3 : vGood (vE 3) = true := by decide +kernel
theorem sound_idem (v : Vl) : vSound (vSound v) = vSound v := by
  by_cases h : vGood v = true
  · have e : vSound v = v := by unfold vSound; rw [if_pos h]
    rw [e, e]
  · have e : vSound v = vE 3 := by unfold vSound; rw [if_neg h]
    rw [e]; unfold vSound; rw [if_pos good_e3]
theorem dl_le (l : List UInt8) : (dl l).length ≤ l.length := by unfold dl; exact (List.dropWhile_sublist _).length_le
theorem bare_size (s : ByteArray) : (bareV s).size ≤ s.size := by
  show (dl (dl s.data.toList).reverse).reverse.toArray.size ≤ _
  rw [List.size_toArray, List.length_reverse]
  have h1 := dl_le (dl s.data.toList).reverse
  rw [List.length_reverse] at h1
  have h2 := dl_le s.data.toList
  have h3 : s.data.toList.length = s.size := rfl
  omega

set_option maxRecDepth 100000 in
set_option maxHeartbeats 4000000 in
theorem asbool_ref (v : Vl) (w : World) (hs : v.text.size ≤ 1000) :
    Calls Tryz.prog 11 #[.agg v.cells] w fun e w' => e = .returned (.tuple #[.bool (asBoolV (vSound v)).1, .int .i64 (asBoolV (vSound v)).2]) ∧ Below w.heap.size w w' := by
  obtain ⟨u, hu⟩ : ∃ u, vSound v = u := ⟨_, rfl⟩
  have HS := hide (fun w => sound_ref v w (by omega))
  have HTX : Hid (u.text.size ≤ 1000) := hide (by rw [← hu]; exact sound_size2 v hs)
  have HSS : Hid (vSound u = u) := hide (by rw [← hu]; exact sound_idem v)
  rw [hu] at HS ⊢
  clear hu
  unfold Vl.cells at HS ⊢
  cases h1 : (u.kind == 1)
  · have n1 : u.kind ≠ 1 := by rw [beq_eq_false_iff_ne] at h1; exact h1
    cases h2 : (u.kind == 2)
    · have n2 : u.kind ≠ 2 := by rw [beq_eq_false_iff_ne] at h2; exact h2
      cases h3 : (u.kind == 3)
      · have n3 : u.kind ≠ 3 := by rw [beq_eq_false_iff_ne] at h3; exact h3
        cases h4 : (u.kind == 4)
        · have n4 : u.kind ≠ 4 := by rw [beq_eq_false_iff_ne] at h4; exact h4
          have E : Hid (asBoolV u = (false, 0)) := hide (by unfold asBoolV; rw [if_neg n1, if_neg n2, if_neg n3, if_neg n4])
          clear n1 n2 n3 n4
          go_enter Tryz.func11, Tryz.ntmps11
          go_wp2_with fail
          refine (unhide HS _).mono ?_
          rintro e w1 ⟨rfl, b1⟩
          have hf := five_below (five_new w 29 (.int .i64 v.kind) (.int .i64 v.num) (.string v.text) (.bool v.tr) (.int .i64 v.fail)) b1 (by simp)
          have HB := hide (below_five ((below_al w (.cells #[.int .i64 v.kind, .int .i64 v.num, .string v.text, .bool v.tr, .int .i64 v.fail] 29)).trans (b1.mono (by simp))) (Nat.le_refl _) (.int .i64 u.kind) (.int .i64 u.num) (.string u.text) (.bool u.tr) (.int .i64 u.fail))
          have HF := hide (five_set hf (.int .i64 u.kind) (.int .i64 u.num) (.string u.text) (.bool u.tr) (.int .i64 u.fail))
          obtain ⟨x0, c0⟩ := five_c hf 0 (by omega)
          obtain ⟨x1, c1⟩ := five_c hf 1 (by omega)
          obtain ⟨x2, c2⟩ := five_c hf 2 (by omega)
          obtain ⟨x3, c3⟩ := five_c hf 3 (by omega)
          obtain ⟨x4, c4⟩ := five_c hf 4 (by omega)
          have f0 := five_f hf 0
          have f1 := five_f hf 1
          have f2 := five_f hf 2
          have f3 := five_f hf 3
          have f4 := five_f hf 4
          clear hf b1
          go_wp2
          go_ret2
          exact ⟨pair_b (unhide E), unhide HB⟩
        · have k4 : u.kind = 4 := by rw [beq_iff_eq] at h4; exact h4
          have E : Hid (asBoolV u = (false, u.fail)) := hide (by unfold asBoolV; rw [if_neg n1, if_neg n2, if_neg n3, if_pos k4])
          clear n1 n2 n3 k4
          go_enter Tryz.func11, Tryz.ntmps11
          go_wp2_with fail
          refine (unhide HS _).mono ?_
          rintro e w1 ⟨rfl, b1⟩
          have hf := five_below (five_new w 29 (.int .i64 v.kind) (.int .i64 v.num) (.string v.text) (.bool v.tr) (.int .i64 v.fail)) b1 (by simp)
          have HB := hide (below_five ((below_al w (.cells #[.int .i64 v.kind, .int .i64 v.num, .string v.text, .bool v.tr, .int .i64 v.fail] 29)).trans (b1.mono (by simp))) (Nat.le_refl _) (.int .i64 u.kind) (.int .i64 u.num) (.string u.text) (.bool u.tr) (.int .i64 u.fail))
          have HF := hide (five_set hf (.int .i64 u.kind) (.int .i64 u.num) (.string u.text) (.bool u.tr) (.int .i64 u.fail))
          obtain ⟨x0, c0⟩ := five_c hf 0 (by omega)
          obtain ⟨x1, c1⟩ := five_c hf 1 (by omega)
          obtain ⟨x2, c2⟩ := five_c hf 2 (by omega)
          obtain ⟨x3, c3⟩ := five_c hf 3 (by omega)
          obtain ⟨x4, c4⟩ := five_c hf 4 (by omega)
          have f0 := five_f hf 0
          have f1 := five_f hf 1
          have f2 := five_f hf 2
          have f3 := five_f hf 3
          have f4 := five_f hf 4
          clear hf b1
          go_wp2
          go_region
          go_wp2
          go_ret2
          exact ⟨pair_b (unhide E), (unhide HB).drew⟩
      · have k3 : u.kind = 3 := by rw [beq_iff_eq] at h3; exact h3
        have E : Hid (asBoolV u = (u.tr, 0)) := hide (by unfold asBoolV; rw [if_neg n1, if_neg n2, if_pos k3])
        clear n1 n2 k3
        go_enter Tryz.func11, Tryz.ntmps11
        go_wp2_with fail
        refine (unhide HS _).mono ?_
        rintro e w1 ⟨rfl, b1⟩
        have hf := five_below (five_new w 29 (.int .i64 v.kind) (.int .i64 v.num) (.string v.text) (.bool v.tr) (.int .i64 v.fail)) b1 (by simp)
        have HB := hide (below_five ((below_al w (.cells #[.int .i64 v.kind, .int .i64 v.num, .string v.text, .bool v.tr, .int .i64 v.fail] 29)).trans (b1.mono (by simp))) (Nat.le_refl _) (.int .i64 u.kind) (.int .i64 u.num) (.string u.text) (.bool u.tr) (.int .i64 u.fail))
        have HF := hide (five_set hf (.int .i64 u.kind) (.int .i64 u.num) (.string u.text) (.bool u.tr) (.int .i64 u.fail))
        obtain ⟨x0, c0⟩ := five_c hf 0 (by omega)
        obtain ⟨x1, c1⟩ := five_c hf 1 (by omega)
        obtain ⟨x2, c2⟩ := five_c hf 2 (by omega)
        obtain ⟨x3, c3⟩ := five_c hf 3 (by omega)
        obtain ⟨x4, c4⟩ := five_c hf 4 (by omega)
        have f0 := five_f hf 0
        have f1 := five_f hf 1
        have f2 := five_f hf 2
        have f3 := five_f hf 3
        have f4 := five_f hf 4
        clear hf b1
        go_wp2
        go_ret2
        exact ⟨pair_b (unhide E), unhide HB⟩
    · have k2 : u.kind = 2 := by rw [beq_iff_eq] at h2; exact h2
      have E : Hid (asBoolV u = (if ((mapB lowC u.text).toList == [116, 114, 117, 101]) = true then (true, 0) else if ((mapB lowC u.text).toList == [102, 97, 108, 115, 101]) = true then (false, 0) else (false, 3))) := hide (by unfold asBoolV; rw [if_neg n1, if_pos k2])
      clear n1 k2
      go_enter Tryz.func11, Tryz.ntmps11
      go_wp2_with fail
      refine (unhide HS _).mono ?_
      rintro e w1 ⟨rfl, b1⟩
      have hf := five_below (five_new w 29 (.int .i64 v.kind) (.int .i64 v.num) (.string v.text) (.bool v.tr) (.int .i64 v.fail)) b1 (by simp)
      have HB := hide (below_five ((below_al w (.cells #[.int .i64 v.kind, .int .i64 v.num, .string v.text, .bool v.tr, .int .i64 v.fail] 29)).trans (b1.mono (by simp))) (Nat.le_refl _) (.int .i64 u.kind) (.int .i64 u.num) (.string u.text) (.bool u.tr) (.int .i64 u.fail))
      have HF := hide (five_set hf (.int .i64 u.kind) (.int .i64 u.num) (.string u.text) (.bool u.tr) (.int .i64 u.fail))
      obtain ⟨x0, c0⟩ := five_c hf 0 (by omega)
      obtain ⟨x1, c1⟩ := five_c hf 1 (by omega)
      obtain ⟨x2, c2⟩ := five_c hf 2 (by omega)
      obtain ⟨x3, c3⟩ := five_c hf 3 (by omega)
      obtain ⟨x4, c4⟩ := five_c hf 4 (by omega)
      have f0 := five_f hf 0
      have f1 := five_f hf 1
      have f2 := five_f hf 2
      have f3 := five_f hf 3
      have f4 := five_f hf 4
      clear hf b1
      go_wp2_with fail
      refine (lower_ref u.text _ (by have := unhide HTX; omega)).mono ?_
      rintro e w2 ⟨rfl, b2⟩
      have HB2 := hide (below_nx (unhide HB) b2)
      clear b2
      obtain ⟨L, hL⟩ : ∃ L, mapB lowC u.text = L := ⟨_, rfl⟩
      rw [hL] at E ⊢
      clear hL
      cases e1 : (L.toList == [116, 114, 117, 101])
      · cases e2 : (L.toList == [102, 97, 108, 115, 101])
        · rw [e1, e2] at E
          go_wp2
          go_ret2
          exact ⟨pair_b (unhide E), unhide HB2⟩
        · rw [e1, e2] at E
          go_wp2
          go_ret2
          exact ⟨pair_b (unhide E), unhide HB2⟩
      · rw [e1] at E
        go_wp2
        go_ret2
        exact ⟨pair_b (unhide E), unhide HB2⟩
  · have k1 : u.kind = 1 := by rw [beq_iff_eq] at h1; exact h1
    have E : Hid (asBoolV u = ((u.num != 0), 0)) := hide (by unfold asBoolV; rw [if_pos k1])
    clear k1
    go_enter Tryz.func11, Tryz.ntmps11
    go_wp2_with fail
    refine (unhide HS _).mono ?_
    rintro e w1 ⟨rfl, b1⟩
    have hf := five_below (five_new w 29 (.int .i64 v.kind) (.int .i64 v.num) (.string v.text) (.bool v.tr) (.int .i64 v.fail)) b1 (by simp)
    have HB := hide (below_five ((below_al w (.cells #[.int .i64 v.kind, .int .i64 v.num, .string v.text, .bool v.tr, .int .i64 v.fail] 29)).trans (b1.mono (by simp))) (Nat.le_refl _) (.int .i64 u.kind) (.int .i64 u.num) (.string u.text) (.bool u.tr) (.int .i64 u.fail))
    have HF := hide (five_set hf (.int .i64 u.kind) (.int .i64 u.num) (.string u.text) (.bool u.tr) (.int .i64 u.fail))
    obtain ⟨x0, c0⟩ := five_c hf 0 (by omega)
    obtain ⟨x1, c1⟩ := five_c hf 1 (by omega)
    obtain ⟨x2, c2⟩ := five_c hf 2 (by omega)
    obtain ⟨x3, c3⟩ := five_c hf 3 (by omega)
    obtain ⟨x4, c4⟩ := five_c hf 4 (by omega)
    have f0 := five_f hf 0
    have f1 := five_f hf 1
    have f2 := five_f hf 2
    have f3 := five_f hf 3
    have f4 := five_f hf 4
    clear hf b1
    go_wp2
    go_ret2
    exact ⟨pair_b (unhide E), unhide HB⟩

set_option maxRecDepth 100000 in
set_option maxHeartbeats 4000000 in
theorem asnum_ref (v : Vl) (w : World) (hs : v.text.size ≤ 1000) :
    Calls Tryz.prog 7 #[.agg v.cells] w fun e w' => e = .returned (.tuple #[.int .i64 (asNumV (vSound v)).1, .int .i64 (asNumV (vSound v)).2]) ∧ Below w.heap.size w w' := by
  obtain ⟨u, hu⟩ : ∃ u, vSound v = u := ⟨_, rfl⟩
  have HS := hide (fun w => sound_ref v w (by omega))
  have HTX : Hid (u.text.size ≤ 1000) := hide (by rw [← hu]; exact sound_size2 v hs)
  have HSS : Hid (vSound u = u) := hide (by rw [← hu]; exact sound_idem v)
  rw [hu] at HS ⊢
  clear hu
  unfold Vl.cells at HS ⊢
  cases h1 : (u.kind == 1)
  · have n1 : u.kind ≠ 1 := by rw [beq_eq_false_iff_ne] at h1; exact h1
    cases h2 : (u.kind == 2)
    · have n2 : u.kind ≠ 2 := by rw [beq_eq_false_iff_ne] at h2; exact h2
      cases h3 : (u.kind == 3)
      · have n3 : u.kind ≠ 3 := by rw [beq_eq_false_iff_ne] at h3; exact h3
        cases h4 : (u.kind == 4)
        · have n4 : u.kind ≠ 4 := by rw [beq_eq_false_iff_ne] at h4; exact h4
          have E : Hid (asNumV u = (0, 0)) := hide (by unfold asNumV; rw [if_neg n1, if_neg n2, if_neg n3, if_neg n4])
          clear n1 n2 n3 n4
          go_enter Tryz.func7, Tryz.ntmps7
          go_wp2_with fail
          refine (unhide HS _).mono ?_
          rintro e w1 ⟨rfl, b1⟩
          have hf := five_below (five_new w 29 (.int .i64 v.kind) (.int .i64 v.num) (.string v.text) (.bool v.tr) (.int .i64 v.fail)) b1 (by simp)
          have HB := hide (below_five ((below_al w (.cells #[.int .i64 v.kind, .int .i64 v.num, .string v.text, .bool v.tr, .int .i64 v.fail] 29)).trans (b1.mono (by simp))) (Nat.le_refl _) (.int .i64 u.kind) (.int .i64 u.num) (.string u.text) (.bool u.tr) (.int .i64 u.fail))
          have HF := hide (five_set hf (.int .i64 u.kind) (.int .i64 u.num) (.string u.text) (.bool u.tr) (.int .i64 u.fail))
          obtain ⟨x0, c0⟩ := five_c hf 0 (by omega)
          obtain ⟨x1, c1⟩ := five_c hf 1 (by omega)
          obtain ⟨x2, c2⟩ := five_c hf 2 (by omega)
          obtain ⟨x3, c3⟩ := five_c hf 3 (by omega)
          obtain ⟨x4, c4⟩ := five_c hf 4 (by omega)
          have f0 := five_f hf 0
          have f1 := five_f hf 1
          have f2 := five_f hf 2
          have f3 := five_f hf 3
          have f4 := five_f hf 4
          clear hf b1
          go_wp2
          go_ret2
          exact ⟨pair_n (unhide E), unhide HB⟩
        · have k4 : u.kind = 4 := by rw [beq_iff_eq] at h4; exact h4
          have E : Hid (asNumV u = (0, u.fail)) := hide (by unfold asNumV; rw [if_neg n1, if_neg n2, if_neg n3, if_pos k4])
          clear n1 n2 n3 k4
          go_enter Tryz.func7, Tryz.ntmps7
          go_wp2_with fail
          refine (unhide HS _).mono ?_
          rintro e w1 ⟨rfl, b1⟩
          have hf := five_below (five_new w 29 (.int .i64 v.kind) (.int .i64 v.num) (.string v.text) (.bool v.tr) (.int .i64 v.fail)) b1 (by simp)
          have HB := hide (below_five ((below_al w (.cells #[.int .i64 v.kind, .int .i64 v.num, .string v.text, .bool v.tr, .int .i64 v.fail] 29)).trans (b1.mono (by simp))) (Nat.le_refl _) (.int .i64 u.kind) (.int .i64 u.num) (.string u.text) (.bool u.tr) (.int .i64 u.fail))
          have HF := hide (five_set hf (.int .i64 u.kind) (.int .i64 u.num) (.string u.text) (.bool u.tr) (.int .i64 u.fail))
          obtain ⟨x0, c0⟩ := five_c hf 0 (by omega)
          obtain ⟨x1, c1⟩ := five_c hf 1 (by omega)
          obtain ⟨x2, c2⟩ := five_c hf 2 (by omega)
          obtain ⟨x3, c3⟩ := five_c hf 3 (by omega)
          obtain ⟨x4, c4⟩ := five_c hf 4 (by omega)
          have f0 := five_f hf 0
          have f1 := five_f hf 1
          have f2 := five_f hf 2
          have f3 := five_f hf 3
          have f4 := five_f hf 4
          clear hf b1
          go_wp2
          go_region
          go_wp2
          go_ret2
          exact ⟨pair_n (unhide E), (unhide HB).drew⟩
      · have k3 : u.kind = 3 := by rw [beq_iff_eq] at h3; exact h3
        have E : Hid (asNumV u = (if u.tr = true then 10000 else 0, 0)) := hide (by unfold asNumV; rw [if_neg n1, if_neg n2, if_pos k3])
        clear n1 n2 k3
        cases hb : u.tr
        · rw [hb] at E
          go_enter Tryz.func7, Tryz.ntmps7
          go_wp2_with fail
          refine (unhide HS _).mono ?_
          rintro e w1 ⟨rfl, b1⟩
          have hf := five_below (five_new w 29 (.int .i64 v.kind) (.int .i64 v.num) (.string v.text) (.bool v.tr) (.int .i64 v.fail)) b1 (by simp)
          have HB := hide (below_five ((below_al w (.cells #[.int .i64 v.kind, .int .i64 v.num, .string v.text, .bool v.tr, .int .i64 v.fail] 29)).trans (b1.mono (by simp))) (Nat.le_refl _) (.int .i64 u.kind) (.int .i64 u.num) (.string u.text) (.bool u.tr) (.int .i64 u.fail))
          have HF := hide (five_set hf (.int .i64 u.kind) (.int .i64 u.num) (.string u.text) (.bool u.tr) (.int .i64 u.fail))
          obtain ⟨x0, c0⟩ := five_c hf 0 (by omega)
          obtain ⟨x1, c1⟩ := five_c hf 1 (by omega)
          obtain ⟨x2, c2⟩ := five_c hf 2 (by omega)
          obtain ⟨x3, c3⟩ := five_c hf 3 (by omega)
          obtain ⟨x4, c4⟩ := five_c hf 4 (by omega)
          have f0 := five_f hf 0
          have f1 := five_f hf 1
          have f2 := five_f hf 2
          have f3 := five_f hf 3
          have f4 := five_f hf 4
          clear hf b1
          rw [hb] at HB HF
          go_wp2
          go_ret2
          exact ⟨pair_n (unhide E), unhide HB⟩
        · rw [hb] at E
          go_enter Tryz.func7, Tryz.ntmps7
          go_wp2_with fail
          refine (unhide HS _).mono ?_
          rintro e w1 ⟨rfl, b1⟩
          have hf := five_below (five_new w 29 (.int .i64 v.kind) (.int .i64 v.num) (.string v.text) (.bool v.tr) (.int .i64 v.fail)) b1 (by simp)
          have HB := hide (below_five ((below_al w (.cells #[.int .i64 v.kind, .int .i64 v.num, .string v.text, .bool v.tr, .int .i64 v.fail] 29)).trans (b1.mono (by simp))) (Nat.le_refl _) (.int .i64 u.kind) (.int .i64 u.num) (.string u.text) (.bool u.tr) (.int .i64 u.fail))
          have HF := hide (five_set hf (.int .i64 u.kind) (.int .i64 u.num) (.string u.text) (.bool u.tr) (.int .i64 u.fail))
          obtain ⟨x0, c0⟩ := five_c hf 0 (by omega)
          obtain ⟨x1, c1⟩ := five_c hf 1 (by omega)
          obtain ⟨x2, c2⟩ := five_c hf 2 (by omega)
          obtain ⟨x3, c3⟩ := five_c hf 3 (by omega)
          obtain ⟨x4, c4⟩ := five_c hf 4 (by omega)
          have f0 := five_f hf 0
          have f1 := five_f hf 1
          have f2 := five_f hf 2
          have f3 := five_f hf 3
          have f4 := five_f hf 4
          clear hf b1
          rw [hb] at HB HF
          go_wp2
          go_ret2
          exact ⟨pair_n (unhide E), unhide HB⟩
    · have k2 : u.kind = 2 := by rw [beq_iff_eq] at h2; exact h2
      have E : Hid (asNumV u = (if ((parseR (bareV u.text).data.toList).2 != 0) = true then (0, 3) else ((parseR (bareV u.text).data.toList).1, 0))) := hide (by unfold asNumV; rw [if_neg n1, if_pos k2])
      clear n1 k2
      go_enter Tryz.func7, Tryz.ntmps7
      go_wp2_with fail
      refine (unhide HS _).mono ?_
      rintro e w1 ⟨rfl, b1⟩
      have hf := five_below (five_new w 29 (.int .i64 v.kind) (.int .i64 v.num) (.string v.text) (.bool v.tr) (.int .i64 v.fail)) b1 (by simp)
      have HB := hide (below_five ((below_al w (.cells #[.int .i64 v.kind, .int .i64 v.num, .string v.text, .bool v.tr, .int .i64 v.fail] 29)).trans (b1.mono (by simp))) (Nat.le_refl _) (.int .i64 u.kind) (.int .i64 u.num) (.string u.text) (.bool u.tr) (.int .i64 u.fail))
      have HF := hide (five_set hf (.int .i64 u.kind) (.int .i64 u.num) (.string u.text) (.bool u.tr) (.int .i64 u.fail))
      obtain ⟨x0, c0⟩ := five_c hf 0 (by omega)
      obtain ⟨x1, c1⟩ := five_c hf 1 (by omega)
      obtain ⟨x2, c2⟩ := five_c hf 2 (by omega)
      obtain ⟨x3, c3⟩ := five_c hf 3 (by omega)
      obtain ⟨x4, c4⟩ := five_c hf 4 (by omega)
      have f0 := five_f hf 0
      have f1 := five_f hf 1
      have f2 := five_f hf 2
      have f3 := five_f hf 3
      have f4 := five_f hf 4
      clear hf b1
      go_wp2_with fail
      refine (bare_ref u.text _ (by have := unhide HTX; omega)).mono ?_
      rintro e w2 ⟨rfl, rfl⟩
      go_wp2_with fail
      refine (parse_ref (bareV u.text) _ (by have := unhide HTX; have := bare_size u.text; omega)).mono ?_
      rintro e w3 ⟨rfl, b3⟩
      have HB2 := hide (below_nx (unhide HB) b3)
      clear b3
      obtain ⟨r, hr⟩ : ∃ r, parseR (bareV u.text).data.toList = r := ⟨_, rfl⟩
      rw [hr] at E ⊢
      clear hr
      obtain ⟨p, q⟩ := r
      simp only [] at E ⊢
      cases e1 : (q != 0)
      · rw [e1] at E
        go_wp2
        go_ret2
        exact ⟨pair_n (unhide E), unhide HB2⟩
      · rw [e1] at E
        go_wp2
        go_ret2
        exact ⟨pair_n (unhide E), unhide HB2⟩
  · have k1 : u.kind = 1 := by rw [beq_iff_eq] at h1; exact h1
    have E : Hid (asNumV u = (u.num, 0)) := hide (by unfold asNumV; rw [if_pos k1])
    clear k1
    go_enter Tryz.func7, Tryz.ntmps7
    go_wp2_with fail
    refine (unhide HS _).mono ?_
    rintro e w1 ⟨rfl, b1⟩
    have hf := five_below (five_new w 29 (.int .i64 v.kind) (.int .i64 v.num) (.string v.text) (.bool v.tr) (.int .i64 v.fail)) b1 (by simp)
    have HB := hide (below_five ((below_al w (.cells #[.int .i64 v.kind, .int .i64 v.num, .string v.text, .bool v.tr, .int .i64 v.fail] 29)).trans (b1.mono (by simp))) (Nat.le_refl _) (.int .i64 u.kind) (.int .i64 u.num) (.string u.text) (.bool u.tr) (.int .i64 u.fail))
    have HF := hide (five_set hf (.int .i64 u.kind) (.int .i64 u.num) (.string u.text) (.bool u.tr) (.int .i64 u.fail))
    obtain ⟨x0, c0⟩ := five_c hf 0 (by omega)
    obtain ⟨x1, c1⟩ := five_c hf 1 (by omega)
    obtain ⟨x2, c2⟩ := five_c hf 2 (by omega)
    obtain ⟨x3, c3⟩ := five_c hf 3 (by omega)
    obtain ⟨x4, c4⟩ := five_c hf 4 (by omega)
    have f0 := five_f hf 0
    have f1 := five_f hf 1
    have f2 := five_f hf 2
    have f3 := five_f hf 3
    have f4 := five_f hf 4
    clear hf b1
    go_wp2
    go_ret2
    exact ⟨pair_n (unhide E), unhide HB⟩
end Go.Proofs.YteaodfeaidjcnaaGreatDoor

namespace Go.Proofs.YteaodfeaidjcnaaGreatDoor
open Go.RowKit

def asTextV (u : Vl) : ByteArray × Int := if u.kind = 4 then (noText, u.fail) else (showV u, 0)
theorem pair_s {k : IntKind} {r : ByteArray × Int} {a : ByteArray} {b : Int} (h : r = (a, b)) : Ending.returned (.tuple #[.string a, .int k b]) = .returned (.tuple #[.string r.1, .int k r.2]) := by rw [h]

set_option maxRecDepth 100000 in
set_option maxHeartbeats 4000000 in
theorem astext_ref (v : Vl) (w : World) (hs : v.text.size ≤ 1000) :
    Calls Tryz.prog 9 #[.agg v.cells] w fun e w' => e = .returned (.tuple #[.string (asTextV (vSound v)).1, .int .i64 (asTextV (vSound v)).2]) ∧ Below w.heap.size w w' := by
  obtain ⟨u, hu⟩ : ∃ u, vSound v = u := ⟨_, rfl⟩
  have HS := hide (fun w => sound_ref v w (by omega))
  have HTX : Hid (u.text.size ≤ 1000) := hide (by rw [← hu]; exact sound_size2 v hs)
  have HSH : Hid (∀ w, Calls Tryz.prog 14 #[.agg u.cells] w fun e w' => e = .returned (.string (showV u)) ∧ Below w.heap.size w w') := hide (fun w => by
    have h := show_ref u w (by have := unhide HTX; omega)
    rw [← hu, sound_idem v] at h
    rw [← hu]; exact h)
  rw [hu] at HS ⊢
  clear hu
  unfold Vl.cells at HS HSH ⊢
  cases h4 : (u.kind == 4)
  · have E : Hid (asTextV u = (showV u, 0)) := hide (by unfold asTextV; rw [if_neg (by rw [beq_eq_false_iff_ne] at h4; exact h4)])
    go_enter Tryz.func9, Tryz.ntmps9
    go_wp2_with fail
    refine (unhide HS _).mono ?_
    rintro e w1 ⟨rfl, b1⟩
    have hf := five_below (five_new w 29 (.int .i64 v.kind) (.int .i64 v.num) (.string v.text) (.bool v.tr) (.int .i64 v.fail)) b1 (by simp)
    have HB := hide (below_five ((below_al w (.cells #[.int .i64 v.kind, .int .i64 v.num, .string v.text, .bool v.tr, .int .i64 v.fail] 29)).trans (b1.mono (by simp))) (Nat.le_refl _) (.int .i64 u.kind) (.int .i64 u.num) (.string u.text) (.bool u.tr) (.int .i64 u.fail))
    have HF := hide (five_set hf (.int .i64 u.kind) (.int .i64 u.num) (.string u.text) (.bool u.tr) (.int .i64 u.fail))
    obtain ⟨x0, c0⟩ := five_c hf 0 (by omega)
    obtain ⟨x1, c1⟩ := five_c hf 1 (by omega)
    obtain ⟨x2, c2⟩ := five_c hf 2 (by omega)
    obtain ⟨x3, c3⟩ := five_c hf 3 (by omega)
    obtain ⟨x4, c4⟩ := five_c hf 4 (by omega)
    have f0 := five_f hf 0
    have f1 := five_f hf 1
    have f2 := five_f hf 2
    have f3 := five_f hf 3
    have f4 := five_f hf 4
    clear hf b1
    go_wp2_with fail
    refine (unhide HSH _).mono ?_
    rintro e w2 ⟨rfl, b2⟩
    have HB2 := hide (below_nx (unhide HB) b2)
    clear b2
    go_wp2
    go_ret2
    exact ⟨pair_s (unhide E), unhide HB2⟩
  · have E : Hid (asTextV u = (noText, u.fail)) := hide (by unfold asTextV; rw [if_pos (by rw [beq_iff_eq] at h4; exact h4)])
    go_enter Tryz.func9, Tryz.ntmps9
    go_wp2_with fail
    refine (unhide HS _).mono ?_
    rintro e w1 ⟨rfl, b1⟩
    have hf := five_below (five_new w 29 (.int .i64 v.kind) (.int .i64 v.num) (.string v.text) (.bool v.tr) (.int .i64 v.fail)) b1 (by simp)
    have HB := hide (below_five ((below_al w (.cells #[.int .i64 v.kind, .int .i64 v.num, .string v.text, .bool v.tr, .int .i64 v.fail] 29)).trans (b1.mono (by simp))) (Nat.le_refl _) (.int .i64 u.kind) (.int .i64 u.num) (.string u.text) (.bool u.tr) (.int .i64 u.fail))
    have HF := hide (five_set hf (.int .i64 u.kind) (.int .i64 u.num) (.string u.text) (.bool u.tr) (.int .i64 u.fail))
    obtain ⟨x0, c0⟩ := five_c hf 0 (by omega)
    obtain ⟨x1, c1⟩ := five_c hf 1 (by omega)
    obtain ⟨x2, c2⟩ := five_c hf 2 (by omega)
    obtain ⟨x3, c3⟩ := five_c hf 3 (by omega)
    obtain ⟨x4, c4⟩ := five_c hf 4 (by omega)
    have f0 := five_f hf 0
    have f1 := five_f hf 1
    have f2 := five_f hf 2
    have f3 := five_f hf 3
    have f4 := five_f hf 4
    clear hf b1
    go_wp2
    go_region
    go_wp2
    go_ret2
    exact ⟨pair_s (unhide E), (unhide HB).drew⟩

/-- Which of two texts comes first, by bytes. -/
def ltL : List UInt8 → List UInt8 → Int
  | [], [] => 0
  | [], _ :: _ => -1
  | _ :: _, [] => 1
  | a :: l, b :: m => if a.toNat < b.toNat then -1 else if b.toNat < a.toNat then 1 else ltL l m
theorem drop_byte (s : ByteArray) (i : Nat) (h : i < s.size) : s.data.toList.drop i = s[i] :: s.data.toList.drop (i + 1) := by
  rw [List.drop_eq_getElem_cons (by exact h)]; rfl
theorem ltL_nil (l : List UInt8) (m : List UInt8) (h : l = [] ∨ m = []) : ltL l m = cmpV (l.length : Int) (m.length : Int) := by
  unfold cmpV
  rcases h with rfl | rfl
  · cases m with
    | nil => rfl
    | cons b m => rw [if_pos (by show ((0 : Nat) : Int) < ((m.length + 1 : Nat) : Int); omega)]; rfl
  · cases l with
    | nil => rfl
    | cons b m => rw [if_neg (by show ¬ ((m.length + 1 : Nat) : Int) < ((0 : Nat) : Int); omega), if_pos (by show ((0 : Nat) : Int) < ((m.length + 1 : Nat) : Int); omega)]; rfl
theorem cmpV_shift (a b : Int) (i : Nat) : cmpV (a - i) (b - i) = cmpV a b := by
  unfold cmpV
  by_cases h : a < b
  · rw [if_pos h, if_pos (by omega)]
  · rw [if_neg h, if_neg (by omega)]
    by_cases h2 : b < a
    · rw [if_pos h2, if_pos (by omega)]
    · rw [if_neg h2, if_neg (by omega)]

end Go.Proofs.YteaodfeaidjcnaaGreatDoor

namespace Go.Proofs.YteaodfeaidjcnaaGreatDoor
open Go.RowKit

def bl (k : Int) : Vl := ⟨k, 0, noText, false, 0⟩
/-- How two values of one kind stand. -/
def sameV (u x : Vl) : Int :=
  if u.kind = 1 then cmpV u.num x.num else if u.kind = 2 then ltL (mapB lowC u.text).data.toList (mapB lowC x.text).data.toList else if u.kind = 3 then (if u.tr = x.tr then 0 else if x.tr = true then -1 else 1) else 0
def ordV3 (u x : Vl) : Int × Int :=
  if u.kind = 4 then (0, u.fail) else if x.kind = 4 then (0, x.fail)
    else if u.kind = 0 then (if x.kind = 0 then (0, 0) else (sameV (bl x.kind) x, 0))
    else if x.kind = 0 then (sameV u (bl u.kind), 0)
    else if u.kind = x.kind then (sameV u x, 0) else (cmpV u.kind x.kind, 0)
theorem five_other {w : World} {B : Nat} {t : TypeId} {cs : Array Value} (h : FiveAt w B t cs) (C : Nat) (hC : B ≠ C) (x0 x1 x2 x3 x4 : Value) :
    FiveAt (((((w.setCell ⟨C, 0, none⟩ x0).setCell ⟨C, 1, none⟩ x1).setCell ⟨C, 2, none⟩ x2).setCell ⟨C, 3, none⟩ x3).setCell ⟨C, 4, none⟩ x4) B t cs := by
  refine ⟨?_, h.2⟩
  rw [heap_setCell_other _ _ _ _ hC, heap_setCell_other _ _ _ _ hC, heap_setCell_other _ _ _ _ hC, heap_setCell_other _ _ _ _ hC, heap_setCell_other _ _ _ _ hC]
  exact h.1

end Go.Proofs.YteaodfeaidjcnaaGreatDoor
