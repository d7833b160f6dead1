/- The contract of the program's Get, of layer 3. -/
import Derived.Deep.CutRange
import Derived.Test.YteaodfeaidjcnaaDoorVpO
import Derived.Test.YteaodfeaidjcnaaDoorVpJ0
namespace Go.Proofs.YteaodfeaidjcnaaDoor
open Go.RowKit

/-- What the program tells of a text from place k on. -/
def getF (t : ByteArray) (k : Int) : Vl × Int × Int := if (firstV t).2 = 0 then (blank0, 0, 4) else if vGood (firstV t).1 = true then ((firstV t).1, k + (firstV t).2, 0) else (blank0, 0, 4)
def getP (s : ByteArray) (k : Int) : Vl × Int × Int := if k < 0 ∨ (s.size : Int) < k then (blank0, 0, 3) else getF (s.extract k.toNat s.size) k
theorem get_post {R X : Vl × Int × Int} {w w' : World} {cs : Array Value} {n e : Int} (h : R = X) (h1 : X.1.cells = cs) (h2 : X.2.1 = n) (h3 : X.2.2 = e) (hb : Below w.heap.size w w') : GetPost R w (.returned (.tuple #[.agg cs, .int .i64 n, .int .i64 e])) w' := by
  subst h h1 h2 h3; exact ⟨rfl, hb⟩
theorem first_in (t : ByteArray) : 0 ≤ (firstV t).2 ∧ (firstV t).2 ≤ 300 := by
  unfold firstV firstR
  have := (byteAt (t.extract 1 t.size) 0).toNat_lt
  repeat' split
  all_goals (simp only []; omega)
theorem ext_size (t : ByteArray) (a b : Nat) : (t.extract a b).size ≤ t.size := by rw [ByteArray.size_extract]; omega
theorem firstR_text (c : Int) (r : ByteArray) : (firstR c r).1.text.size ≤ r.size := by
  have z : noText.size = 0 := rfl
  unfold firstR
  repeat' split
  all_goals first
    | (show noText.size ≤ _; rw [z]; exact Nat.zero_le _)
    | (show (r.extract _ _).size ≤ _; exact ext_size _ _ _)
theorem first_text (t : ByteArray) : (firstV t).1.text.size ≤ t.size := by
  unfold firstV
  split
  · show noText.size ≤ _
    exact Nat.zero_le _
  · exact Nat.le_trans (firstR_text _ _) (ext_size _ _ _)

set_option maxRecDepth 100000 in
set_option maxHeartbeats 2000000 in
theorem get_outp (s : ByteArray) (k : Int) (w : World) (h : k < 0 ∨ (s.size : Int) < k) :
    Calls Tryd.prog 29 #[.string s, .int .i64 k] w fun e w' => GetPost (blank0, 0, 3) w e w' := by
  by_cases h0 : k < 0
  · clear h
    have d1 : decide (k < 0) = true := decide_eq_true h0
    clear h0
    go_enter Tryd.func29, Tryd.ntmps29
    go_wp2
    refine bodyPost_ret (results_row3 rfl _ _ _ _ _ _ _ rfl (heap_alloc_new _ _) Tryd.underlying28 rfl (by exact infoVal) _ _ rfl rfl) rfl ?_
    exact ⟨rfl, below_al _ _⟩
  · have d1 : decide (k < 0) = false := decide_eq_false h0
    have d2 : decide ((s.size : Int) < k) = true := decide_eq_true (by omega)
    clear h h0
    go_enter Tryd.func29, Tryd.ntmps29
    go_wp2
    refine bodyPost_ret (results_row3 rfl _ _ _ _ _ _ _ rfl (heap_alloc_new _ _) Tryd.underlying28 rfl (by exact infoVal) _ _ rfl rfl) rfl ?_
    exact ⟨rfl, below_al _ _⟩

set_option maxRecDepth 100000 in
set_option maxHeartbeats 4000000 in
theorem get_inp (s : ByteArray) (k : Nat) (w : World) (hs : s.size ≤ 100000) (hk : k ≤ s.size) :
    Calls Tryd.prog 29 #[.string s, .int .i64 (k : Int)] w fun e w' => GetPost (getF (s.extract k s.size) k) w e w' := by
  have d1 : decide ((k : Int) < 0) = false := decide_eq_false (by omega)
  have d2 : decide ((s.size : Int) < (k : Int)) = false := decide_eq_false (by omega)
  have hki : (k : Int) ≤ (s.size : Int) := by omega
  have hk0 : (0 : Int) ≤ (k : Int) := by omega
  have hsi : (s.size : Int) ≤ 100000 := by omega
  have HF := hide (fun w => first_val (s.extract k s.size) w (by have := ext_size s k s.size; omega))
  have HN := hide (first_in (s.extract k s.size))
  have HG := hide (fun w => good3_val (firstV (s.extract k s.size)).1 w (by have := first_text (s.extract k s.size); have := ext_size s k s.size; omega))
  obtain ⟨R, hR⟩ : ∃ R, getF (s.extract k s.size) k = R := ⟨_, rfl⟩
  rw [hR]
  unfold getF at hR
  obtain ⟨r, hr⟩ : ∃ r, firstV (s.extract k s.size) = r := ⟨_, rfl⟩
  rw [hr] at HF HN HG hR
  clear hr
  obtain ⟨v, n⟩ := r
  simp only [] at HN HG hR
  have HR := hide hR
  clear hR
  unfold Vl.cells at HG
  go_enter Tryd.func29, Tryd.ntmps29
  go_wp2_with fail
  refine (unhide HF _).mono ?_
  rintro e w1 ⟨rfl, b1⟩
  simp only []
  unfold Vl.cells
  have HO := hide (five_below (five_new w 28 (.int .i64 0) (.int .i64 0) (.string ⟨#[]⟩) (.bool false) (.int .i64 0)) b1 (by simp))
  have HB := hide (below_nx (below_al w (.cells #[.int .i64 0, .int .i64 0, .string ⟨#[]⟩, .bool false, .int .i64 0] 28)) b1)
  clear b1 HF
  have HV := hide (five_new w1 28 (.int .i64 v.kind) (.int .i64 v.num) (.string v.text) (.bool v.tr) (.int .i64 v.fail))
  have bb := below_al w1 (.cells #[.int .i64 v.kind, .int .i64 v.num, .string v.text, .bool v.tr, .int .i64 v.fail] 28)
  have HL := hide (five_lt (unhide HO))
  replace HO := hide (five_below (unhide HO) bb (five_lt (unhide HO)))
  replace HB := hide (below_nx (unhide HB) bb)
  clear bb
  go_upto_region 4 with fail
  generalize hW : w1.alloc (.cells #[.int .i64 v.kind, .int .i64 v.num, .string v.text, .bool v.tr, .int .i64 v.fail] 28) = W1 at HO HV HB ⊢
  clear hW
  clear d1 d2
  cases n0 : (n == 0)
  · have hr := unhide HR
    rw [if_neg (by rw [beq_eq_false_iff_ne] at n0; exact n0)] at hr
    replace HR := hide hr
    clear hr
    obtain ⟨v0, v1, v2, v3, v4⟩ := five_cells (unhide HV)
    go_wp2_with fail
    refine (unhide HG _).mono ?_
    rintro e w2 ⟨rfl, b2⟩
    replace HO := hide (five_below (unhide HO) b2 (five_lt (unhide HO)))
    replace HV := hide (five_below (unhide HV) b2 (five_lt (unhide HV)))
    replace HB := hide (below_nx (unhide HB) b2)
    clear b2 v0 v1 v2 v3 v4
    cases hg : vGood v
    · rw [hg] at HR
      have hf := unhide HO
      obtain ⟨x0, c0⟩ := five_c hf 0 (by omega)
      obtain ⟨x1, c1⟩ := five_c hf 1 (by omega)
      obtain ⟨x2, c2⟩ := five_c hf 2 (by omega)
      obtain ⟨x3, c3⟩ := five_c hf 3 (by omega)
      obtain ⟨x4, c4⟩ := five_c hf 4 (by omega)
      have f0 := five_f hf 0
      have f1 := five_f hf 1
      have f2 := five_f hf 2
      have f3 := five_f hf 3
      have f4 := five_f hf 4
      clear hf
      go_wp2
      refine bodyPost_ret (results_row3 rfl _ _ _ _ _ _ _ rfl (five_set (unhide HO) _ _ _ _ _).1 Tryd.underlying28 rfl (by exact infoVal) _ _ rfl rfl) rfl ?_
      exact get_post (unhide HR).symm rfl rfl rfl (below_five (unhide HB) (Nat.le_refl _) _ _ _ _ _)
    · rw [hg, if_pos rfl] at HR
      have hf := unhide HO
      obtain ⟨x0, c0⟩ := five_c hf 0 (by omega)
      obtain ⟨x1, c1⟩ := five_c hf 1 (by omega)
      obtain ⟨x2, c2⟩ := five_c hf 2 (by omega)
      obtain ⟨x3, c3⟩ := five_c hf 3 (by omega)
      obtain ⟨x4, c4⟩ := five_c hf 4 (by omega)
      have f0 := five_f hf 0
      have f1 := five_f hf 1
      have f2 := five_f hf 2
      have f3 := five_f hf 3
      have f4 := five_f hf 4
      clear hf
      obtain ⟨v0, v1, v2, v3, v4⟩ := five_cells (unhide HV)
      obtain ⟨hn0, hn1⟩ := unhide HN
      go_wp2
      refine bodyPost_ret (results_row3 rfl _ _ _ _ _ _ _ rfl (five_set (unhide HO) _ _ _ _ _).1 Tryd.underlying28 rfl (by exact infoVal) _ _ rfl rfl) rfl ?_
      exact get_post (unhide HR).symm rfl rfl rfl (below_five (unhide HB) (Nat.le_refl _) _ _ _ _ _)
  · have hr := unhide HR
    rw [if_pos (by rw [beq_iff_eq] at n0; exact n0)] at hr
    replace HR := hide hr
    clear hr
    have hf := unhide HO
    obtain ⟨x0, c0⟩ := five_c hf 0 (by omega)
    obtain ⟨x1, c1⟩ := five_c hf 1 (by omega)
    obtain ⟨x2, c2⟩ := five_c hf 2 (by omega)
    obtain ⟨x3, c3⟩ := five_c hf 3 (by omega)
    obtain ⟨x4, c4⟩ := five_c hf 4 (by omega)
    have f0 := five_f hf 0
    have f1 := five_f hf 1
    have f2 := five_f hf 2
    have f3 := five_f hf 3
    have f4 := five_f hf 4
    clear hf
    go_wp2
    refine bodyPost_ret (results_row3 rfl _ _ _ _ _ _ _ rfl (five_set (unhide HO) _ _ _ _ _).1 Tryd.underlying28 rfl (by exact infoVal) _ _ rfl rfl) rfl ?_
    exact get_post (unhide HR).symm rfl rfl rfl (below_five (unhide HB) (Nat.le_refl _) _ _ _ _ _)

theorem get_val (s : ByteArray) (k : Int) (w : World) (hs : s.size ≤ 100000) :
    Calls Tryd.prog 29 #[.string s, .int .i64 k] w fun e w' => GetPost (getP s k) w e w' := by
  unfold getP
  by_cases h : k < 0 ∨ (s.size : Int) < k
  · rw [if_pos h]; exact get_outp s k w h
  · rw [if_neg h]
    obtain ⟨n, rfl⟩ : ∃ n : Nat, k = n := ⟨k.toNat, by omega⟩
    exact get_inp s n w hs (by omega)
end Go.Proofs.YteaodfeaidjcnaaDoor
