/- The contract of the program's Read, of layer 3. -/
import Derived.Test.YteaodfeaidjcnaaGreatDoorVpH
import Derived.Test.YteaodfeaidjcnaaGreatDoorVrL
namespace Go.Proofs.YteaodfeaidjcnaaGreatDoor
open Go.RowKit

theorem read_truth (s : ByteArray) (Z : Vl) (h : (if ((mapB lowC s).toList == [116, 114, 117, 101]) = true then vB true else if ((mapB lowC s).toList == [102, 97, 108, 115, 101]) = true then vB false else rsV s 8) = Z) :
    (if (truthV s).2 = true then vB (truthV s).1 else rsV s 8) = Z := by
  rw [← h]
  unfold truthV
  cases e2 : ((mapB lowC s).toList == [116, 114, 117, 101])
  · cases e3 : ((mapB lowC s).toList == [102, 97, 108, 115, 101])
    · rfl
    · rfl
  · rfl
theorem beq_sym (a b : List UInt8) : (a == b) = (b == a) := by
  by_cases h : a = b
  · rw [h]
  · rw [beq_eq_false_iff_ne.mpr h, beq_eq_false_iff_ne.mpr (Ne.symm h)]
/-- The signs as the program tries them: None's, which is empty, first. -/
def rsQ (s : ByteArray) (k : Nat) : Vl := rsV s (min k 8)

set_option maxRecDepth 100000 in
set_option maxHeartbeats 4000000 in
theorem read_val (s : ByteArray) (w : World) (hs : s.size ≤ 1000000) (he : Env3 w) :
    Calls Tryz.prog 18 #[.string s] w fun e w' => e = .returned (.agg (readV s).cells) ∧ Below w.heap.size w w' := by
  have HE := hide he
  clear he
  obtain ⟨Z, hZ⟩ : ∃ Z, readV s = Z := ⟨_, rfl⟩
  rw [hZ]
  unfold readV at hZ
  have HS := hide hs
  clear hs
  cases e0 : (s.toList == [])
  · rw [e0, if_neg (by decide)] at hZ
    have HZ := hide hZ
    clear hZ
    go_enter Tryz.func18, Tryz.ntmps18
    go_wp2_with fail
    refine (parse_any s _ (by have := unhide HS; omega) ((unhide HE).below (below_al w _)).len).mono ?_
    rintro e w1 ⟨rfl, b1⟩
    have HF := hide (five_below (five_new w 28 _ _ _ _ _) b1 (by simp))
    have HB := hide ((below_al w _).trans (b1.mono (by simp)))
    clear b1
    obtain ⟨r, hr⟩ : ∃ r, parseR s.data.toList = r := ⟨_, rfl⟩
    rw [hr] at HZ ⊢
    clear hr
    obtain ⟨p, q⟩ := r
    simp only [] at HZ ⊢
    cases e1 : (q == 0)
    · rw [e1, if_neg (by decide)] at HZ
      replace HZ := hide (read_truth s Z (unhide HZ))
      go_wp2_with fail
      refine (truth_val s _ (by have := unhide HS; omega)).mono ?_
      rintro e w2 ⟨rfl, b2⟩
      replace HF := hide (five_below (unhide HF) b2 (five_lt (unhide HF)))
      replace HB := hide (below_nx (unhide HB) b2)
      clear b2
      obtain ⟨R, hR⟩ : ∃ R, truthV s = R := ⟨_, rfl⟩
      rw [hR] at HZ ⊢
      clear hR
      obtain ⟨tb, ok⟩ := R
      simp only [] at HZ ⊢
      cases ok
      · rw [if_neg (by decide)] at HZ
        replace HZ : Hid (rsQ s 9 = Z) := hide (unhide HZ)
        go_wp2
        go_loopw [28] (fun v wr => ∃ k : Nat, v = .int .i64 (9 - (k : Int)) ∧ k ≤ 9 ∧ Hid (rsQ s k = Z) ∧ Hid (FiveAt wr w.heap.size 28 #[.int .i64 0, .int .i64 0, .string ⟨#[]⟩, .bool false, .int .i64 0]) ∧ Hid (Below w.heap.size w wr)) (fun v _ => (9 - intOf v).toNat)
        case atStart => exact ⟨9, rfl, by omega, HZ, HF, HB⟩
        case round =>
          clear HF HB HZ
          obtain ⟨k, rfl, hk, HZ, HF, HB⟩ := hrel
          cases k with
          | zero =>
            have E : Hid (Z = vT s) := hide (unhide HZ).symm
            clear HZ
            go_wp2_with fail
            refine (t_val s _ (by have := unhide HS; omega)).mono ?_
            rintro e wz ⟨rfl, bb⟩
            have hf := five_below (unhide HF) bb (five_lt (unhide HF))
            obtain ⟨x0, c0⟩ := five_c hf 0 (by omega)
            obtain ⟨x1, c1⟩ := five_c hf 1 (by omega)
            obtain ⟨x2, c2⟩ := five_c hf 2 (by omega)
            obtain ⟨x3, c3⟩ := five_c hf 3 (by omega)
            obtain ⟨x4, c4⟩ := five_c hf 4 (by omega)
            have f0 := five_f hf 0
            have f1 := five_f hf 1
            have f2 := five_f hf 2
            have f3 := five_f hf 3
            have f4 := five_f hf 4
            have HFZ := hide hf
            have HBZ := hide (below_nx (unhide HB) bb)
            clear hf bb
            obtain ⟨z, hz⟩ : ∃ z, vT s = z := ⟨_, rfl⟩
            rw [hz] at E ⊢
            clear hz
            unfold Vl.cells
            go_wp2
            refine bodyPost_ret (results_cell_row rfl _ _ _ _ _ _ _ rfl (five_set (unhide HFZ) _ _ _ _ _).1 Tryz.underlying28 rfl infoVal) rfl ?_
            exact ⟨by rw [unhide E]; rfl, below_five (unhide HBZ) (Nat.le_refl _) _ _ _ _ _⟩
          | succ j =>
            have hj : (9 - ((j + 1 : Nat) : Int)) = 8 - (j : Int) := by omega
            rw [hj]
            have hle : decide (8 - (j : Int) < 9) = true := decide_eq_true (by omega)
            go_wp2_with fail
            refine (sign_b _ _ ((unhide HE).below (unhide HB))).mono ?_
            rintro e w3 ⟨rfl, b3⟩
            replace HF := hide (five_below (unhide HF) b3 (five_lt (unhide HF)))
            replace HB := hide (below_nx (unhide HB) b3)
            clear b3
            by_cases h8 : j = 8
            · have hS : signV (8 - (j : Int)) = ⟨#[]⟩ := by subst h8; rfl
              rw [hS]
              replace HZ : Hid (rsQ s j = Z) := hide (by have := unhide HZ; subst h8; exact this)
              clear hS h8
              go_wp2
              exact ⟨⟨j, int_eqv (by omega), by omega, HZ, HF, HB⟩, by simp [intOf]; omega⟩
            · have hz : rsV s (j + 1) = Z := by have := unhide HZ; unfold rsQ at this; rw [show min (j + 1) 8 = j + 1 by omega] at this; exact this
              have hm : Hid (rsQ s j = rsV s j) := hide (by unfold rsQ; rw [show min j 8 = j by omega])
              unfold rsV at hz
              obtain ⟨S, hS⟩ : ∃ S, signV (8 - (j : Int)) = S := ⟨_, rfl⟩
              rw [hS] at hz ⊢
              clear hS h8
              replace HZ := hide hz
              clear hz
              have hsy : (s.toList == S.toList) = (S.toList == s.toList) := beq_sym _ _
              rw [← hsy] at HZ
              clear hsy
              cases e4 : (s.toList == S.toList)
              · rw [e4, if_neg (by decide)] at HZ
                go_wp2
                exact ⟨⟨j, int_eqv (by omega), by omega, hide ((unhide hm).trans (unhide HZ)), HF, HB⟩, by simp [intOf]; omega⟩
              · have E : Hid (Z = vE (8 - (j : Int))) := hide (by have := unhide HZ; rw [e4, if_pos rfl] at this; exact this.symm)
                clear HZ
                go_wp2_with fail
                refine (e_val _ _).mono ?_
                rintro e wz ⟨rfl, bb⟩
                have hf := five_below (unhide HF) bb (five_lt (unhide HF))
                obtain ⟨x0, c0⟩ := five_c hf 0 (by omega)
                obtain ⟨x1, c1⟩ := five_c hf 1 (by omega)
                obtain ⟨x2, c2⟩ := five_c hf 2 (by omega)
                obtain ⟨x3, c3⟩ := five_c hf 3 (by omega)
                obtain ⟨x4, c4⟩ := five_c hf 4 (by omega)
                have f0 := five_f hf 0
                have f1 := five_f hf 1
                have f2 := five_f hf 2
                have f3 := five_f hf 3
                have f4 := five_f hf 4
                have HFZ := hide hf
                have HBZ := hide (below_nx (unhide HB) bb)
                clear hf bb
                obtain ⟨z, hz⟩ : ∃ z, vE (8 - (j : Int)) = z := ⟨_, rfl⟩
                rw [hz] at E ⊢
                clear hz
                unfold Vl.cells
                go_wp2
                refine bodyPost_ret (results_cell_row rfl _ _ _ _ _ _ _ rfl (five_set (unhide HFZ) _ _ _ _ _).1 Tryz.underlying28 rfl infoVal) rfl ?_
                exact ⟨by rw [unhide E]; rfl, below_five (unhide HBZ) (Nat.le_refl _) _ _ _ _ _⟩
      · have E : Hid (Z = vB tb) := hide (by have := unhide HZ; rw [if_pos rfl] at this; exact this.symm)
        clear HZ
        go_wp2_with fail
        refine (b_val tb _).mono ?_
        rintro e wz ⟨rfl, bb⟩
        have hf := five_below (unhide HF) bb (five_lt (unhide HF))
        obtain ⟨x0, c0⟩ := five_c hf 0 (by omega)
        obtain ⟨x1, c1⟩ := five_c hf 1 (by omega)
        obtain ⟨x2, c2⟩ := five_c hf 2 (by omega)
        obtain ⟨x3, c3⟩ := five_c hf 3 (by omega)
        obtain ⟨x4, c4⟩ := five_c hf 4 (by omega)
        have f0 := five_f hf 0
        have f1 := five_f hf 1
        have f2 := five_f hf 2
        have f3 := five_f hf 3
        have f4 := five_f hf 4
        have HFZ := hide hf
        have HBZ := hide (below_nx (unhide HB) bb)
        clear hf bb
        obtain ⟨z, hz⟩ : ∃ z, vB tb = z := ⟨_, rfl⟩
        rw [hz] at E ⊢
        clear hz
        unfold Vl.cells
        go_wp2
        refine bodyPost_ret (results_cell_row rfl _ _ _ _ _ _ _ rfl (five_set (unhide HFZ) _ _ _ _ _).1 Tryz.underlying28 rfl infoVal) rfl ?_
        exact ⟨by rw [unhide E]; rfl, below_five (unhide HBZ) (Nat.le_refl _) _ _ _ _ _⟩
    · have E : Hid (Z = vN p) := hide (by have := unhide HZ; rw [e1, if_pos rfl] at this; exact this.symm)
      clear HZ
      go_wp2_with fail
      refine (n_val p _).mono ?_
      rintro e wz ⟨rfl, bb⟩
      have hf := five_below (unhide HF) bb (five_lt (unhide HF))
      obtain ⟨x0, c0⟩ := five_c hf 0 (by omega)
      obtain ⟨x1, c1⟩ := five_c hf 1 (by omega)
      obtain ⟨x2, c2⟩ := five_c hf 2 (by omega)
      obtain ⟨x3, c3⟩ := five_c hf 3 (by omega)
      obtain ⟨x4, c4⟩ := five_c hf 4 (by omega)
      have f0 := five_f hf 0
      have f1 := five_f hf 1
      have f2 := five_f hf 2
      have f3 := five_f hf 3
      have f4 := five_f hf 4
      have HFZ := hide hf
      have HBZ := hide (below_nx (unhide HB) bb)
      clear hf bb
      obtain ⟨z, hz⟩ : ∃ z, vN p = z := ⟨_, rfl⟩
      rw [hz] at E ⊢
      clear hz
      unfold Vl.cells
      go_wp2
      refine bodyPost_ret (results_cell_row rfl _ _ _ _ _ _ _ rfl (five_set (unhide HFZ) _ _ _ _ _).1 Tryz.underlying28 rfl infoVal) rfl ?_
      exact ⟨by rw [unhide E]; rfl, below_five (unhide HBZ) (Nat.le_refl _) _ _ _ _ _⟩
  · rw [e0, if_pos rfl] at hZ
    rw [← hZ]
    clear hZ
    unfold Vl.cells
    go_enter Tryz.func18, Tryz.ntmps18
    go_wp2
    refine bodyPost_ret (results_cell_row rfl _ _ _ _ _ _ _ rfl (heap_alloc_new _ _) Tryz.underlying28 rfl infoVal) rfl ?_
    exact ⟨rfl, below_al _ _⟩
end Go.Proofs.YteaodfeaidjcnaaGreatDoor
