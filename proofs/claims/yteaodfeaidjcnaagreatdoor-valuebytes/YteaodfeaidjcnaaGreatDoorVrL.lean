/- The contract of the reference's Read, of layer 3. -/
import Derived.Test.YteaodfeaidjcnaaGreatDoorVrK
namespace Go.Proofs.YteaodfeaidjcnaaGreatDoor
open Go.RowKit

/-- What a text is that is no number and no truth: the last k signs are still to be tried. -/
def rsV (s : ByteArray) : Nat → Vl
  | 0 => vT s
  | k + 1 => if ((signV (8 - k)).toList == s.toList) = true then vE (8 - k) else rsV s k
def readV (s : ByteArray) : Vl :=
  if (s.toList == []) = true then ⟨0, 0, noText, false, 0⟩ else if ((parseR s.data.toList).2 == 0) = true then vN (parseR s.data.toList).1
    else if ((mapB lowC s).toList == [116, 114, 117, 101]) = true then vB true else if ((mapB lowC s).toList == [102, 97, 108, 115, 101]) = true then vB false else rsV s 8

set_option maxRecDepth 100000 in
set_option maxHeartbeats 4000000 in
theorem read_ref (s : ByteArray) (w : World) (hs : s.size ≤ 1000) :
    Calls Tryz.prog 19 #[.string s] w fun e w' => e = .returned (.agg (readV s).cells) ∧ Below w.heap.size w w' := by
  obtain ⟨Z, hZ⟩ : ∃ Z, readV s = Z := ⟨_, rfl⟩
  rw [hZ]
  unfold readV at hZ
  have HS := hide hs
  clear hs
  cases e0 : (s.toList == [])
  · rw [e0, if_neg (by decide)] at hZ
    have HZ := hide hZ
    clear hZ
    go_enter Tryz.func19, Tryz.ntmps19
    go_wp2_with fail
    refine (parse_ref s _ (unhide HS)).mono ?_
    rintro e w1 ⟨rfl, b1⟩
    have HF := hide (five_below (five_new w 29 _ _ _ _ _) b1 (by simp))
    have HB := hide ((below_al w _).trans (b1.mono (by simp)))
    clear b1
    obtain ⟨r, hr⟩ : ∃ r, parseR s.data.toList = r := ⟨_, rfl⟩
    rw [hr] at HZ ⊢
    clear hr
    obtain ⟨p, q⟩ := r
    simp only [] at HZ ⊢
    cases e1 : (q == 0)
    · rw [e1, if_neg (by decide)] at HZ
      go_wp2_with fail
      refine (lower_ref s _ (by have := unhide HS; omega)).mono ?_
      rintro e w2 ⟨rfl, b2⟩
      replace HF := hide (five_below (unhide HF) b2 (five_lt (unhide HF)))
      replace HB := hide (below_nx (unhide HB) b2)
      clear b2
      obtain ⟨L, hL⟩ : ∃ L, mapB lowC s = L := ⟨_, rfl⟩
      rw [hL] at HZ ⊢
      clear hL
      cases e2 : (L.toList == [116, 114, 117, 101])
      · rw [e2, if_neg (by decide)] at HZ
        cases e3 : (L.toList == [102, 97, 108, 115, 101])
        · rw [e3, if_neg (by decide)] at HZ
          go_wp2
          go_loopw [6] (fun v wr => ∃ k : Nat, v = .int .i64 (9 - (k : Int)) ∧ k ≤ 8 ∧ Hid (rsV s k = Z) ∧ Hid (FiveAt wr w.heap.size 29 #[.int .i64 0, .int .i64 0, .string ⟨#[]⟩, .bool false, .int .i64 0]) ∧ Hid (Below w.heap.size w wr)) (fun v _ => (9 - intOf v).toNat)
          case atStart => exact ⟨8, rfl, by omega, HZ, HF, HB⟩
          case round =>
            clear HF HB HZ
            obtain ⟨k, rfl, hk, HZ, HF, HB⟩ := hrel
            cases k with
            | zero =>
              have E : Hid (Z = vT s) := hide (unhide HZ).symm
              clear HZ
              go_wp2_with fail
              refine (t_ref s _ (by have := unhide HS; omega)).mono ?_
              rintro e wz ⟨rfl, bb⟩
              have hf := five_below (unhide HF) bb (five_lt (unhide HF))
              obtain ⟨x0, c0⟩ := five_c hf 0 (by omega)
              obtain ⟨x1, c1⟩ := five_c hf 1 (by omega)
              obtain ⟨x2, c2⟩ := five_c hf 2 (by omega)
              obtain ⟨x3, c3⟩ := five_c hf 3 (by omega)
              obtain ⟨x4, c4⟩ := five_c hf 4 (by omega)
              have f0 := five_f hf 0
              have f1 := five_f hf 1
              have f2 := five_f hf 2
              have f3 := five_f hf 3
              have f4 := five_f hf 4
              have HFZ := hide hf
              have HBZ := hide (below_nx (unhide HB) bb)
              clear hf bb
              obtain ⟨z, hz⟩ : ∃ z, vT s = z := ⟨_, rfl⟩
              rw [hz] at E ⊢
              clear hz
              unfold Vl.cells
              go_wp2
              refine bodyPost_ret (results_cell_row rfl _ _ _ _ _ _ _ rfl (five_set (unhide HFZ) _ _ _ _ _).1 Tryz.underlying29 rfl infoRef) rfl ?_
              exact ⟨by rw [unhide E]; rfl, below_five (unhide HBZ) (Nat.le_refl _) _ _ _ _ _⟩
            | succ j =>
              have hj : (9 - ((j + 1 : Nat) : Int)) = 8 - (j : Int) := by omega
              rw [hj]
              have hle : decide (8 - (j : Int) ≤ 8) = true := decide_eq_true (by omega)
              go_wp2_with fail
              refine (signs_ref _ _).mono ?_
              rintro e w3 ⟨rfl, b3⟩
              replace HF := hide (five_below (unhide HF) b3 (five_lt (unhide HF)))
              replace HB := hide (below_nx (unhide HB) b3)
              clear b3
              have hz := unhide HZ
              unfold rsV at hz
              obtain ⟨S, hS⟩ : ∃ S, signV (8 - (j : Int)) = S := ⟨_, rfl⟩
              rw [hS] at hz ⊢
              clear hS
              replace HZ := hide hz
              clear hz
              cases e4 : (S.toList == s.toList)
              · rw [e4, if_neg (by decide)] at HZ
                go_wp2
                exact ⟨⟨j, int_eqv (by omega), by omega, HZ, HF, HB⟩, by simp [intOf]; omega⟩
              · have E : Hid (Z = vE (8 - (j : Int))) := hide (by have := unhide HZ; rw [e4, if_pos rfl] at this; exact this.symm)
                clear HZ
                go_wp2_with fail
                refine (e_ref _ _).mono ?_
                rintro e wz ⟨rfl, bb⟩
                have hf := five_below (unhide HF) bb (five_lt (unhide HF))
                obtain ⟨x0, c0⟩ := five_c hf 0 (by omega)
                obtain ⟨x1, c1⟩ := five_c hf 1 (by omega)
                obtain ⟨x2, c2⟩ := five_c hf 2 (by omega)
                obtain ⟨x3, c3⟩ := five_c hf 3 (by omega)
                obtain ⟨x4, c4⟩ := five_c hf 4 (by omega)
                have f0 := five_f hf 0
                have f1 := five_f hf 1
                have f2 := five_f hf 2
                have f3 := five_f hf 3
                have f4 := five_f hf 4
                have HFZ := hide hf
                have HBZ := hide (below_nx (unhide HB) bb)
                clear hf bb
                obtain ⟨z, hz⟩ : ∃ z, vE (8 - (j : Int)) = z := ⟨_, rfl⟩
                rw [hz] at E ⊢
                clear hz
                unfold Vl.cells
                go_wp2
                refine bodyPost_ret (results_cell_row rfl _ _ _ _ _ _ _ rfl (five_set (unhide HFZ) _ _ _ _ _).1 Tryz.underlying29 rfl infoRef) rfl ?_
                exact ⟨by rw [unhide E]; rfl, below_five (unhide HBZ) (Nat.le_refl _) _ _ _ _ _⟩
        · have E : Hid (Z = vB false) := hide (by have := unhide HZ; rw [e3, if_pos rfl] at this; exact this.symm)
          clear HZ
          go_wp2_with fail
          refine (b_ref false _).mono ?_
          rintro e wz ⟨rfl, bb⟩
          have hf := five_below (unhide HF) bb (five_lt (unhide HF))
          obtain ⟨x0, c0⟩ := five_c hf 0 (by omega)
          obtain ⟨x1, c1⟩ := five_c hf 1 (by omega)
          obtain ⟨x2, c2⟩ := five_c hf 2 (by omega)
          obtain ⟨x3, c3⟩ := five_c hf 3 (by omega)
          obtain ⟨x4, c4⟩ := five_c hf 4 (by omega)
          have f0 := five_f hf 0
          have f1 := five_f hf 1
          have f2 := five_f hf 2
          have f3 := five_f hf 3
          have f4 := five_f hf 4
          have HFZ := hide hf
          have HBZ := hide (below_nx (unhide HB) bb)
          clear hf bb
          obtain ⟨z, hz⟩ : ∃ z, vB false = z := ⟨_, rfl⟩
          rw [hz] at E ⊢
          clear hz
          unfold Vl.cells
          go_wp2
          refine bodyPost_ret (results_cell_row rfl _ _ _ _ _ _ _ rfl (five_set (unhide HFZ) _ _ _ _ _).1 Tryz.underlying29 rfl infoRef) rfl ?_
          exact ⟨by rw [unhide E]; rfl, below_five (unhide HBZ) (Nat.le_refl _) _ _ _ _ _⟩
      · have E : Hid (Z = vB true) := hide (by have := unhide HZ; rw [e2, if_pos rfl] at this; exact this.symm)
        clear HZ
        go_wp2_with fail
        refine (b_ref true _).mono ?_
        rintro e wz ⟨rfl, bb⟩
        have hf := five_below (unhide HF) bb (five_lt (unhide HF))
        obtain ⟨x0, c0⟩ := five_c hf 0 (by omega)
        obtain ⟨x1, c1⟩ := five_c hf 1 (by omega)
        obtain ⟨x2, c2⟩ := five_c hf 2 (by omega)
        obtain ⟨x3, c3⟩ := five_c hf 3 (by omega)
        obtain ⟨x4, c4⟩ := five_c hf 4 (by omega)
        have f0 := five_f hf 0
        have f1 := five_f hf 1
        have f2 := five_f hf 2
        have f3 := five_f hf 3
        have f4 := five_f hf 4
        have HFZ := hide hf
        have HBZ := hide (below_nx (unhide HB) bb)
        clear hf bb
        obtain ⟨z, hz⟩ : ∃ z, vB true = z := ⟨_, rfl⟩
        rw [hz] at E ⊢
        clear hz
        unfold Vl.cells
        go_wp2
        refine bodyPost_ret (results_cell_row rfl _ _ _ _ _ _ _ rfl (five_set (unhide HFZ) _ _ _ _ _).1 Tryz.underlying29 rfl infoRef) rfl ?_
        exact ⟨by rw [unhide E]; rfl, below_five (unhide HBZ) (Nat.le_refl _) _ _ _ _ _⟩
    · have E : Hid (Z = vN p) := hide (by have := unhide HZ; rw [e1, if_pos rfl] at this; exact this.symm)
      clear HZ
      go_wp2_with fail
      refine (n_ref p _).mono ?_
      rintro e wz ⟨rfl, bb⟩
      have hf := five_below (unhide HF) bb (five_lt (unhide HF))
      obtain ⟨x0, c0⟩ := five_c hf 0 (by omega)
      obtain ⟨x1, c1⟩ := five_c hf 1 (by omega)
      obtain ⟨x2, c2⟩ := five_c hf 2 (by omega)
      obtain ⟨x3, c3⟩ := five_c hf 3 (by omega)
      obtain ⟨x4, c4⟩ := five_c hf 4 (by omega)
      have f0 := five_f hf 0
      have f1 := five_f hf 1
      have f2 := five_f hf 2
      have f3 := five_f hf 3
      have f4 := five_f hf 4
      have HFZ := hide hf
      have HBZ := hide (below_nx (unhide HB) bb)
      clear hf bb
      obtain ⟨z, hz⟩ : ∃ z, vN p = z := ⟨_, rfl⟩
      rw [hz] at E ⊢
      clear hz
      unfold Vl.cells
      go_wp2
      refine bodyPost_ret (results_cell_row rfl _ _ _ _ _ _ _ rfl (five_set (unhide HFZ) _ _ _ _ _).1 Tryz.underlying29 rfl infoRef) rfl ?_
      exact ⟨by rw [unhide E]; rfl, below_five (unhide HBZ) (Nat.le_refl _) _ _ _ _ _⟩
  · rw [e0, if_pos rfl] at hZ
    rw [← hZ]
    clear hZ
    unfold Vl.cells
    go_enter Tryz.func19, Tryz.ntmps19
    go_wp2
    refine bodyPost_ret (results_cell_row rfl _ _ _ _ _ _ _ rfl (heap_alloc_new _ _) Tryz.underlying29 rfl infoRef) rfl ?_
    exact ⟨rfl, below_al _ _⟩
end Go.Proofs.YteaodfeaidjcnaaGreatDoor
