/- The contracts of the program's truth, AsBool, AsText, of layer 3. -/
import Derived.Test.YteaodfeaidjcnaaDoorVpG
import Derived.Test.YteaodfeaidjcnaaDoorVrY
namespace Go.Proofs.YteaodfeaidjcnaaDoor
open Go.RowKit

theorem tr_false (u : Vl) (h : vGood u = true) (hk : u.kind ≠ 3) : u.tr = false := by
  obtain ⟨k, n, s, b, f⟩ := u
  simp only [] at hk ⊢
  by_cases k0 : k = 0
  · subst k0; rw [vGood0] at h; simp at h; exact h.1.2
  · by_cases k1 : k = 1
    · subst k1; rw [vGood1] at h; simp at h; exact h.1.2
    · by_cases k2 : k = 2
      · subst k2; rw [vGood2] at h; simp at h; exact h.1.2
      · by_cases k4 : k = 4
        · subst k4; rw [vGood4] at h; simp at h; exact h.1.1.2
        · rw [good_else k n s b f k0 k1 k2 hk k4] at h; cases h
def truthV (s : ByteArray) : Bool × Bool :=
  if ((mapB lowC s).toList == [116, 114, 117, 101]) = true then (true, true) else if ((mapB lowC s).toList == [102, 97, 108, 115, 101]) = true then (false, true) else (false, false)
theorem pair_bb {r : Bool × Bool} {a b : Bool} (h : r = (a, b)) : Ending.returned (.tuple #[.bool a, .bool b]) = .returned (.tuple #[.bool r.1, .bool r.2]) := by rw [h]

set_option maxHeartbeats 1000000 in
theorem truth_val (s : ByteArray) (w : World) (hs : s.size ≤ 1000000) :
    Calls Tryd.prog 48 #[.string s] w fun e w' => e = .returned (.tuple #[.bool (truthV s).1, .bool (truthV s).2]) ∧ Below w.heap.size w w' := by
  have HL := hide (fun w => lower_val s w hs)
  clear hs
  obtain ⟨R, hR⟩ : ∃ R, truthV s = R := ⟨_, rfl⟩
  rw [hR]
  unfold truthV at hR
  obtain ⟨L, hL⟩ : ∃ L, mapB lowC s = L := ⟨_, rfl⟩
  rw [hL] at HL hR
  clear hL
  cases e1 : (L.toList == [116, 114, 117, 101])
  · cases e2 : (L.toList == [102, 97, 108, 115, 101])
    · have E : Hid (R = (false, false)) := hide (by rw [← hR]; simp only [e1, e2]; rfl)
      clear hR
      go_enter Tryd.func48, Tryd.ntmps48
      go_wp2_with fail
      refine (unhide HL _).mono ?_
      rintro e w1 ⟨rfl, b1⟩
      go_wp2
      go_ret2
      exact ⟨pair_bb (unhide E), b1⟩
    · have E : Hid (R = (false, true)) := hide (by rw [← hR]; simp only [e1, e2]; rfl)
      clear hR
      go_enter Tryd.func48, Tryd.ntmps48
      go_wp2_with fail
      refine (unhide HL _).mono ?_
      rintro e w1 ⟨rfl, b1⟩
      go_wp2
      go_ret2
      exact ⟨pair_bb (unhide E), b1⟩
  · have E : Hid (R = (true, true)) := hide (by rw [← hR]; simp only [e1]; rfl)
    clear hR
    go_enter Tryd.func48, Tryd.ntmps48
    go_wp2_with fail
    refine (unhide HL _).mono ?_
    rintro e w1 ⟨rfl, b1⟩
    go_wp2
    go_ret2
    exact ⟨pair_bb (unhide E), b1⟩

end Go.Proofs.YteaodfeaidjcnaaDoor
