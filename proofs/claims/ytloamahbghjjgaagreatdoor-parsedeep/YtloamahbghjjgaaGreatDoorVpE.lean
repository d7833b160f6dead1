/- The contract of the program's errors in signs, of layer 3. -/
import Derived.Test.YtloamahbghjjgaaGreatDoorVrZ
import Derived.Test.YtloamahbghjjgaaGreatDoorVpD
namespace Go.Proofs.YtloamahbghjjgaaGreatDoor
open Go.RowKit

/-- The table of the errors in signs, where the program's text lays it. -/
def signTab (w : World) : Prop := ∀ i : Nat, i < 9 → w.cell? ⟨1, i, none⟩ = some (.string (signL.getD i noText))
theorem signs_below {w w' : World} (h : signTab w) (hb : Below w.heap.size w w') : signTab w' := by
  intro i hi
  have h0 := h i hi
  have hlt : 1 < w.heap.size := by
    rcases Nat.lt_or_ge 1 w.heap.size with h' | h'
    · exact h'
    · simp [World.cell?, Array.getElem?_eq_none h'] at h0
  rw [hb.cell (p := ⟨1, i, none⟩) hlt]
  exact h0

set_option maxHeartbeats 4000000 in
theorem sign_val (f : Int) (w : World) (ht : signTab w) :
    Calls Tryz.prog 151 #[.int .i64 f] w fun e w' => e = .returned (.string (signV f)) ∧ w' = w := by
  have HT := hide ht
  clear ht
  by_cases h1 : f < 0
  · have e1 : signV f = noText := by unfold signV; rw [if_pos (Or.inl (by omega))]
    rw [e1]
    have E1 := hide e1
    clear e1
    go_enter Tryz.func151, Tryz.ntmps151
    go_wp2
    go_ret
    exact ⟨rfl, rfl⟩
  · by_cases h2 : 9 ≤ f
    · have e1 : signV f = noText := by unfold signV; rw [if_pos (Or.inr (by omega))]
      rw [e1]
      have E1 := hide e1
      clear e1
      go_enter Tryz.func151, Tryz.ntmps151
      go_wp2
      go_ret
      exact ⟨rfl, rfl⟩
    · have hf : f = 0 ∨ f = 1 ∨ f = 2 ∨ f = 3 ∨ f = 4 ∨ f = 5 ∨ f = 6 ∨ f = 7 ∨ f = 8 := by omega
      clear h1 h2
      rcases hf with rfl | rfl | rfl | rfl | rfl | rfl | rfl | rfl | rfl
      · have c := unhide HT 0 (by omega)
        go_enter Tryz.func151, Tryz.ntmps151
        go_wp2
        go_ret
        exact ⟨rfl, rfl⟩
      · have c := unhide HT 1 (by omega)
        go_enter Tryz.func151, Tryz.ntmps151
        go_wp2
        go_ret
        exact ⟨rfl, rfl⟩
      · have c := unhide HT 2 (by omega)
        go_enter Tryz.func151, Tryz.ntmps151
        go_wp2
        go_ret
        exact ⟨rfl, rfl⟩
      · have c := unhide HT 3 (by omega)
        go_enter Tryz.func151, Tryz.ntmps151
        go_wp2
        go_ret
        exact ⟨rfl, rfl⟩
      · have c := unhide HT 4 (by omega)
        go_enter Tryz.func151, Tryz.ntmps151
        go_wp2
        go_ret
        exact ⟨rfl, rfl⟩
      · have c := unhide HT 5 (by omega)
        go_enter Tryz.func151, Tryz.ntmps151
        go_wp2
        go_ret
        exact ⟨rfl, rfl⟩
      · have c := unhide HT 6 (by omega)
        go_enter Tryz.func151, Tryz.ntmps151
        go_wp2
        go_ret
        exact ⟨rfl, rfl⟩
      · have c := unhide HT 7 (by omega)
        go_enter Tryz.func151, Tryz.ntmps151
        go_wp2
        go_ret
        exact ⟨rfl, rfl⟩
      · have c := unhide HT 8 (by omega)
        go_enter Tryz.func151, Tryz.ntmps151
        go_wp2
        go_ret
        exact ⟨rfl, rfl⟩
end Go.Proofs.YtloamahbghjjgaaGreatDoor
