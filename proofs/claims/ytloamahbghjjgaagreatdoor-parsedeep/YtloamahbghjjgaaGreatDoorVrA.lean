/- The contracts of the reference's E, N, T, B, Good, Sound, of layer 3. -/
import Derived.Test.YtloamahbghjjgaaGreatDoorRfA
import Derived.Laws.Rows
namespace Go.Proofs.YtloamahbghjjgaaGreatDoor
open Go.RowKit

/-- A value as plain data. -/
structure Vl where
  kind : Int
  num : Int
  text : ByteArray
  tr : Bool
  fail : Int
def Vl.cells (v : Vl) : Array Value := #[.int .i64 v.kind, .int .i64 v.num, .string v.text, .bool v.tr, .int .i64 v.fail]
abbrev noText : ByteArray := ⟨#[]⟩
def vE (f : Int) : Vl := ⟨4, 0, noText, false, if f < 1 ∨ 8 < f then 3 else f⟩
def vN (n : Int) : Vl := if goodB n = true then ⟨1, n, noText, false, 0⟩ else vE 2
def vT (s : ByteArray) : Vl := if 255 < s.size then vE 3 else ⟨2, 0, s, false, 0⟩
def vB (b : Bool) : Vl := ⟨3, 0, noText, b, 0⟩
def vGood (v : Vl) : Bool :=
  if v.kind = 0 then (v.num == 0) && (v.text.toList == []) && !v.tr && (v.fail == 0)
  else if v.kind = 1 then goodB v.num && (v.text.toList == []) && !v.tr && (v.fail == 0)
  else if v.kind = 2 then (v.num == 0) && decide (v.text.size ≤ 255) && !v.tr && (v.fail == 0)
  else if v.kind = 3 then (v.num == 0) && (v.text.toList == []) && (v.fail == 0)
  else if v.kind = 4 then (v.num == 0) && (v.text.toList == []) && !v.tr && decide (1 ≤ v.fail) && decide (v.fail ≤ 8)
  else false
def vSound (v : Vl) : Vl := if vGood v = true then v else vE 3

theorem infoRef : (Tryz.prog.info? 65).map (·.size) = some 5 := by kernel_rfl

set_option maxHeartbeats 1000000 in
theorem e_ref (f : Int) (w : World) :
    Calls Tryz.prog 107 #[.int .i64 f] w fun e w' => e = .returned (.agg (vE f).cells) ∧ Below w.heap.size w w' := by
  unfold vE Vl.cells
  by_cases h1 : f < 1
  · rw [if_pos (Or.inl h1)]
    go_enter Tryz.func107, Tryz.ntmps107
    go_wp2
    refine bodyPost_ret (results_cell_row rfl _ _ _ _ _ _ _ rfl (heap_alloc_new _ _) Tryz.underlying65 rfl infoRef) rfl ?_
    exact ⟨rfl, (Below.refl _ _).alloc (Nat.le_refl _) _⟩
  · by_cases h2 : 8 < f
    · rw [if_pos (Or.inr h2)]
      go_enter Tryz.func107, Tryz.ntmps107
      go_wp2
      refine bodyPost_ret (results_cell_row rfl _ _ _ _ _ _ _ rfl (heap_alloc_new _ _) Tryz.underlying65 rfl infoRef) rfl ?_
      exact ⟨rfl, (Below.refl _ _).alloc (Nat.le_refl _) _⟩
    · rw [if_neg (by intro h; rcases h with h | h; exact h1 h; exact h2 h)]
      have d2 : decide (8 < f) = false := decide_eq_false h2
      go_enter Tryz.func107, Tryz.ntmps107
      go_wp2
      refine bodyPost_ret (results_cell_row rfl _ _ _ _ _ _ _ rfl (heap_alloc_new _ _) Tryz.underlying65 rfl infoRef) rfl ?_
      exact ⟨rfl, (Below.refl _ _).alloc (Nat.le_refl _) _⟩

set_option maxHeartbeats 1000000 in
theorem b_ref (b : Bool) (w : World) :
    Calls Tryz.prog 46 #[.bool b] w fun e w' => e = .returned (.agg (vB b).cells) ∧ Below w.heap.size w w' := by
  unfold vB Vl.cells
  go_enter Tryz.func46, Tryz.ntmps46
  go_wp2
  refine bodyPost_ret (results_cell_row rfl _ _ _ _ _ _ _ rfl (heap_alloc_new _ _) Tryz.underlying65 rfl infoRef) rfl ?_
  exact ⟨rfl, (Below.refl _ _).alloc (Nat.le_refl _) _⟩

set_option maxHeartbeats 4000000 in
theorem good3_ref (v : Vl) (w : World) (hs : v.text.size ≤ 1000000) :
    Calls Tryz.prog 79 #[.agg v.cells] w fun e w' => e = .returned (.bool (vGood v)) ∧ Below w.heap.size w w' := by
  obtain ⟨k, n, s, b, f⟩ := v
  unfold vGood Vl.cells
  simp only [] at hs ⊢
  by_cases k0 : k = 0
  · rw [if_pos k0]
    subst k0
    cases h1 : (n == 0)
    · go_enter Tryz.func79, Tryz.ntmps79
      go_wp2
      go_ret
      exact ⟨rfl, (Below.refl _ _).alloc (Nat.le_refl _) _⟩
    · cases h2 : (s.toList == [])
      · go_enter Tryz.func79, Tryz.ntmps79
        go_wp2
        go_ret
        exact ⟨rfl, (Below.refl _ _).alloc (Nat.le_refl _) _⟩
      · cases b
        · cases h4 : (f == 0)
          · go_enter Tryz.func79, Tryz.ntmps79
            go_wp2
            go_ret
            exact ⟨rfl, (Below.refl _ _).alloc (Nat.le_refl _) _⟩
          · go_enter Tryz.func79, Tryz.ntmps79
            go_wp2
            go_ret
            exact ⟨rfl, (Below.refl _ _).alloc (Nat.le_refl _) _⟩
        · go_enter Tryz.func79, Tryz.ntmps79
          go_wp2
          go_ret
          exact ⟨rfl, (Below.refl _ _).alloc (Nat.le_refl _) _⟩
  · rw [if_neg k0]
    have kb0 : (k == 0) = false := by rw [beq_eq_false_iff_ne]; exact k0
    by_cases k1 : k = 1
    · rw [if_pos k1]
      subst k1
      clear k0 kb0
      cases hg : goodB n
      · have HG := hide hg
        clear hg
        go_enter Tryz.func79, Tryz.ntmps79
        go_wp2_with fail
        refine (good_ref n _).mono ?_
        rintro e w1 ⟨rfl, rfl⟩
        rw [unhide HG]
        go_wp2
        go_ret
        exact ⟨rfl, (Below.refl _ _).alloc (Nat.le_refl _) _⟩
      · have HG := hide hg
        clear hg
        cases h2 : (s.toList == [])
        · go_enter Tryz.func79, Tryz.ntmps79
          go_wp2_with fail
          refine (good_ref n _).mono ?_
          rintro e w1 ⟨rfl, rfl⟩
          rw [unhide HG]
          go_wp2
          go_ret
          exact ⟨rfl, (Below.refl _ _).alloc (Nat.le_refl _) _⟩
        · cases b
          · cases h4 : (f == 0)
            · go_enter Tryz.func79, Tryz.ntmps79
              go_wp2_with fail
              refine (good_ref n _).mono ?_
              rintro e w1 ⟨rfl, rfl⟩
              rw [unhide HG]
              go_wp2
              go_ret
              exact ⟨rfl, (Below.refl _ _).alloc (Nat.le_refl _) _⟩
            · go_enter Tryz.func79, Tryz.ntmps79
              go_wp2_with fail
              refine (good_ref n _).mono ?_
              rintro e w1 ⟨rfl, rfl⟩
              rw [unhide HG]
              go_wp2
              go_ret
              exact ⟨rfl, (Below.refl _ _).alloc (Nat.le_refl _) _⟩
          · go_enter Tryz.func79, Tryz.ntmps79
            go_wp2_with fail
            refine (good_ref n _).mono ?_
            rintro e w1 ⟨rfl, rfl⟩
            rw [unhide HG]
            go_wp2
            go_ret
            exact ⟨rfl, (Below.refl _ _).alloc (Nat.le_refl _) _⟩
    · rw [if_neg k1]
      have kb1 : (k == 1) = false := by rw [beq_eq_false_iff_ne]; exact k1
      by_cases k2 : k = 2
      · rw [if_pos k2]
        subst k2
        clear k0 kb0 k1 kb1
        cases h1 : (n == 0)
        · go_enter Tryz.func79, Tryz.ntmps79
          go_wp2
          go_ret
          exact ⟨rfl, (Below.refl _ _).alloc (Nat.le_refl _) _⟩
        · by_cases h2 : s.size ≤ 255
          · rw [decide_eq_true h2]
            have h2i : (s.size : Int) ≤ 255 := by omega
            have h2d : decide ((s.size : Int) ≤ 255) = true := decide_eq_true h2i
            clear h2
            cases b
            · cases h4 : (f == 0)
              · go_enter Tryz.func79, Tryz.ntmps79
                go_wp2
                go_ret
                exact ⟨rfl, (Below.refl _ _).alloc (Nat.le_refl _) _⟩
              · go_enter Tryz.func79, Tryz.ntmps79
                go_wp2
                go_ret
                exact ⟨rfl, (Below.refl _ _).alloc (Nat.le_refl _) _⟩
            · go_enter Tryz.func79, Tryz.ntmps79
              go_wp2
              go_ret
              exact ⟨rfl, (Below.refl _ _).alloc (Nat.le_refl _) _⟩
          · rw [decide_eq_false h2]
            have h2i : 255 < (s.size : Int) := by omega
            have h2d : decide ((s.size : Int) ≤ 255) = false := decide_eq_false (by omega)
            clear h2
            go_enter Tryz.func79, Tryz.ntmps79
            go_wp2
            go_ret
            exact ⟨rfl, (Below.refl _ _).alloc (Nat.le_refl _) _⟩
      · rw [if_neg k2]
        have kb2 : (k == 2) = false := by rw [beq_eq_false_iff_ne]; exact k2
        by_cases k3 : k = 3
        · rw [if_pos k3]
          subst k3
          clear k0 kb0 k1 kb1 k2 kb2
          cases h1 : (n == 0)
          · go_enter Tryz.func79, Tryz.ntmps79
            go_wp2
            go_ret
            exact ⟨rfl, (Below.refl _ _).alloc (Nat.le_refl _) _⟩
          · cases h2 : (s.toList == [])
            · go_enter Tryz.func79, Tryz.ntmps79
              go_wp2
              go_ret
              exact ⟨rfl, (Below.refl _ _).alloc (Nat.le_refl _) _⟩
            · cases h4 : (f == 0)
              · go_enter Tryz.func79, Tryz.ntmps79
                go_wp2
                go_ret
                exact ⟨rfl, (Below.refl _ _).alloc (Nat.le_refl _) _⟩
              · go_enter Tryz.func79, Tryz.ntmps79
                go_wp2
                go_ret
                exact ⟨rfl, (Below.refl _ _).alloc (Nat.le_refl _) _⟩
        · rw [if_neg k3]
          have kb3 : (k == 3) = false := by rw [beq_eq_false_iff_ne]; exact k3
          by_cases k4 : k = 4
          · rw [if_pos k4]
            subst k4
            clear k0 kb0 k1 kb1 k2 kb2 k3 kb3
            cases h1 : (n == 0)
            · go_enter Tryz.func79, Tryz.ntmps79
              go_wp2
              go_ret
              exact ⟨rfl, (Below.refl _ _).alloc (Nat.le_refl _) _⟩
            · cases h2 : (s.toList == [])
              · go_enter Tryz.func79, Tryz.ntmps79
                go_wp2
                go_ret
                exact ⟨rfl, (Below.refl _ _).alloc (Nat.le_refl _) _⟩
              · cases b
                · by_cases h5 : 1 ≤ f
                  · rw [decide_eq_true h5]
                    have h5i : 1 ≤ f := by omega
                    have h5d : decide (1 ≤ f) = true := decide_eq_true h5i
                    clear h5
                    by_cases h6 : f ≤ 8
                    · rw [decide_eq_true h6]
                      have h6i : f ≤ 8 := by omega
                      have h6d : decide (f ≤ 8) = true := decide_eq_true h6i
                      clear h6
                      go_enter Tryz.func79, Tryz.ntmps79
                      go_wp2
                      go_ret
                      exact ⟨rfl, (Below.refl _ _).alloc (Nat.le_refl _) _⟩
                    · rw [decide_eq_false h6]
                      have h6i : 8 < f := by omega
                      have h6d : decide (f ≤ 8) = false := decide_eq_false (by omega)
                      clear h6
                      go_enter Tryz.func79, Tryz.ntmps79
                      go_wp2
                      go_ret
                      exact ⟨rfl, (Below.refl _ _).alloc (Nat.le_refl _) _⟩
                  · rw [decide_eq_false h5]
                    have h5i : f < 1 := by omega
                    have h5d : decide (1 ≤ f) = false := decide_eq_false (by omega)
                    clear h5
                    go_enter Tryz.func79, Tryz.ntmps79
                    go_wp2
                    go_ret
                    exact ⟨rfl, (Below.refl _ _).alloc (Nat.le_refl _) _⟩
                · go_enter Tryz.func79, Tryz.ntmps79
                  go_wp2
                  go_ret
                  exact ⟨rfl, (Below.refl _ _).alloc (Nat.le_refl _) _⟩
          · rw [if_neg k4]
            have kb4 : (k == 4) = false := by rw [beq_eq_false_iff_ne]; exact k4
            clear k0 k1 k2 k3 k4
            go_enter Tryz.func79, Tryz.ntmps79
            go_wp2
            go_ret
            exact ⟨rfl, (Below.refl _ _).alloc (Nat.le_refl _) _⟩
end Go.Proofs.YtloamahbghjjgaaGreatDoor
