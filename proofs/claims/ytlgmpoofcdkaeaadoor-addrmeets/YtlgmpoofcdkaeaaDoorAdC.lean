/- Rows of cells; the contracts of the small tests of layer 4: Good of a cell, letter, digit, inName. -/
import Derived.Test.YtlgmpoofcdkaeaaDoorAdA
import Derived.Test.YtlgmpoofcdkaeaaDoorVrE
import Derived.Deep.QuietTactic
import Derived.BigQuiet
namespace Go.Proofs.YtlgmpoofcdkaeaaDoor
open Go.RowKit

/-- A block of cells that may be written. -/
def CellsAt (w : World) (B : Nat) (t : TypeId) (cs : Array Value) : Prop := w.heap[B]? = some (.cells cs t (0, 0))
theorem cells_c {w : World} {B : Nat} {t : TypeId} {cs : Array Value} (h : CellsAt w B t cs) (i : Nat) (v : Value) (hv : cs[i]? = some v) : w.cell? ⟨B, i, none⟩ = some v := by
  unfold CellsAt at h
  obtain ⟨hlt, hv'⟩ := Array.getElem?_eq_some_iff.1 hv
  simp [World.cell?, h, hlt, hv']
theorem cells_f {w : World} {B : Nat} {t : TypeId} {cs : Array Value} (h : CellsAt w B t cs) (i : Nat) : w.frozen? ⟨B, i, none⟩ = false := by
  unfold CellsAt at h
  simp [World.frozen?, h]
theorem cells_lt {w : World} {B : Nat} {t : TypeId} {cs : Array Value} (h : CellsAt w B t cs) : B < w.heap.size := by
  rcases Nat.lt_or_ge B w.heap.size with h1 | h1
  · exact h1
  · unfold CellsAt at h; rw [Array.getElem?_eq_none h1] at h; cases h
theorem cells_below {w w' : World} {B N : Nat} {t : TypeId} {cs : Array Value} (h : CellsAt w B t cs) (hb : Below N w w') (hB : B < N) : CellsAt w' B t cs := by
  unfold CellsAt at h ⊢
  rw [hb.block B hB]; exact h
theorem cells_nx {w w' : World} {B : Nat} {t : TypeId} {cs : Array Value} (h : CellsAt w B t cs) (hb : Below w.heap.size w w') : CellsAt w' B t cs := cells_below h hb (cells_lt h)
theorem cells_new (w : World) (t : TypeId) (cs : Array Value) : CellsAt (w.alloc (.cells cs t)) w.heap.size t cs := heap_alloc_new _ _
theorem cells_drew {w : World} {B : Nat} {t : TypeId} {cs : Array Value} (h : CellsAt w B t cs) : CellsAt w.drew B t cs := h
theorem cells_al {w : World} {B : Nat} {t : TypeId} {cs : Array Value} (h : CellsAt w B t cs) (o : Obj) : CellsAt (w.alloc o) B t cs := cells_nx h (below_al w o)
theorem cells_set {w : World} {B : Nat} {t : TypeId} {cs : Array Value} (h : CellsAt w B t cs) (i : Nat) (v : Value) : CellsAt (w.setCell ⟨B, i, none⟩ v) B t (cs.setIfInBounds i v) := by
  unfold CellsAt at h ⊢
  exact heap_setCell_same w B i cs t v h
theorem cells_set_far {w : World} {B C : Nat} {t : TypeId} {cs : Array Value} (h : CellsAt w B t cs) (hC : B ≠ C) (i : Nat) (v : Value) : CellsAt (w.setCell ⟨C, i, none⟩ v) B t cs := by
  unfold CellsAt at h ⊢
  rw [heap_setCell_other _ _ _ _ hC]; exact h
theorem cells2 {w : World} {B : Nat} {t : TypeId} {v0 v1 : Value} (h : CellsAt w B t #[v0, v1]) :
    w.cell? ⟨B, 0, none⟩ = some v0 ∧ w.cell? ⟨B, 1, none⟩ = some v1 := by
  unfold CellsAt at h
  simp [World.cell?, h]
theorem cells4 {w : World} {B : Nat} {t : TypeId} {v0 v1 v2 v3 : Value} (h : CellsAt w B t #[v0, v1, v2, v3]) :
    w.cell? ⟨B, 0, none⟩ = some v0 ∧ w.cell? ⟨B, 1, none⟩ = some v1 ∧ w.cell? ⟨B, 2, none⟩ = some v2 ∧ w.cell? ⟨B, 3, none⟩ = some v3 := by
  unfold CellsAt at h
  simp [World.cell?, h]
theorem cells11 {w : World} {B : Nat} {t : TypeId} {v0 v1 v2 v3 v4 v5 v6 v7 v8 v9 v10 : Value} (h : CellsAt w B t #[v0, v1, v2, v3, v4, v5, v6, v7, v8, v9, v10]) :
    w.cell? ⟨B, 0, none⟩ = some v0 ∧ w.cell? ⟨B, 1, none⟩ = some v1 ∧ w.cell? ⟨B, 2, none⟩ = some v2 ∧ w.cell? ⟨B, 3, none⟩ = some v3 ∧ w.cell? ⟨B, 4, none⟩ = some v4 ∧ w.cell? ⟨B, 5, none⟩ = some v5 ∧ w.cell? ⟨B, 6, none⟩ = some v6 ∧ w.cell? ⟨B, 7, none⟩ = some v7 ∧ w.cell? ⟨B, 8, none⟩ = some v8 ∧ w.cell? ⟨B, 9, none⟩ = some v9 ∧ w.cell? ⟨B, 10, none⟩ = some v10 := by
  unfold CellsAt at h
  simp [World.cell?, h]
theorem below_set {w a : World} {N B i : Nat} (h : Below N w a) (hB : N ≤ B) (v : Value) : Below N w (a.setCell ⟨B, i, none⟩ v) := h.setCell (p := ⟨B, i, none⟩) hB v

set_option maxHeartbeats 1000000 in
theorem cellGood_val (c r : Int) (w : World) :
    Calls Tryd.prog 18 #[.agg #[.int .i64 c, .int .i64 r]] w fun e w' => e = .returned (.bool (cellG c r)) ∧ Below w.heap.size w w' := by
  by_cases h0 : 0 ≤ c
  · by_cases h1 : c < 64
    · by_cases h2 : 0 ≤ r
      · by_cases h3 : r < 1024
        · have E : cellG c r = true := (cellG_iff c r).2 ⟨h0, h1, h2, h3⟩
          rw [E]
          clear E
          go_enter Tryd.func18, Tryd.ntmps18
          go_wp2
          go_ret
          exact ⟨rfl, below_al _ _⟩
        · have g3 : 1024 ≤ r := by omega
          have d3 : decide (r < 1024) = false := decide_eq_false h3
          have E : cellG c r = false := by rw [← Bool.not_eq_true, cellG_iff]; omega
          rw [E]
          clear E h3
          go_enter Tryd.func18, Tryd.ntmps18
          go_wp2
          go_ret
          exact ⟨rfl, below_al _ _⟩
      · have g2 : r < 0 := by omega
        have d2 : decide (0 ≤ r) = false := decide_eq_false h2
        have E : cellG c r = false := by rw [← Bool.not_eq_true, cellG_iff]; omega
        rw [E]
        clear E h2
        go_enter Tryd.func18, Tryd.ntmps18
        go_wp2
        go_ret
        exact ⟨rfl, below_al _ _⟩
    · have g1 : 64 ≤ c := by omega
      have d1 : decide (c < 64) = false := decide_eq_false h1
      have E : cellG c r = false := by rw [← Bool.not_eq_true, cellG_iff]; omega
      rw [E]
      clear E h1
      go_enter Tryd.func18, Tryd.ntmps18
      go_wp2
      go_ret
      exact ⟨rfl, below_al _ _⟩
  · have g0 : c < 0 := by omega
    have d0 : decide (0 ≤ c) = false := decide_eq_false h0
    have E : cellG c r = false := by rw [← Bool.not_eq_true, cellG_iff]; omega
    rw [E]
    clear E h0
    go_enter Tryd.func18, Tryd.ntmps18
    go_wp2
    go_ret
    exact ⟨rfl, below_al _ _⟩
set_option maxHeartbeats 1000000 in
theorem cell_ref (c r : Int) (w : World) :
    Calls Tryd.prog 19 #[.int .i64 c, .int .i64 r] w fun e w' => e = .returned (.bool (cellG c r)) ∧ w' = w := by
  by_cases h0 : 0 ≤ c
  · by_cases h1 : c < 64
    · by_cases h2 : 0 ≤ r
      · by_cases h3 : r < 1024
        · have E : cellG c r = true := (cellG_iff c r).2 ⟨h0, h1, h2, h3⟩
          rw [E]
          clear E
          go_enter Tryd.func19, Tryd.ntmps19
          go_wp2
          go_ret
          exact ⟨rfl, rfl⟩
        · have g3 : 1024 ≤ r := by omega
          have d3 : decide (r < 1024) = false := decide_eq_false h3
          have E : cellG c r = false := by rw [← Bool.not_eq_true, cellG_iff]; omega
          rw [E]
          clear E h3
          go_enter Tryd.func19, Tryd.ntmps19
          go_wp2
          go_ret
          exact ⟨rfl, rfl⟩
      · have g2 : r < 0 := by omega
        have d2 : decide (0 ≤ r) = false := decide_eq_false h2
        have E : cellG c r = false := by rw [← Bool.not_eq_true, cellG_iff]; omega
        rw [E]
        clear E h2
        go_enter Tryd.func19, Tryd.ntmps19
        go_wp2
        go_ret
        exact ⟨rfl, rfl⟩
    · have g1 : 64 ≤ c := by omega
      have d1 : decide (c < 64) = false := decide_eq_false h1
      have E : cellG c r = false := by rw [← Bool.not_eq_true, cellG_iff]; omega
      rw [E]
      clear E h1
      go_enter Tryd.func19, Tryd.ntmps19
      go_wp2
      go_ret
      exact ⟨rfl, rfl⟩
  · have g0 : c < 0 := by omega
    have d0 : decide (0 ≤ c) = false := decide_eq_false h0
    have E : cellG c r = false := by rw [← Bool.not_eq_true, cellG_iff]; omega
    rw [E]
    clear E h0
    go_enter Tryd.func19, Tryd.ntmps19
    go_wp2
    go_ret
    exact ⟨rfl, rfl⟩
set_option maxHeartbeats 1000000 in
theorem letter_val (c : UInt8) (w : World) : Calls Tryd.prog 53 #[.int .u8 (c.toNat : Int)] w fun e w' => e = .returned (.bool (isLet c)) ∧ w' = w := by
  unfold isLet
  have hx : c.toNat < 256 := c.toNat_lt
  generalize c.toNat = x at hx ⊢
  by_cases h1 : 65 ≤ x
  · rw [decide_eq_true h1]
    have h1i : decide (65 ≤ (x : Int)) = true := decide_eq_true (by omega)
    by_cases h2 : x ≤ 90
    · rw [decide_eq_true h2]
      have h2i : decide ((x : Int) ≤ 90) = true := decide_eq_true (by omega)
      have hz : ∀ b : Bool, (true && true || b) = true := fun _ => rfl
      rw [hz]
      clear hz
      go_enter Tryd.func53, Tryd.ntmps53
      go_wp2
      go_ret
      exact ⟨rfl, rfl⟩
    · rw [decide_eq_false h2]
      have h2i : decide ((x : Int) ≤ 90) = false := decide_eq_false (by omega)
      have h2n : 90 < (x : Int) := by omega
      clear h2
      by_cases k1 : 97 ≤ x
      · rw [decide_eq_true k1]
        have k1i : decide (97 ≤ (x : Int)) = true := decide_eq_true (by omega)
        by_cases k2 : x ≤ 122
        · rw [decide_eq_true k2]
          have k2i : decide ((x : Int) ≤ 122) = true := decide_eq_true (by omega)
          go_enter Tryd.func53, Tryd.ntmps53
          go_wp2
          go_ret
          exact ⟨rfl, rfl⟩
        · rw [decide_eq_false k2]
          have k2i : decide ((x : Int) ≤ 122) = false := decide_eq_false (by omega)
          have k2n : 122 < (x : Int) := by omega
          clear k2
          go_enter Tryd.func53, Tryd.ntmps53
          go_wp2
          go_ret
          exact ⟨rfl, rfl⟩
      · rw [decide_eq_false k1]
        have k1i : decide (97 ≤ (x : Int)) = false := decide_eq_false (by omega)
        have k1n : (x : Int) < 97 := by omega
        clear k1
        go_enter Tryd.func53, Tryd.ntmps53
        go_wp2
        go_ret
        exact ⟨rfl, rfl⟩
  · rw [decide_eq_false h1]
    have h1i : decide (65 ≤ (x : Int)) = false := decide_eq_false (by omega)
    have h1n : (x : Int) < 65 := by omega
    clear h1
    by_cases k1 : 97 ≤ x
    · rw [decide_eq_true k1]
      have k1i : decide (97 ≤ (x : Int)) = true := decide_eq_true (by omega)
      by_cases k2 : x ≤ 122
      · rw [decide_eq_true k2]
        have k2i : decide ((x : Int) ≤ 122) = true := decide_eq_true (by omega)
        go_enter Tryd.func53, Tryd.ntmps53
        go_wp2
        go_ret
        exact ⟨rfl, rfl⟩
      · rw [decide_eq_false k2]
        have k2i : decide ((x : Int) ≤ 122) = false := decide_eq_false (by omega)
        have k2n : 122 < (x : Int) := by omega
        clear k2
        go_enter Tryd.func53, Tryd.ntmps53
        go_wp2
        go_ret
        exact ⟨rfl, rfl⟩
    · rw [decide_eq_false k1]
      have k1i : decide (97 ≤ (x : Int)) = false := decide_eq_false (by omega)
      have k1n : (x : Int) < 97 := by omega
      clear k1
      go_enter Tryd.func53, Tryd.ntmps53
      go_wp2
      go_ret
      exact ⟨rfl, rfl⟩
set_option maxHeartbeats 1000000 in
theorem letter_ref (c : UInt8) (w : World) : Calls Tryd.prog 44 #[.int .u8 (c.toNat : Int)] w fun e w' => e = .returned (.bool (isLet c)) ∧ w' = w := by
  unfold isLet
  have hx : c.toNat < 256 := c.toNat_lt
  generalize c.toNat = x at hx ⊢
  by_cases h1 : 65 ≤ x
  · rw [decide_eq_true h1]
    have h1i : decide (65 ≤ (x : Int)) = true := decide_eq_true (by omega)
    by_cases h2 : x ≤ 90
    · rw [decide_eq_true h2]
      have h2i : decide ((x : Int) ≤ 90) = true := decide_eq_true (by omega)
      have hz : ∀ b : Bool, (true && true || b) = true := fun _ => rfl
      rw [hz]
      clear hz
      go_enter Tryd.func44, Tryd.ntmps44
      go_wp2
      go_ret
      exact ⟨rfl, rfl⟩
    · rw [decide_eq_false h2]
      have h2i : decide ((x : Int) ≤ 90) = false := decide_eq_false (by omega)
      have h2n : 90 < (x : Int) := by omega
      clear h2
      by_cases k1 : 97 ≤ x
      · rw [decide_eq_true k1]
        have k1i : decide (97 ≤ (x : Int)) = true := decide_eq_true (by omega)
        by_cases k2 : x ≤ 122
        · rw [decide_eq_true k2]
          have k2i : decide ((x : Int) ≤ 122) = true := decide_eq_true (by omega)
          go_enter Tryd.func44, Tryd.ntmps44
          go_wp2
          go_ret
          exact ⟨rfl, rfl⟩
        · rw [decide_eq_false k2]
          have k2i : decide ((x : Int) ≤ 122) = false := decide_eq_false (by omega)
          have k2n : 122 < (x : Int) := by omega
          clear k2
          go_enter Tryd.func44, Tryd.ntmps44
          go_wp2
          go_ret
          exact ⟨rfl, rfl⟩
      · rw [decide_eq_false k1]
        have k1i : decide (97 ≤ (x : Int)) = false := decide_eq_false (by omega)
        have k1n : (x : Int) < 97 := by omega
        clear k1
        go_enter Tryd.func44, Tryd.ntmps44
        go_wp2
        go_ret
        exact ⟨rfl, rfl⟩
  · rw [decide_eq_false h1]
    have h1i : decide (65 ≤ (x : Int)) = false := decide_eq_false (by omega)
    have h1n : (x : Int) < 65 := by omega
    clear h1
    by_cases k1 : 97 ≤ x
    · rw [decide_eq_true k1]
      have k1i : decide (97 ≤ (x : Int)) = true := decide_eq_true (by omega)
      by_cases k2 : x ≤ 122
      · rw [decide_eq_true k2]
        have k2i : decide ((x : Int) ≤ 122) = true := decide_eq_true (by omega)
        go_enter Tryd.func44, Tryd.ntmps44
        go_wp2
        go_ret
        exact ⟨rfl, rfl⟩
      · rw [decide_eq_false k2]
        have k2i : decide ((x : Int) ≤ 122) = false := decide_eq_false (by omega)
        have k2n : 122 < (x : Int) := by omega
        clear k2
        go_enter Tryd.func44, Tryd.ntmps44
        go_wp2
        go_ret
        exact ⟨rfl, rfl⟩
    · rw [decide_eq_false k1]
      have k1i : decide (97 ≤ (x : Int)) = false := decide_eq_false (by omega)
      have k1n : (x : Int) < 97 := by omega
      clear k1
      go_enter Tryd.func44, Tryd.ntmps44
      go_wp2
      go_ret
      exact ⟨rfl, rfl⟩
set_option maxHeartbeats 1000000 in
theorem digit_val (c : UInt8) (w : World) : Calls Tryd.prog 41 #[.int .u8 (c.toNat : Int)] w fun e w' => e = .returned (.bool (isDg c)) ∧ w' = w := by
  unfold isDg
  have hx : c.toNat < 256 := c.toNat_lt
  generalize c.toNat = x at hx ⊢
  by_cases h1 : 48 ≤ x
  · rw [decide_eq_true h1]
    have h1i : decide (48 ≤ (x : Int)) = true := decide_eq_true (by omega)
    by_cases h2 : x ≤ 57
    · rw [decide_eq_true h2]
      have h2i : decide ((x : Int) ≤ 57) = true := decide_eq_true (by omega)
      go_enter Tryd.func41, Tryd.ntmps41
      go_wp2
      go_ret
      exact ⟨rfl, rfl⟩
    · rw [decide_eq_false h2]
      have h2i : decide ((x : Int) ≤ 57) = false := decide_eq_false (by omega)
      clear h2
      go_enter Tryd.func41, Tryd.ntmps41
      go_wp2
      go_ret
      exact ⟨rfl, rfl⟩
  · rw [decide_eq_false h1]
    have h1i : decide (48 ≤ (x : Int)) = false := decide_eq_false (by omega)
    clear h1
    go_enter Tryd.func41, Tryd.ntmps41
    go_wp2
    go_ret
    exact ⟨rfl, rfl⟩
set_option maxHeartbeats 1000000 in
theorem digit_ref (c : UInt8) (w : World) : Calls Tryd.prog 45 #[.int .u8 (c.toNat : Int)] w fun e w' => e = .returned (.bool (isDg c)) ∧ w' = w := by
  unfold isDg
  have hx : c.toNat < 256 := c.toNat_lt
  generalize c.toNat = x at hx ⊢
  by_cases h1 : 48 ≤ x
  · rw [decide_eq_true h1]
    have h1i : decide (48 ≤ (x : Int)) = true := decide_eq_true (by omega)
    by_cases h2 : x ≤ 57
    · rw [decide_eq_true h2]
      have h2i : decide ((x : Int) ≤ 57) = true := decide_eq_true (by omega)
      go_enter Tryd.func45, Tryd.ntmps45
      go_wp2
      go_ret
      exact ⟨rfl, rfl⟩
    · rw [decide_eq_false h2]
      have h2i : decide ((x : Int) ≤ 57) = false := decide_eq_false (by omega)
      clear h2
      go_enter Tryd.func45, Tryd.ntmps45
      go_wp2
      go_ret
      exact ⟨rfl, rfl⟩
  · rw [decide_eq_false h1]
    have h1i : decide (48 ≤ (x : Int)) = false := decide_eq_false (by omega)
    clear h1
    go_enter Tryd.func45, Tryd.ntmps45
    go_wp2
    go_ret
    exact ⟨rfl, rfl⟩
set_option maxHeartbeats 2000000 in
theorem inName_val (c : UInt8) (w : World) : Calls Tryd.prog 43 #[.int .u8 (c.toNat : Int)] w fun e w' => e = .returned (.bool (inNm c)) ∧ w' = w := by
  unfold inNm
  have HL := hide (fun w => letter_val c w)
  have HD := hide (fun w => digit_val c w)
  have e95 : (c == 95) = ((c.toNat : Int) == 95) := by
    rw [Bool.eq_iff_iff, beq_iff_eq, beq_iff_eq]
    constructor
    · intro h; subst h; rfl
    · intro h; apply UInt8.toNat_inj.1; show c.toNat = 95; omega
  rw [e95]
  clear e95
  generalize isLet c = p at HL ⊢
  generalize isDg c = q at HD ⊢
  have hx : c.toNat < 256 := c.toNat_lt
  generalize c.toNat = x at hx HL HD ⊢
  cases p
  · cases q
    · cases h9 : ((x : Int) == 95)
      · go_enter Tryd.func43, Tryd.ntmps43
        go_wp2_with fail
        refine (unhide HL _).mono ?_
        rintro e w1 ⟨rfl, rfl⟩
        go_wp2_with fail
        refine (unhide HD _).mono ?_
        rintro e w2 ⟨rfl, rfl⟩
        go_wp2
        go_ret
        exact ⟨rfl, rfl⟩
      · go_enter Tryd.func43, Tryd.ntmps43
        go_wp2_with fail
        refine (unhide HL _).mono ?_
        rintro e w1 ⟨rfl, rfl⟩
        go_wp2_with fail
        refine (unhide HD _).mono ?_
        rintro e w2 ⟨rfl, rfl⟩
        go_wp2
        go_ret
        exact ⟨rfl, rfl⟩
    · go_enter Tryd.func43, Tryd.ntmps43
      go_wp2_with fail
      refine (unhide HL _).mono ?_
      rintro e w1 ⟨rfl, rfl⟩
      go_wp2_with fail
      refine (unhide HD _).mono ?_
      rintro e w2 ⟨rfl, rfl⟩
      go_wp2
      go_ret
      exact ⟨rfl, rfl⟩
  · have hz : ∀ b d : Bool, (true || b || d) = true := fun _ _ => rfl
    rw [hz]
    clear hz
    go_enter Tryd.func43, Tryd.ntmps43
    go_wp2_with fail
    refine (unhide HL _).mono ?_
    rintro e w1 ⟨rfl, rfl⟩
    go_wp2
    go_ret
    exact ⟨rfl, rfl⟩
end Go.Proofs.YtlgmpoofcdkaeaaDoor
