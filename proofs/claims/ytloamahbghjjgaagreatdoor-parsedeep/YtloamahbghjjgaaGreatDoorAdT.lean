/- The contract of the reference's Parse. -/
import Derived.Test.YtloamahbghjjgaaGreatDoorAdS
namespace Go.Proofs.YtloamahbghjjgaaGreatDoor
open Go.RowKit

theorem infoRF : (Tryz.prog.info? 69).map (·.size) = some 11 := by kernel_rfl
theorem st0_c {w : World} {B : Nat} {t : TypeId} {y0 y1 y2 y3 y4 y5 y6 y7 y8 y9 y10 : Value} (h : CellsAt w B t #[y0, y1, y2, y3, y4, y5, y6, y7, y8, y9, y10]) (x0 : Value) : CellsAt (w.setCell ⟨B, 0, none⟩ x0) B t #[x0, y1, y2, y3, y4, y5, y6, y7, y8, y9, y10] := by
  have h0 : CellsAt (w.setCell ⟨B, 0, none⟩ x0) B t #[x0, y1, y2, y3, y4, y5, y6, y7, y8, y9, y10] := cells_set h 0 x0
  exact h0
theorem st0_f {w : World} {B C : Nat} {t : TypeId} {cs : Array Value} (h : CellsAt w C t cs) (hC : C ≠ B) (x0 : Value) : CellsAt (w.setCell ⟨B, 0, none⟩ x0) C t cs :=
  cells_set_far (h) hC 0 x0
theorem st0_b {w a : World} {N B : Nat} (h : Below N w a) (hB : N ≤ B) (x0 : Value) : Below N w (a.setCell ⟨B, 0, none⟩ x0) :=
  below_set (h) hB x0
theorem st1_c {w : World} {B : Nat} {t : TypeId} {y0 y1 y2 y3 y4 y5 y6 y7 y8 y9 y10 : Value} (h : CellsAt w B t #[y0, y1, y2, y3, y4, y5, y6, y7, y8, y9, y10]) (x1 : Value) : CellsAt (w.setCell ⟨B, 1, none⟩ x1) B t #[y0, x1, y2, y3, y4, y5, y6, y7, y8, y9, y10] := by
  have h0 : CellsAt (w.setCell ⟨B, 1, none⟩ x1) B t #[y0, x1, y2, y3, y4, y5, y6, y7, y8, y9, y10] := cells_set h 1 x1
  exact h0
theorem st1_f {w : World} {B C : Nat} {t : TypeId} {cs : Array Value} (h : CellsAt w C t cs) (hC : C ≠ B) (x1 : Value) : CellsAt (w.setCell ⟨B, 1, none⟩ x1) C t cs :=
  cells_set_far (h) hC 1 x1
theorem st1_b {w a : World} {N B : Nat} (h : Below N w a) (hB : N ≤ B) (x1 : Value) : Below N w (a.setCell ⟨B, 1, none⟩ x1) :=
  below_set (h) hB x1
theorem stA_c {w : World} {B : Nat} {t : TypeId} {y0 y1 y2 y3 y4 y5 y6 y7 y8 y9 y10 : Value} (h : CellsAt w B t #[y0, y1, y2, y3, y4, y5, y6, y7, y8, y9, y10]) (x2 x3 x4 x5 : Value) : CellsAt ((((w.setCell ⟨B, 2, none⟩ x2).setCell ⟨B, 3, none⟩ x3).setCell ⟨B, 4, none⟩ x4).setCell ⟨B, 5, none⟩ x5) B t #[y0, y1, x2, x3, x4, x5, y6, y7, y8, y9, y10] := by
  have h0 : CellsAt (w.setCell ⟨B, 2, none⟩ x2) B t #[y0, y1, x2, y3, y4, y5, y6, y7, y8, y9, y10] := cells_set h 2 x2
  have h1 : CellsAt ((w.setCell ⟨B, 2, none⟩ x2).setCell ⟨B, 3, none⟩ x3) B t #[y0, y1, x2, x3, y4, y5, y6, y7, y8, y9, y10] := cells_set h0 3 x3
  have h2 : CellsAt (((w.setCell ⟨B, 2, none⟩ x2).setCell ⟨B, 3, none⟩ x3).setCell ⟨B, 4, none⟩ x4) B t #[y0, y1, x2, x3, x4, y5, y6, y7, y8, y9, y10] := cells_set h1 4 x4
  have h3 : CellsAt ((((w.setCell ⟨B, 2, none⟩ x2).setCell ⟨B, 3, none⟩ x3).setCell ⟨B, 4, none⟩ x4).setCell ⟨B, 5, none⟩ x5) B t #[y0, y1, x2, x3, x4, x5, y6, y7, y8, y9, y10] := cells_set h2 5 x5
  exact h3
theorem stA_f {w : World} {B C : Nat} {t : TypeId} {cs : Array Value} (h : CellsAt w C t cs) (hC : C ≠ B) (x2 x3 x4 x5 : Value) : CellsAt ((((w.setCell ⟨B, 2, none⟩ x2).setCell ⟨B, 3, none⟩ x3).setCell ⟨B, 4, none⟩ x4).setCell ⟨B, 5, none⟩ x5) C t cs :=
  cells_set_far (cells_set_far (cells_set_far (cells_set_far (h) hC 2 x2) hC 3 x3) hC 4 x4) hC 5 x5
theorem stA_b {w a : World} {N B : Nat} (h : Below N w a) (hB : N ≤ B) (x2 x3 x4 x5 : Value) : Below N w ((((a.setCell ⟨B, 2, none⟩ x2).setCell ⟨B, 3, none⟩ x3).setCell ⟨B, 4, none⟩ x4).setCell ⟨B, 5, none⟩ x5) :=
  below_set (below_set (below_set (below_set (h) hB x2) hB x3) hB x4) hB x5
theorem stB_c {w : World} {B : Nat} {t : TypeId} {y0 y1 y2 y3 y4 y5 y6 y7 y8 y9 y10 : Value} (h : CellsAt w B t #[y0, y1, y2, y3, y4, y5, y6, y7, y8, y9, y10]) (x10 x2 x3 x4 x5 x6 x7 x8 x9 : Value) : CellsAt (((((((((w.setCell ⟨B, 10, none⟩ x10).setCell ⟨B, 2, none⟩ x2).setCell ⟨B, 3, none⟩ x3).setCell ⟨B, 4, none⟩ x4).setCell ⟨B, 5, none⟩ x5).setCell ⟨B, 6, none⟩ x6).setCell ⟨B, 7, none⟩ x7).setCell ⟨B, 8, none⟩ x8).setCell ⟨B, 9, none⟩ x9) B t #[y0, y1, x2, x3, x4, x5, x6, x7, x8, x9, x10] := by
  have h0 : CellsAt (w.setCell ⟨B, 10, none⟩ x10) B t #[y0, y1, y2, y3, y4, y5, y6, y7, y8, y9, x10] := cells_set h 10 x10
  have h1 : CellsAt ((w.setCell ⟨B, 10, none⟩ x10).setCell ⟨B, 2, none⟩ x2) B t #[y0, y1, x2, y3, y4, y5, y6, y7, y8, y9, x10] := cells_set h0 2 x2
  have h2 : CellsAt (((w.setCell ⟨B, 10, none⟩ x10).setCell ⟨B, 2, none⟩ x2).setCell ⟨B, 3, none⟩ x3) B t #[y0, y1, x2, x3, y4, y5, y6, y7, y8, y9, x10] := cells_set h1 3 x3
  have h3 : CellsAt ((((w.setCell ⟨B, 10, none⟩ x10).setCell ⟨B, 2, none⟩ x2).setCell ⟨B, 3, none⟩ x3).setCell ⟨B, 4, none⟩ x4) B t #[y0, y1, x2, x3, x4, y5, y6, y7, y8, y9, x10] := cells_set h2 4 x4
  have h4 : CellsAt (((((w.setCell ⟨B, 10, none⟩ x10).setCell ⟨B, 2, none⟩ x2).setCell ⟨B, 3, none⟩ x3).setCell ⟨B, 4, none⟩ x4).setCell ⟨B, 5, none⟩ x5) B t #[y0, y1, x2, x3, x4, x5, y6, y7, y8, y9, x10] := cells_set h3 5 x5
  have h5 : CellsAt ((((((w.setCell ⟨B, 10, none⟩ x10).setCell ⟨B, 2, none⟩ x2).setCell ⟨B, 3, none⟩ x3).setCell ⟨B, 4, none⟩ x4).setCell ⟨B, 5, none⟩ x5).setCell ⟨B, 6, none⟩ x6) B t #[y0, y1, x2, x3, x4, x5, x6, y7, y8, y9, x10] := cells_set h4 6 x6
  have h6 : CellsAt (((((((w.setCell ⟨B, 10, none⟩ x10).setCell ⟨B, 2, none⟩ x2).setCell ⟨B, 3, none⟩ x3).setCell ⟨B, 4, none⟩ x4).setCell ⟨B, 5, none⟩ x5).setCell ⟨B, 6, none⟩ x6).setCell ⟨B, 7, none⟩ x7) B t #[y0, y1, x2, x3, x4, x5, x6, x7, y8, y9, x10] := cells_set h5 7 x7
  have h7 : CellsAt ((((((((w.setCell ⟨B, 10, none⟩ x10).setCell ⟨B, 2, none⟩ x2).setCell ⟨B, 3, none⟩ x3).setCell ⟨B, 4, none⟩ x4).setCell ⟨B, 5, none⟩ x5).setCell ⟨B, 6, none⟩ x6).setCell ⟨B, 7, none⟩ x7).setCell ⟨B, 8, none⟩ x8) B t #[y0, y1, x2, x3, x4, x5, x6, x7, x8, y9, x10] := cells_set h6 8 x8
  have h8 : CellsAt (((((((((w.setCell ⟨B, 10, none⟩ x10).setCell ⟨B, 2, none⟩ x2).setCell ⟨B, 3, none⟩ x3).setCell ⟨B, 4, none⟩ x4).setCell ⟨B, 5, none⟩ x5).setCell ⟨B, 6, none⟩ x6).setCell ⟨B, 7, none⟩ x7).setCell ⟨B, 8, none⟩ x8).setCell ⟨B, 9, none⟩ x9) B t #[y0, y1, x2, x3, x4, x5, x6, x7, x8, x9, x10] := cells_set h7 9 x9
  exact h8
theorem stB_f {w : World} {B C : Nat} {t : TypeId} {cs : Array Value} (h : CellsAt w C t cs) (hC : C ≠ B) (x10 x2 x3 x4 x5 x6 x7 x8 x9 : Value) : CellsAt (((((((((w.setCell ⟨B, 10, none⟩ x10).setCell ⟨B, 2, none⟩ x2).setCell ⟨B, 3, none⟩ x3).setCell ⟨B, 4, none⟩ x4).setCell ⟨B, 5, none⟩ x5).setCell ⟨B, 6, none⟩ x6).setCell ⟨B, 7, none⟩ x7).setCell ⟨B, 8, none⟩ x8).setCell ⟨B, 9, none⟩ x9) C t cs :=
  cells_set_far (cells_set_far (cells_set_far (cells_set_far (cells_set_far (cells_set_far (cells_set_far (cells_set_far (cells_set_far (h) hC 10 x10) hC 2 x2) hC 3 x3) hC 4 x4) hC 5 x5) hC 6 x6) hC 7 x7) hC 8 x8) hC 9 x9
theorem stB_b {w a : World} {N B : Nat} (h : Below N w a) (hB : N ≤ B) (x10 x2 x3 x4 x5 x6 x7 x8 x9 : Value) : Below N w (((((((((a.setCell ⟨B, 10, none⟩ x10).setCell ⟨B, 2, none⟩ x2).setCell ⟨B, 3, none⟩ x3).setCell ⟨B, 4, none⟩ x4).setCell ⟨B, 5, none⟩ x5).setCell ⟨B, 6, none⟩ x6).setCell ⟨B, 7, none⟩ x7).setCell ⟨B, 8, none⟩ x8).setCell ⟨B, 9, none⟩ x9) :=
  below_set (below_set (below_set (below_set (below_set (below_set (below_set (below_set (below_set (h) hB x10) hB x2) hB x3) hB x4) hB x5) hB x6) hB x7) hB x8) hB x9
theorem stC_c {w : World} {B : Nat} {t : TypeId} {y0 y1 y2 y3 y4 y5 y6 y7 y8 y9 y10 : Value} (h : CellsAt w B t #[y0, y1, y2, y3, y4, y5, y6, y7, y8, y9, y10]) (x2 x4 x6 x8 : Value) : CellsAt ((((w.setCell ⟨B, 2, none⟩ x2).setCell ⟨B, 4, none⟩ x4).setCell ⟨B, 6, none⟩ x6).setCell ⟨B, 8, none⟩ x8) B t #[y0, y1, x2, y3, x4, y5, x6, y7, x8, y9, y10] := by
  have h0 : CellsAt (w.setCell ⟨B, 2, none⟩ x2) B t #[y0, y1, x2, y3, y4, y5, y6, y7, y8, y9, y10] := cells_set h 2 x2
  have h1 : CellsAt ((w.setCell ⟨B, 2, none⟩ x2).setCell ⟨B, 4, none⟩ x4) B t #[y0, y1, x2, y3, x4, y5, y6, y7, y8, y9, y10] := cells_set h0 4 x4
  have h2 : CellsAt (((w.setCell ⟨B, 2, none⟩ x2).setCell ⟨B, 4, none⟩ x4).setCell ⟨B, 6, none⟩ x6) B t #[y0, y1, x2, y3, x4, y5, x6, y7, y8, y9, y10] := cells_set h1 6 x6
  have h3 : CellsAt ((((w.setCell ⟨B, 2, none⟩ x2).setCell ⟨B, 4, none⟩ x4).setCell ⟨B, 6, none⟩ x6).setCell ⟨B, 8, none⟩ x8) B t #[y0, y1, x2, y3, x4, y5, x6, y7, x8, y9, y10] := cells_set h2 8 x8
  exact h3
theorem stC_f {w : World} {B C : Nat} {t : TypeId} {cs : Array Value} (h : CellsAt w C t cs) (hC : C ≠ B) (x2 x4 x6 x8 : Value) : CellsAt ((((w.setCell ⟨B, 2, none⟩ x2).setCell ⟨B, 4, none⟩ x4).setCell ⟨B, 6, none⟩ x6).setCell ⟨B, 8, none⟩ x8) C t cs :=
  cells_set_far (cells_set_far (cells_set_far (cells_set_far (h) hC 2 x2) hC 4 x4) hC 6 x6) hC 8 x8
theorem stC_b {w a : World} {N B : Nat} (h : Below N w a) (hB : N ≤ B) (x2 x4 x6 x8 : Value) : Below N w ((((a.setCell ⟨B, 2, none⟩ x2).setCell ⟨B, 4, none⟩ x4).setCell ⟨B, 6, none⟩ x6).setCell ⟨B, 8, none⟩ x8) :=
  below_set (below_set (below_set (below_set (h) hB x2) hB x4) hB x6) hB x8
theorem stD_c {w : World} {B : Nat} {t : TypeId} {y0 y1 y2 y3 y4 y5 y6 y7 y8 y9 y10 : Value} (h : CellsAt w B t #[y0, y1, y2, y3, y4, y5, y6, y7, y8, y9, y10]) (x3 x5 x7 x9 : Value) : CellsAt ((((w.setCell ⟨B, 3, none⟩ x3).setCell ⟨B, 5, none⟩ x5).setCell ⟨B, 7, none⟩ x7).setCell ⟨B, 9, none⟩ x9) B t #[y0, y1, y2, x3, y4, x5, y6, x7, y8, x9, y10] := by
  have h0 : CellsAt (w.setCell ⟨B, 3, none⟩ x3) B t #[y0, y1, y2, x3, y4, y5, y6, y7, y8, y9, y10] := cells_set h 3 x3
  have h1 : CellsAt ((w.setCell ⟨B, 3, none⟩ x3).setCell ⟨B, 5, none⟩ x5) B t #[y0, y1, y2, x3, y4, x5, y6, y7, y8, y9, y10] := cells_set h0 5 x5
  have h2 : CellsAt (((w.setCell ⟨B, 3, none⟩ x3).setCell ⟨B, 5, none⟩ x5).setCell ⟨B, 7, none⟩ x7) B t #[y0, y1, y2, x3, y4, x5, y6, x7, y8, y9, y10] := cells_set h1 7 x7
  have h3 : CellsAt ((((w.setCell ⟨B, 3, none⟩ x3).setCell ⟨B, 5, none⟩ x5).setCell ⟨B, 7, none⟩ x7).setCell ⟨B, 9, none⟩ x9) B t #[y0, y1, y2, x3, y4, x5, y6, x7, y8, x9, y10] := cells_set h2 9 x9
  exact h3
theorem stD_f {w : World} {B C : Nat} {t : TypeId} {cs : Array Value} (h : CellsAt w C t cs) (hC : C ≠ B) (x3 x5 x7 x9 : Value) : CellsAt ((((w.setCell ⟨B, 3, none⟩ x3).setCell ⟨B, 5, none⟩ x5).setCell ⟨B, 7, none⟩ x7).setCell ⟨B, 9, none⟩ x9) C t cs :=
  cells_set_far (cells_set_far (cells_set_far (cells_set_far (h) hC 3 x3) hC 5 x5) hC 7 x7) hC 9 x9
theorem stD_b {w a : World} {N B : Nat} (h : Below N w a) (hB : N ≤ B) (x3 x5 x7 x9 : Value) : Below N w ((((a.setCell ⟨B, 3, none⟩ x3).setCell ⟨B, 5, none⟩ x5).setCell ⟨B, 7, none⟩ x7).setCell ⟨B, 9, none⟩ x9) :=
  below_set (below_set (below_set (below_set (h) hB x3) hB x5) hB x7) hB x9
theorem fullP_part (l : List UInt8) (h : partOk l = false) : fullP l = (zeroF, 4) := by
  unfold fullP formOk; rw [h]; rfl
theorem bk_pos (s : ByteArray) (h : bkB s.data.toList = true) : 0 < s.size := by
  rcases Nat.eq_zero_or_pos s.size with h0 | h0
  · have e : s.data.toList = [] := List.eq_nil_of_length_eq_zero h0
    rw [e] at h; cases h
  · exact h0
/-- Where a book's name ends, in the whole text. -/
theorem bk_at (l : List UInt8) (hb : bkB l = true) (k : Nat) (hi : Lib.index l.tail [93] = (k : Int)) (hk : k < l.tail.length) (hc : Lib.cut l.tail [93] = (l.tail.take k, l.tail.drop (k + 1), true)) :
    Lib.index l [93] = ((k + 1 : Nat) : Int) ∧ k + 1 < l.length ∧ (bkC l).1 = (l.take (k + 1)).drop 1 ∧ (bkC l).2.1 = l.drop (k + 1 + 1) ∧ (bkC l).2.2 = true := by
  have h1 := idx_tail l hb
  rw [hi, if_neg (by omega)] at h1
  rw [List.length_tail] at hk
  refine ⟨by rw [h1]; omega, by omega, ?_, ?_, ?_⟩
  · unfold bkC; rw [hc]
    cases l with
    | nil => cases hb
    | cons b l => rfl
  · unfold bkC; rw [hc]
    cases l with
    | nil => cases hb
    | cons b l => rfl
  · unfold bkC; rw [hc]

set_option maxRecDepth 100000 in
set_option maxHeartbeats 8000000 in
theorem parse4_ref (s : ByteArray) (w : World) (hs : s.size ≤ 140000000000000) :
    Calls Tryz.prog 158 #[.string s] w fun e w' => e = .returned (.tuple #[.agg (fullP s.data.toList).1.cells, .int .i64 (fullP s.data.toList).2]) ∧ Below w.heap.size w w' := by
  obtain ⟨l, hl⟩ : ∃ l, s.data.toList = l := ⟨_, rfl⟩
  rw [hl]
  have F93 : Hid (∀ w : World, Calls Tryz.prog 197 #[.string s, .int .u8 93] w fun e w' => e = .returned (.int .i64 (Lib.index l [93])) ∧ w' = w) := hide (fun w => by have h := find_ref s 93 w hs; rw [hl] at h; exact h)
  have HSL := hide hl
  clear hl
  cases hk : bkOk l
  · have hb : bkB l = true := by
      unfold bkOk at hk
      cases hb : bkB l
      · rw [hb] at hk; cases hk
      · rfl
    have HV : Hid (fullP l = (zeroF, 4)) := hide (fullP_part l (by unfold partOk; rw [hk]; rfl))
    have h0 : 0 < s.size := bk_pos s (by rw [unhide HSL]; exact hb)
    have c91 : ((s[0].toNat : Int) == 91) = true := by rw [← bkB_at s h0, unhide HSL]; exact hb
    have h0i : (0 : Int) < (s.size : Int) := by omega
    rcases idx_cases 93 l.tail with ⟨hi, hc⟩ | ⟨k, hi, hkk, hc⟩
    · have hx : Lib.index l [93] = -1 := by rw [idx_tail l hb, hi]; rfl
      rw [hx] at F93
      clear hx hi hc hb hk
      go_enter Tryz.func158, Tryz.ntmps158
      go_upto_region 2 with fail
      have R := hide (cells_al (cells_new w 69 #[.string ⟨#[]⟩, .string ⟨#[]⟩, .int .i64 0, .int .i64 0, .bool false, .bool false, .int .i64 0, .int .i64 0, .bool false, .bool false, .bool false]) (.cells #[.string ⟨#[]⟩, .string ⟨#[]⟩, .int .i64 0, .int .i64 0, .bool false, .bool false, .int .i64 0, .int .i64 0, .bool false, .bool false, .bool false] 69))
      have V := hide (cells_new2 w (.cells #[.string ⟨#[]⟩, .string ⟨#[]⟩, .int .i64 0, .int .i64 0, .bool false, .bool false, .int .i64 0, .int .i64 0, .bool false, .bool false, .bool false] 69) 69 #[.string ⟨#[]⟩, .string ⟨#[]⟩, .int .i64 0, .int .i64 0, .bool false, .bool false, .int .i64 0, .int .i64 0, .bool false, .bool false, .bool false])
      have HB := hide (below_al2 w (.cells #[.string ⟨#[]⟩, .string ⟨#[]⟩, .int .i64 0, .int .i64 0, .bool false, .bool false, .int .i64 0, .int .i64 0, .bool false, .bool false, .bool false] 69) (.cells #[.string ⟨#[]⟩, .string ⟨#[]⟩, .int .i64 0, .int .i64 0, .bool false, .bool false, .int .i64 0, .int .i64 0, .bool false, .bool false, .bool false] 69))
      generalize hW : (w.alloc (.cells #[.string ⟨#[]⟩, .string ⟨#[]⟩, .int .i64 0, .int .i64 0, .bool false, .bool false, .int .i64 0, .int .i64 0, .bool false, .bool false, .bool false] 69)).alloc (.cells #[.string ⟨#[]⟩, .string ⟨#[]⟩, .int .i64 0, .int .i64 0, .bool false, .bool false, .int .i64 0, .int .i64 0, .bool false, .bool false, .bool false] 69) = W0 at R V HB ⊢
      clear hW
      go_wp2_with fail
      refine (unhide F93 _).mono ?_
      rintro e wz ⟨rfl, rfl⟩
      obtain ⟨r_0, r_1, r_2, r_3, r_4, r_5, r_6, r_7, r_8, r_9, r_10⟩ := cells11 (unhide R)
      have fz_r_0 := cells_f (unhide R) 0
      have fz_r_1 := cells_f (unhide R) 1
      have fz_r_2 := cells_f (unhide R) 2
      have fz_r_3 := cells_f (unhide R) 3
      have fz_r_4 := cells_f (unhide R) 4
      have fz_r_5 := cells_f (unhide R) 5
      have fz_r_6 := cells_f (unhide R) 6
      have fz_r_7 := cells_f (unhide R) 7
      have fz_r_8 := cells_f (unhide R) 8
      have fz_r_9 := cells_f (unhide R) 9
      have fz_r_10 := cells_f (unhide R) 10
      go_wp2
      refine bodyPost_ret (results_c1t rfl _ _ _ _ _ _ rfl (cells_set11 (unhide R) _ _ _ _ _ _ _ _ _ _ _) Tryz.underlying69 rfl (by exact infoRF) _ rfl) rfl ?_
      exact ⟨by rw [unhide HV]; rfl, below_set11 (unhide HB) (Nat.le_refl _) _ _ _ _ _ _ _ _ _ _ _⟩
    · obtain ⟨hx, hl2, hB1, hB2, hB3⟩ := bk_at l hb k hi hkk hc
      rw [hx] at F93
      have hn : nameG (bkC l).1 = false := by
        unfold bkOk at hk
        rw [hb, hB3] at hk
        simpa using hk
      have hj2 : k + 1 < s.size := by have h := congrArg List.length (unhide HSL); have e : s.data.toList.length = s.size := rfl; omega
      obtain ⟨j, hj⟩ : ∃ j, k + 1 = j := ⟨_, rfl⟩
      rw [hj] at F93 hj2 hB1 hB2
      have j1 : 1 ≤ j := by omega
      have HN := hide (fun w => name_ref (s.extract 1 j) w)
      have e1 : (s.extract 1 j).data.toList = (bkC l).1 := by rw [ext_mid, unhide HSL, hB1]
      rw [e1, hn] at HN
      have i1 : (1 : Int) ≤ (j : Int) := by omega
      have i2 : (j : Int) + 1 ≤ (s.size : Int) := by omega
      clear e1 hn hx hl2 hB1 hB2 hB3 hi hkk hc hb hk hj
      go_enter Tryz.func158, Tryz.ntmps158
      go_upto_region 2 with fail
      have R := hide (cells_al (cells_new w 69 #[.string ⟨#[]⟩, .string ⟨#[]⟩, .int .i64 0, .int .i64 0, .bool false, .bool false, .int .i64 0, .int .i64 0, .bool false, .bool false, .bool false]) (.cells #[.string ⟨#[]⟩, .string ⟨#[]⟩, .int .i64 0, .int .i64 0, .bool false, .bool false, .int .i64 0, .int .i64 0, .bool false, .bool false, .bool false] 69))
      have V := hide (cells_new2 w (.cells #[.string ⟨#[]⟩, .string ⟨#[]⟩, .int .i64 0, .int .i64 0, .bool false, .bool false, .int .i64 0, .int .i64 0, .bool false, .bool false, .bool false] 69) 69 #[.string ⟨#[]⟩, .string ⟨#[]⟩, .int .i64 0, .int .i64 0, .bool false, .bool false, .int .i64 0, .int .i64 0, .bool false, .bool false, .bool false])
      have HB := hide (below_al2 w (.cells #[.string ⟨#[]⟩, .string ⟨#[]⟩, .int .i64 0, .int .i64 0, .bool false, .bool false, .int .i64 0, .int .i64 0, .bool false, .bool false, .bool false] 69) (.cells #[.string ⟨#[]⟩, .string ⟨#[]⟩, .int .i64 0, .int .i64 0, .bool false, .bool false, .int .i64 0, .int .i64 0, .bool false, .bool false, .bool false] 69))
      generalize hW : (w.alloc (.cells #[.string ⟨#[]⟩, .string ⟨#[]⟩, .int .i64 0, .int .i64 0, .bool false, .bool false, .int .i64 0, .int .i64 0, .bool false, .bool false, .bool false] 69)).alloc (.cells #[.string ⟨#[]⟩, .string ⟨#[]⟩, .int .i64 0, .int .i64 0, .bool false, .bool false, .int .i64 0, .int .i64 0, .bool false, .bool false, .bool false] 69) = W0 at R V HB ⊢
      clear hW
      go_wp2_with fail
      refine (unhide F93 _).mono ?_
      rintro e wz ⟨rfl, rfl⟩
      obtain ⟨v_0, v_1, v_2, v_3, v_4, v_5, v_6, v_7, v_8, v_9, v_10⟩ := cells11 (unhide V)
      have fz_v_0 := cells_f (unhide V) 0
      go_upto_region 8 with fail
      clear v_0 v_1 v_2 v_3 v_4 v_5 v_6 v_7 v_8 v_9 v_10
      clear fz_v_0
      replace V := hide (st0_c (unhide V) (.string (s.extract 1 j)))
      replace R := hide (st0_f (B := w.heap.size + 1) (unhide R) (by omega) (.string (s.extract 1 j)))
      replace HB := hide (st0_b (B := w.heap.size + 1) (unhide HB) (by omega) (.string (s.extract 1 j)))
      generalize hW : wz.setCell ⟨w.heap.size + 1, 0, none⟩ (.string (s.extract 1 j)) = W1 at V R HB ⊢
      clear hW
      obtain ⟨v_0, v_1, v_2, v_3, v_4, v_5, v_6, v_7, v_8, v_9, v_10⟩ := cells11 (unhide V)
      go_wp2_with fail
      refine (unhide HN _).mono ?_
      rintro e wz ⟨rfl, rfl⟩
      clear v_0 v_1 v_2 v_3 v_4 v_5 v_6 v_7 v_8 v_9 v_10
      obtain ⟨r_0, r_1, r_2, r_3, r_4, r_5, r_6, r_7, r_8, r_9, r_10⟩ := cells11 (unhide R)
      have fz_r_0 := cells_f (unhide R) 0
      have fz_r_1 := cells_f (unhide R) 1
      have fz_r_2 := cells_f (unhide R) 2
      have fz_r_3 := cells_f (unhide R) 3
      have fz_r_4 := cells_f (unhide R) 4
      have fz_r_5 := cells_f (unhide R) 5
      have fz_r_6 := cells_f (unhide R) 6
      have fz_r_7 := cells_f (unhide R) 7
      have fz_r_8 := cells_f (unhide R) 8
      have fz_r_9 := cells_f (unhide R) 9
      have fz_r_10 := cells_f (unhide R) 10
      go_wp2
      refine bodyPost_ret (results_c1t rfl _ _ _ _ _ _ rfl (cells_set11 (unhide R) _ _ _ _ _ _ _ _ _ _ _) Tryz.underlying69 rfl (by exact infoRF) _ rfl) rfl ?_
      exact ⟨by rw [unhide HV]; rfl, below_set11 (unhide HB) (Nat.le_refl _) _ _ _ _ _ _ _ _ _ _ _⟩
  · have HK := hide hk
    clear hk
    go_enter Tryz.func158, Tryz.ntmps158
    go_upto_region 2 with fail
    have R := hide (cells_al (cells_new w 69 #[.string ⟨#[]⟩, .string ⟨#[]⟩, .int .i64 0, .int .i64 0, .bool false, .bool false, .int .i64 0, .int .i64 0, .bool false, .bool false, .bool false]) (.cells #[.string ⟨#[]⟩, .string ⟨#[]⟩, .int .i64 0, .int .i64 0, .bool false, .bool false, .int .i64 0, .int .i64 0, .bool false, .bool false, .bool false] 69))
    have V := hide (cells_new2 w (.cells #[.string ⟨#[]⟩, .string ⟨#[]⟩, .int .i64 0, .int .i64 0, .bool false, .bool false, .int .i64 0, .int .i64 0, .bool false, .bool false, .bool false] 69) 69 #[.string ⟨#[]⟩, .string ⟨#[]⟩, .int .i64 0, .int .i64 0, .bool false, .bool false, .int .i64 0, .int .i64 0, .bool false, .bool false, .bool false])
    have HB := hide (below_al2 w (.cells #[.string ⟨#[]⟩, .string ⟨#[]⟩, .int .i64 0, .int .i64 0, .bool false, .bool false, .int .i64 0, .int .i64 0, .bool false, .bool false, .bool false] 69) (.cells #[.string ⟨#[]⟩, .string ⟨#[]⟩, .int .i64 0, .int .i64 0, .bool false, .bool false, .int .i64 0, .int .i64 0, .bool false, .bool false, .bool false] 69))
    generalize hW : (w.alloc (.cells #[.string ⟨#[]⟩, .string ⟨#[]⟩, .int .i64 0, .int .i64 0, .bool false, .bool false, .int .i64 0, .int .i64 0, .bool false, .bool false, .bool false] 69)).alloc (.cells #[.string ⟨#[]⟩, .string ⟨#[]⟩, .int .i64 0, .int .i64 0, .bool false, .bool false, .int .i64 0, .int .i64 0, .bool false, .bool false, .bool false] 69) = W0 at R V HB ⊢
    clear hW
    go_cut [27] from 20 to 26 (fun v wx => v = .bool (bkB l) ∧ wx = W0)
    case first =>
      by_cases h0 : 0 < s.size
      · have hb := bkB_at s h0
        rw [unhide HSL] at hb
        have h0i : (0 : Int) < (s.size : Int) := by omega
        cases hc : ((s[0].toNat : Int) == 91)
        · rw [hc] at hb
          have HD : Hid (bkB l = false) := hide hb
          clear hb
          go_wp2
          go_meet
          case rel => exact ⟨by rw [unhide HD], rfl⟩
        · rw [hc] at hb
          have HD : Hid (bkB l = true) := hide hb
          clear hb
          go_wp2
          go_meet
          case rel => exact ⟨by rw [unhide HD], rfl⟩
      · have HD : Hid (bkB l = false) := hide (by have e : s.data.toList = [] := List.eq_nil_of_length_eq_zero (show s.size = 0 by omega); rw [← unhide HSL, e]; rfl)
        have h0i : (s.size : Int) ≤ 0 := by omega
        go_wp2
        go_meet
        case rel => exact ⟨by rw [unhide HD], rfl⟩
    case rest =>
      obtain ⟨rfl, rfl⟩ := hcut
      obtain ⟨bb, hbb⟩ : ∃ x, bkB l = x := ⟨_, rfl⟩
      rw [hbb]
      have HBB := hide hbb
      clear hbb
      go_upto_if 27 with fail
      go_cut [0, 5, 6] from 27 (fun v0 v5 v6 wx => (∃ t : ByteArray, v0 = .string t ∧ t.size ≤ s.size ∧ Hid (t.data.toList = bkR l)) ∧ Hid (CellsAt wx w.heap.size 69 #[.string ⟨#[]⟩, .string ⟨#[]⟩, .int .i64 0, .int .i64 0, .bool false, .bool false, .int .i64 0, .int .i64 0, .bool false, .bool false, .bool false]) ∧ (∃ b : ByteArray, Hid (b = ⟨(partB l).toArray⟩) ∧ Hid (CellsAt wx (w.heap.size + 1) 69 #[.string b, .string ⟨#[]⟩, .int .i64 0, .int .i64 0, .bool false, .bool false, .int .i64 0, .int .i64 0, .bool false, .bool false, .bool false])) ∧ Hid (Below w.heap.size w wx))
      case first =>
        cases bb
        · have HR : Hid (bkR l = l ∧ partB l = []) := hide ⟨by unfold bkR; rw [unhide HBB]; rfl, by unfold partB; rw [unhide HBB]; rfl⟩
          go_wp2
          go_meet
          case rel => exact ⟨⟨s, rfl, Nat.le_refl _, hide (by rw [(unhide HR).1]; exact unhide HSL)⟩, R, ⟨⟨#[]⟩, hide (by rw [(unhide HR).2]), V⟩, HB⟩
        · have hb := unhide HBB
          have hk2 : (bkC l).2.2 = true ∧ nameG (bkC l).1 = true := by
            have h := unhide HK
            unfold bkOk at h
            rw [hb] at h
            simpa using h
          have HR : Hid (bkR l = (bkC l).2.1 ∧ partB l = (bkC l).1) := hide ⟨by unfold bkR; rw [hb]; rfl, by unfold partB; rw [hb]; rfl⟩
          rcases idx_cases 93 l.tail with ⟨hi, hc⟩ | ⟨k, hi, hkk, hc⟩
          · exfalso
            have : (bkC l).2.2 = false := by unfold bkC; rw [hc]
            rw [this] at hk2
            cases hk2.1
          obtain ⟨hx, hl2, hB1, hB2, hB3⟩ := bk_at l hb k hi hkk hc
          rw [hx] at F93
          have hj2 : k + 1 < s.size := by have h := congrArg List.length (unhide HSL); have e : s.data.toList.length = s.size := rfl; omega
          obtain ⟨j, hj⟩ : ∃ j, k + 1 = j := ⟨_, rfl⟩
          rw [hj] at F93 hj2 hB1 hB2
          have j1 : 1 ≤ j := by omega
          have HN := hide (fun w => name_ref (s.extract 1 j) w)
          have e1 : (s.extract 1 j).data.toList = (bkC l).1 := by rw [ext_mid, unhide HSL, hB1]
          have HE1 := hide e1
          have HE2 : Hid ((s.extract (j + 1) s.size).data.toList = (bkC l).2.1) := hide (by rw [ext_drop, unhide HSL, hB2])
          rw [e1, hk2.2] at HN
          have i1 : (1 : Int) ≤ (j : Int) := by omega
          have i2 : (j : Int) + 1 ≤ (s.size : Int) := by omega
          clear e1 hx hl2 hB1 hB2 hB3 hi hkk hc hb hj hk2
          go_wp2_with fail
          refine (unhide F93 _).mono ?_
          rintro e wz ⟨rfl, rfl⟩
          obtain ⟨v_0, v_1, v_2, v_3, v_4, v_5, v_6, v_7, v_8, v_9, v_10⟩ := cells11 (unhide V)
          have fz_v_0 := cells_f (unhide V) 0
          go_upto_region 8 with fail
          clear v_0 v_1 v_2 v_3 v_4 v_5 v_6 v_7 v_8 v_9 v_10
          clear fz_v_0
          replace V := hide (st0_c (unhide V) (.string (s.extract 1 j)))
          replace R := hide (st0_f (B := w.heap.size + 1) (unhide R) (by omega) (.string (s.extract 1 j)))
          replace HB := hide (st0_b (B := w.heap.size + 1) (unhide HB) (by omega) (.string (s.extract 1 j)))
          generalize hW : wz.setCell ⟨w.heap.size + 1, 0, none⟩ (.string (s.extract 1 j)) = W1 at V R HB ⊢
          clear hW
          obtain ⟨v_0, v_1, v_2, v_3, v_4, v_5, v_6, v_7, v_8, v_9, v_10⟩ := cells11 (unhide V)
          go_wp2_with fail
          refine (unhide HN _).mono ?_
          rintro e wz ⟨rfl, rfl⟩
          clear v_0 v_1 v_2 v_3 v_4 v_5 v_6 v_7 v_8 v_9 v_10
          go_wp2
          go_meet
          case rel => exact ⟨⟨s.extract (j + 1) s.size, rfl, by rw [ByteArray.size_extract]; omega, hide (by rw [(unhide HR).1, unhide HE2])⟩, R, ⟨s.extract 1 j, hide (by apply ba_ext; rw [unhide HE1, (unhide HR).2]), V⟩, HB⟩
      case rest =>
        obtain ⟨⟨t, rfl, hts, HT⟩, R, ⟨b, HBK, V⟩, HB⟩ := hcut
        have F33 : Hid (∀ w : World, Calls Tryz.prog 197 #[.string t, .int .u8 33] w fun e w' => e = .returned (.int .i64 (Lib.index (bkR l) [33])) ∧ w' = w) := hide (fun w => by have h := find_ref t 33 w (by omega); rw [unhide HT] at h; exact h)
        cases hsh : shOk l
        · have HV : Hid (fullP l = (zeroF, 4)) := hide (fullP_part l (by unfold partOk; rw [hsh, Bool.and_false]))
          rcases idx_cases 33 (bkR l) with ⟨hi, hc⟩ | ⟨k, hi, hk, hc⟩
          · have hbt : bkB l = true := by
              have h3 : (shC l).2.2 = false := by unfold shC; rw [hc]
              unfold shOk at hsh
              rw [h3] at hsh
              simpa using hsh
            have eB : (b.toList == []) = false := by
              have h := unhide HK
              unfold bkOk at h
              rw [hbt] at h
              have hn : nameG (bkC l).1 = true := by
                rw [Bool.not_true, Bool.false_or, Bool.and_eq_true] at h; exact h.2
              have hp : partB l = (bkC l).1 := by unfold partB; rw [hbt]; rfl
              rw [unhide HBK, ← empty_l]
              show (partB l).isEmpty = false
              rw [hp]
              exact (name_plain _ hn).2
            rw [hi] at F33
            clear hi hc hbt hsh
            go_wp2_with fail
            refine (unhide F33 _).mono ?_
            rintro e wz ⟨rfl, rfl⟩
            obtain ⟨v_0, v_1, v_2, v_3, v_4, v_5, v_6, v_7, v_8, v_9, v_10⟩ := cells11 (unhide V)
            obtain ⟨r_0, r_1, r_2, r_3, r_4, r_5, r_6, r_7, r_8, r_9, r_10⟩ := cells11 (unhide R)
            have fz_r_0 := cells_f (unhide R) 0
            have fz_r_1 := cells_f (unhide R) 1
            have fz_r_2 := cells_f (unhide R) 2
            have fz_r_3 := cells_f (unhide R) 3
            have fz_r_4 := cells_f (unhide R) 4
            have fz_r_5 := cells_f (unhide R) 5
            have fz_r_6 := cells_f (unhide R) 6
            have fz_r_7 := cells_f (unhide R) 7
            have fz_r_8 := cells_f (unhide R) 8
            have fz_r_9 := cells_f (unhide R) 9
            have fz_r_10 := cells_f (unhide R) 10
            go_wp2
            refine bodyPost_ret (results_c1t rfl _ _ _ _ _ _ rfl (cells_set11 (unhide R) _ _ _ _ _ _ _ _ _ _ _) Tryz.underlying69 rfl (by exact infoRF) _ rfl) rfl ?_
            exact ⟨by rw [unhide HV]; rfl, below_set11 (unhide HB) (Nat.le_refl _) _ _ _ _ _ _ _ _ _ _ _⟩
          · have hn : nameG ((bkR l).take k) = false := by
              unfold shOk shC at hsh
              rw [hc] at hsh
              exact hsh
            have hkt : k < t.size := by have h := congrArg List.length (unhide HT); have e : t.data.toList.length = t.size := rfl; omega
            have HN := hide (fun w => name_ref (t.extract 0 k) w)
            rw [show (t.extract 0 k).data.toList = (bkR l).take k by rw [ext_take, unhide HT], hn] at HN
            have i1 : (0 : Int) ≤ (k : Int) := by omega
            have i2 : (k : Int) + 1 ≤ (t.size : Int) := by omega
            rw [hi] at F33
            clear hi hc hn hsh hk
            go_wp2_with fail
            refine (unhide F33 _).mono ?_
            rintro e wz ⟨rfl, rfl⟩
            obtain ⟨v_0, v_1, v_2, v_3, v_4, v_5, v_6, v_7, v_8, v_9, v_10⟩ := cells11 (unhide V)
            have fz_v_1 := cells_f (unhide V) 1
            go_upto_region 15 with fail
            clear v_0 v_1 v_2 v_3 v_4 v_5 v_6 v_7 v_8 v_9 v_10
            clear fz_v_1
            replace V := hide (st1_c (unhide V) (.string (t.extract 0 k)))
            replace R := hide (st1_f (B := w.heap.size + 1) (unhide R) (by omega) (.string (t.extract 0 k)))
            replace HB := hide (st1_b (B := w.heap.size + 1) (unhide HB) (by omega) (.string (t.extract 0 k)))
            generalize hW : wz.setCell ⟨w.heap.size + 1, 1, none⟩ (.string (t.extract 0 k)) = W1 at V R HB ⊢
            clear hW
            obtain ⟨v_0, v_1, v_2, v_3, v_4, v_5, v_6, v_7, v_8, v_9, v_10⟩ := cells11 (unhide V)
            go_wp2_with fail
            refine (unhide HN _).mono ?_
            rintro e wz ⟨rfl, rfl⟩
            clear v_0 v_1 v_2 v_3 v_4 v_5 v_6 v_7 v_8 v_9 v_10
            obtain ⟨r_0, r_1, r_2, r_3, r_4, r_5, r_6, r_7, r_8, r_9, r_10⟩ := cells11 (unhide R)
            have fz_r_0 := cells_f (unhide R) 0
            have fz_r_1 := cells_f (unhide R) 1
            have fz_r_2 := cells_f (unhide R) 2
            have fz_r_3 := cells_f (unhide R) 3
            have fz_r_4 := cells_f (unhide R) 4
            have fz_r_5 := cells_f (unhide R) 5
            have fz_r_6 := cells_f (unhide R) 6
            have fz_r_7 := cells_f (unhide R) 7
            have fz_r_8 := cells_f (unhide R) 8
            have fz_r_9 := cells_f (unhide R) 9
            have fz_r_10 := cells_f (unhide R) 10
            go_wp2
            refine bodyPost_ret (results_c1t rfl _ _ _ _ _ _ rfl (cells_set11 (unhide R) _ _ _ _ _ _ _ _ _ _ _) Tryz.underlying69 rfl (by exact infoRF) _ rfl) rfl ?_
            exact ⟨by rw [unhide HV]; rfl, below_set11 (unhide HB) (Nat.le_refl _) _ _ _ _ _ _ _ _ _ _ _⟩
        · have HPO : Hid (partOk l = true) := hide (by unfold partOk; rw [unhide HK, hsh]; rfl)
          have HSO := hide hsh
          clear hsh
          obtain ⟨x, hx⟩ : ∃ x, Lib.index (bkR l) [33] = x := ⟨_, rfl⟩
          have hcs := idx_cases 33 (bkR l)
          rw [hx] at F33 hcs
          clear hx
          have HCS := hide hcs
          clear hcs
          go_wp2_with fail
          refine (unhide F33 _).mono ?_
          rintro e wz ⟨rfl, rfl⟩
          go_upto_if 50 with fail
          go_cut [0, 8] from 50 (fun v0 v8 wx => (∃ t' : ByteArray, v0 = .string t' ∧ t'.size ≤ s.size ∧ Hid (t'.data.toList = partP l)) ∧ Hid (CellsAt wx w.heap.size 69 #[.string ⟨#[]⟩, .string ⟨#[]⟩, .int .i64 0, .int .i64 0, .bool false, .bool false, .int .i64 0, .int .i64 0, .bool false, .bool false, .bool false]) ∧ (∃ sh : ByteArray, Hid (sh = ⟨(partS l).toArray⟩) ∧ Hid (CellsAt wx (w.heap.size + 1) 69 #[.string b, .string sh, .int .i64 0, .int .i64 0, .bool false, .bool false, .int .i64 0, .int .i64 0, .bool false, .bool false, .bool false])) ∧ Hid (Below w.heap.size w wx))
          case first =>
            rcases unhide HCS with ⟨hi, hc⟩ | ⟨k, hi, hk, hc⟩
            · have HR : Hid (partP l = bkR l ∧ partS l = []) := hide (by
                have h3 : (shC l).2.2 = false := by unfold shC; rw [hc]
                exact ⟨by unfold partP; rw [h3]; rfl, by unfold partS; rw [h3]; rfl⟩)
              subst hi
              clear hc HCS
              go_wp2
              go_meet
              case rel => exact ⟨⟨t, rfl, hts, hide (by rw [(unhide HR).1]; exact unhide HT)⟩, R, ⟨⟨#[]⟩, hide (by rw [(unhide HR).2]), V⟩, HB⟩
            · have HR : Hid (partP l = (bkR l).drop (k + 1) ∧ partS l = (bkR l).take k) := hide (by
                have h3 : shC l = ((bkR l).take k, (bkR l).drop (k + 1), true) := hc
                exact ⟨by unfold partP; rw [h3]; rfl, by unfold partS; rw [h3]; rfl⟩)
              have hn : nameG ((bkR l).take k) = true := by
                have h := unhide HSO
                unfold shOk shC at h
                rw [hc] at h
                exact h
              have hkt : k < t.size := by have h := congrArg List.length (unhide HT); have e : t.data.toList.length = t.size := rfl; omega
              have HN := hide (fun w => name_ref (t.extract 0 k) w)
              have e1 : (t.extract 0 k).data.toList = (bkR l).take k := by rw [ext_take, unhide HT]
              have HE1 := hide e1
              have HE2 : Hid ((t.extract (k + 1) t.size).data.toList = (bkR l).drop (k + 1)) := hide (by rw [ext_drop, unhide HT])
              rw [e1, hn] at HN
              have i1 : (0 : Int) ≤ (k : Int) := by omega
              have i2 : (k : Int) + 1 ≤ (t.size : Int) := by omega
              subst hi
              clear hc HCS hn hk e1
              obtain ⟨v_0, v_1, v_2, v_3, v_4, v_5, v_6, v_7, v_8, v_9, v_10⟩ := cells11 (unhide V)
              have fz_v_1 := cells_f (unhide V) 1
              go_upto_region 15 with fail
              clear v_0 v_1 v_2 v_3 v_4 v_5 v_6 v_7 v_8 v_9 v_10
              clear fz_v_1
              replace V := hide (st1_c (unhide V) (.string (t.extract 0 k)))
              replace R := hide (st1_f (B := w.heap.size + 1) (unhide R) (by omega) (.string (t.extract 0 k)))
              replace HB := hide (st1_b (B := w.heap.size + 1) (unhide HB) (by omega) (.string (t.extract 0 k)))
              generalize hW : wz.setCell ⟨w.heap.size + 1, 1, none⟩ (.string (t.extract 0 k)) = W1 at V R HB ⊢
              clear hW
              obtain ⟨v_0, v_1, v_2, v_3, v_4, v_5, v_6, v_7, v_8, v_9, v_10⟩ := cells11 (unhide V)
              go_wp2_with fail
              refine (unhide HN _).mono ?_
              rintro e wz ⟨rfl, rfl⟩
              clear v_0 v_1 v_2 v_3 v_4 v_5 v_6 v_7 v_8 v_9 v_10
              go_wp2
              go_meet
              case rel => exact ⟨⟨t.extract (k + 1) t.size, rfl, by rw [ByteArray.size_extract]; omega, hide (by rw [(unhide HR).1, unhide HE2])⟩, R, ⟨t.extract 0 k, hide (by apply ba_ext; rw [unhide HE1, (unhide HR).2]), V⟩, HB⟩
          case rest =>
            obtain ⟨⟨t', rfl, hts', HT'⟩, R, ⟨sh, HSH, V⟩, HB⟩ := hcut
            go_upto_region 18 with fail
            go_cut [72] from 65 to 71 (fun v wx => v = .bool false ∧ wx = wc)
            case first =>
              cases eB : (b.toList == [])
              · have eS : (sh.toList == []) = false := by
                  obtain ⟨_, _, h3⟩ := good_sizes b sh zeroR zeroR false (by
                    have h := part_good l (unhide HPO) zeroR zeroR false
                    rw [← unhide HBK, ← unhide HSH] at h
                    rw [h]; rfl)
                  cases h : (sh.toList == [])
                  · rfl
                  · rw [h3 h] at eB; cases eB
                obtain ⟨v_0, v_1, v_2, v_3, v_4, v_5, v_6, v_7, v_8, v_9, v_10⟩ := cells11 (unhide V)
                go_wp2
                go_meet
                case rel => exact ⟨rfl, rfl⟩
              · obtain ⟨v_0, v_1, v_2, v_3, v_4, v_5, v_6, v_7, v_8, v_9, v_10⟩ := cells11 (unhide V)
                go_wp2
                go_meet
                case rel => exact ⟨rfl, rfl⟩
            case rest =>
              obtain ⟨rfl, rfl⟩ := hcut
              clear HT F33 HCS hts HSO HK
              have F58 : Hid (∀ w : World, Calls Tryz.prog 197 #[.string t', .int .u8 58] w fun e w' => e = .returned (.int .i64 (Lib.index (partP l) [58])) ∧ w' = w) := hide (fun w => by have h := find_ref t' 58 w (by omega); rw [unhide HT'] at h; exact h)
              have FX : Hid (formF l = ⟨b, sh, ref1V (plC l).1, if (plC l).2.2 = true then ref1V (plC l).2.1 else zeroR, (plC l).2.2⟩) := hide (by unfold formF; rw [← unhide HBK, ← unhide HSH])
              have FO : Hid (formOk l = (ref1B (plC l).1 && (!(plC l).2.2 || ref1B (plC l).2.1))) := hide (by unfold formOk; rw [unhide HPO]; rfl)
              have FG : Hid (∀ (x y : Rf) (d : Bool), goodF ⟨b, sh, x, y, d⟩ = (if d = true then areaG x.col x.row y.col y.row else zeroB y && cellG x.col x.row)) := hide (fun x y d => by
                have h := part_good l (unhide HPO) x y d
                rw [← unhide HBK, ← unhide HSH] at h
                exact h)
              clear HPO HBK HSH
              rcases idx_cases 58 (partP l) with ⟨hi, hc⟩ | ⟨k, hi, hk, hc⟩
              · have hpc : plC l = (partP l, [], false) := hc
                rw [hpc] at FX FO
                rw [hi] at F58
                simp only [] at FX FO
                have HA := hide (fun w => ref1_ref t' w (by omega))
                rw [unhide HT'] at HA
                have HR1 : Hid (ref1B (partP l) = true → formV (partP l) = ref1V (partP l)) := hide (fun h => by unfold formV; rw [h]; rfl)
                clear hi hc hpc HT'
                cases h1 : ref1B (partP l)
                · rw [h1] at HA FO
                  have HV : Hid (fullP l = (zeroF, 4)) := hide (by unfold fullP; rw [unhide FO]; rfl)
                  clear HR1 h1
                  generalize formV (partP l) = p at HA
                  unfold Rf.cells at HA
                  go_wp2_with fail
                  refine (unhide F58 _).mono ?_
                  rintro e wz ⟨rfl, rfl⟩
                  go_wp2_with fail
                  refine (unhide HA _).mono ?_
                  rintro e wz ⟨rfl, bz⟩
                  replace R := hide (cells_nx (unhide R) bz)
                  replace V := hide (cells_nx (unhide V) bz)
                  replace HB := hide (below_nx (unhide HB) bz)
                  clear bz
                  have hlU : w.heap.size + 1 < wz.heap.size := cells_lt (unhide V)
                  go_upto_region 27 with fail
                  have U := hide (cells_new wz 67 #[.int .i64 p.col, .int .i64 p.row, .bool p.fc, .bool p.fr])
                  replace R := hide (cells_al (unhide R) (.cells #[.int .i64 p.col, .int .i64 p.row, .bool p.fc, .bool p.fr] 67))
                  replace V := hide (cells_al (unhide V) (.cells #[.int .i64 p.col, .int .i64 p.row, .bool p.fc, .bool p.fr] 67))
                  replace HB := hide ((unhide HB).alloc (unhide HB).size (.cells #[.int .i64 p.col, .int .i64 p.row, .bool p.fc, .bool p.fr] 67))
                  generalize hW : wz.alloc (.cells #[.int .i64 p.col, .int .i64 p.row, .bool p.fc, .bool p.fr] 67) = W5 at U R V HB ⊢
                  clear hW
                  obtain ⟨r_0, r_1, r_2, r_3, r_4, r_5, r_6, r_7, r_8, r_9, r_10⟩ := cells11 (unhide R)
                  have fz_r_0 := cells_f (unhide R) 0
                  have fz_r_1 := cells_f (unhide R) 1
                  have fz_r_2 := cells_f (unhide R) 2
                  have fz_r_3 := cells_f (unhide R) 3
                  have fz_r_4 := cells_f (unhide R) 4
                  have fz_r_5 := cells_f (unhide R) 5
                  have fz_r_6 := cells_f (unhide R) 6
                  have fz_r_7 := cells_f (unhide R) 7
                  have fz_r_8 := cells_f (unhide R) 8
                  have fz_r_9 := cells_f (unhide R) 9
                  have fz_r_10 := cells_f (unhide R) 10
                  go_wp2
                  refine bodyPost_ret (results_c1t rfl _ _ _ _ _ _ rfl (cells_set11 (unhide R) _ _ _ _ _ _ _ _ _ _ _) Tryz.underlying69 rfl (by exact infoRF) _ rfl) rfl ?_
                  exact ⟨by rw [unhide HV]; rfl, below_set11 (unhide HB) (Nat.le_refl _) _ _ _ _ _ _ _ _ _ _ _⟩
                · rw [h1] at HA FO
                  rw [unhide HR1 h1] at HA
                  clear HR1 h1
                  have FP : Hid (fullP l = if cellG (ref1V (partP l)).col (ref1V (partP l)).row = true then (⟨b, sh, ref1V (partP l), zeroR, false⟩, 0) else (zeroF, 3)) := hide (by
                    unfold fullP
                    rw [unhide FO, unhide FX]
                    show (if (cellG (ref1V (partP l)).col (ref1V (partP l)).row && true) = true then (if goodF (⟨b, sh, ref1V (partP l), zeroR, false⟩ : Fl) = true then ((⟨b, sh, ref1V (partP l), zeroR, false⟩ : Fl), (0 : Int)) else (zeroF, 7)) else (zeroF, 3)) = _
                    rw [unhide FG]
                    cases h : cellG (ref1V (partP l)).col (ref1V (partP l)).row
                    · rfl
                    · simp [zeroB, zeroR])
                  generalize ref1V (partP l) = p at HA FP
                  clear FX FO FG
                  have H1 := hide (fun w => cell_ref p.col p.row w)
                  unfold Rf.cells at HA
                  cases g1 : cellG p.col p.row
                  · rw [g1] at H1 FP
                    have HV : Hid (fullP l = (zeroF, 3)) := hide (by rw [unhide FP]; rfl)
                    clear g1
                    go_wp2_with fail
                    refine (unhide F58 _).mono ?_
                    rintro e wz ⟨rfl, rfl⟩
                    go_wp2_with fail
                    refine (unhide HA _).mono ?_
                    rintro e wz ⟨rfl, bz⟩
                    replace R := hide (cells_nx (unhide R) bz)
                    replace V := hide (cells_nx (unhide V) bz)
                    replace HB := hide (below_nx (unhide HB) bz)
                    clear bz
                    have hlU : w.heap.size + 1 < wz.heap.size := cells_lt (unhide V)
                    go_upto_region 27 with fail
                    have U := hide (cells_new wz 67 #[.int .i64 p.col, .int .i64 p.row, .bool p.fc, .bool p.fr])
                    replace R := hide (cells_al (unhide R) (.cells #[.int .i64 p.col, .int .i64 p.row, .bool p.fc, .bool p.fr] 67))
                    replace V := hide (cells_al (unhide V) (.cells #[.int .i64 p.col, .int .i64 p.row, .bool p.fc, .bool p.fr] 67))
                    replace HB := hide ((unhide HB).alloc (unhide HB).size (.cells #[.int .i64 p.col, .int .i64 p.row, .bool p.fc, .bool p.fr] 67))
                    generalize hW : wz.alloc (.cells #[.int .i64 p.col, .int .i64 p.row, .bool p.fc, .bool p.fr] 67) = W5 at U R V HB ⊢
                    clear hW
                    obtain ⟨u_0, u_1, u_2, u_3⟩ := cells4 (unhide U)
                    go_wp2_with fail
                    refine (unhide H1 _).mono ?_
                    rintro e wz ⟨rfl, rfl⟩
                    clear u_0 u_1 u_2 u_3
                    obtain ⟨r_0, r_1, r_2, r_3, r_4, r_5, r_6, r_7, r_8, r_9, r_10⟩ := cells11 (unhide R)
                    have fz_r_0 := cells_f (unhide R) 0
                    have fz_r_1 := cells_f (unhide R) 1
                    have fz_r_2 := cells_f (unhide R) 2
                    have fz_r_3 := cells_f (unhide R) 3
                    have fz_r_4 := cells_f (unhide R) 4
                    have fz_r_5 := cells_f (unhide R) 5
                    have fz_r_6 := cells_f (unhide R) 6
                    have fz_r_7 := cells_f (unhide R) 7
                    have fz_r_8 := cells_f (unhide R) 8
                    have fz_r_9 := cells_f (unhide R) 9
                    have fz_r_10 := cells_f (unhide R) 10
                    go_wp2
                    refine bodyPost_ret (results_c1t rfl _ _ _ _ _ _ rfl (cells_set11 (unhide R) _ _ _ _ _ _ _ _ _ _ _) Tryz.underlying69 rfl (by exact infoRF) _ rfl) rfl ?_
                    exact ⟨by rw [unhide HV]; rfl, below_set11 (unhide HB) (Nat.le_refl _) _ _ _ _ _ _ _ _ _ _ _⟩
                  · rw [g1] at H1 FP
                    have HV : Hid (fullP l = (⟨b, sh, p, zeroR, false⟩, 0)) := hide (by rw [unhide FP]; rfl)
                    clear g1
                    go_wp2_with fail
                    refine (unhide F58 _).mono ?_
                    rintro e wz ⟨rfl, rfl⟩
                    go_wp2_with fail
                    refine (unhide HA _).mono ?_
                    rintro e wz ⟨rfl, bz⟩
                    replace R := hide (cells_nx (unhide R) bz)
                    replace V := hide (cells_nx (unhide V) bz)
                    replace HB := hide (below_nx (unhide HB) bz)
                    clear bz
                    have hlU : w.heap.size + 1 < wz.heap.size := cells_lt (unhide V)
                    go_upto_region 27 with fail
                    have U := hide (cells_new wz 67 #[.int .i64 p.col, .int .i64 p.row, .bool p.fc, .bool p.fr])
                    replace R := hide (cells_al (unhide R) (.cells #[.int .i64 p.col, .int .i64 p.row, .bool p.fc, .bool p.fr] 67))
                    replace V := hide (cells_al (unhide V) (.cells #[.int .i64 p.col, .int .i64 p.row, .bool p.fc, .bool p.fr] 67))
                    replace HB := hide ((unhide HB).alloc (unhide HB).size (.cells #[.int .i64 p.col, .int .i64 p.row, .bool p.fc, .bool p.fr] 67))
                    generalize hW : wz.alloc (.cells #[.int .i64 p.col, .int .i64 p.row, .bool p.fc, .bool p.fr] 67) = W5 at U R V HB ⊢
                    clear hW
                    obtain ⟨u_0, u_1, u_2, u_3⟩ := cells4 (unhide U)
                    go_wp2_with fail
                    refine (unhide H1 _).mono ?_
                    rintro e wz ⟨rfl, rfl⟩
                    obtain ⟨v_0, v_1, v_2, v_3, v_4, v_5, v_6, v_7, v_8, v_9, v_10⟩ := cells11 (unhide V)
                    have fz_v_2 := cells_f (unhide V) 2
                    have fz_v_3 := cells_f (unhide V) 3
                    have fz_v_4 := cells_f (unhide V) 4
                    have fz_v_5 := cells_f (unhide V) 5
                    go_upto_region 34 with fail
                    clear u_0 u_1 u_2 u_3 v_0 v_1 v_2 v_3 v_4 v_5 v_6 v_7 v_8 v_9 v_10
                    clear fz_v_2 fz_v_3 fz_v_4 fz_v_5
                    replace V := hide (stA_c (unhide V) (.int .i64 p.col) (.int .i64 p.row) (.bool p.fc) (.bool p.fr))
                    replace R := hide (stA_f (B := w.heap.size + 1) (unhide R) (by omega) (.int .i64 p.col) (.int .i64 p.row) (.bool p.fc) (.bool p.fr))
                    replace HB := hide (stA_b (B := w.heap.size + 1) (unhide HB) (by omega) (.int .i64 p.col) (.int .i64 p.row) (.bool p.fc) (.bool p.fr))
                    generalize hW : (((wz.setCell ⟨w.heap.size + 1, 2, none⟩ (.int .i64 p.col)).setCell ⟨w.heap.size + 1, 3, none⟩ (.int .i64 p.row)).setCell ⟨w.heap.size + 1, 4, none⟩ (.bool p.fc)).setCell ⟨w.heap.size + 1, 5, none⟩ (.bool p.fr) = W6 at V R HB ⊢
                    clear hW
                    obtain ⟨v_0, v_1, v_2, v_3, v_4, v_5, v_6, v_7, v_8, v_9, v_10⟩ := cells11 (unhide V)
                    obtain ⟨r_0, r_1, r_2, r_3, r_4, r_5, r_6, r_7, r_8, r_9, r_10⟩ := cells11 (unhide R)
                    have fz_r_0 := cells_f (unhide R) 0
                    have fz_r_1 := cells_f (unhide R) 1
                    have fz_r_2 := cells_f (unhide R) 2
                    have fz_r_3 := cells_f (unhide R) 3
                    have fz_r_4 := cells_f (unhide R) 4
                    have fz_r_5 := cells_f (unhide R) 5
                    have fz_r_6 := cells_f (unhide R) 6
                    have fz_r_7 := cells_f (unhide R) 7
                    have fz_r_8 := cells_f (unhide R) 8
                    have fz_r_9 := cells_f (unhide R) 9
                    have fz_r_10 := cells_f (unhide R) 10
                    go_wp2
                    refine bodyPost_ret (results_c1t rfl _ _ _ _ _ _ rfl (cells_set11 (unhide R) _ _ _ _ _ _ _ _ _ _ _) Tryz.underlying69 rfl (by exact infoRF) _ rfl) rfl ?_
                    exact ⟨by rw [unhide HV]; rfl, below_set11 (unhide HB) (Nat.le_refl _) _ _ _ _ _ _ _ _ _ _ _⟩
              · have hpc : plC l = ((partP l).take k, (partP l).drop (k + 1), true) := hc
                rw [hpc] at FX FO
                rw [hi] at F58
                simp only [] at FX FO
                have hkt : k < t'.size := by have h := congrArg List.length (unhide HT'); have e : t'.data.toList.length = t'.size := rfl; omega
                have HA := hide (fun w => ref1_ref (t'.extract 0 k) w (by rw [ByteArray.size_extract]; omega))
                have HD := hide (fun w => ref1_ref (t'.extract (k + 1) t'.size) w (by rw [ByteArray.size_extract]; omega))
                have e1 : (t'.extract 0 k).data.toList = (partP l).take k := by rw [ext_take, unhide HT']
                have e2 : (t'.extract (k + 1) t'.size).data.toList = (partP l).drop (k + 1) := by rw [ext_drop, unhide HT']
                rw [e1] at HA
                rw [e2] at HD
                have i1 : (0 : Int) ≤ (k : Int) := by omega
                have i2 : (k : Int) + 1 ≤ (t'.size : Int) := by omega
                clear e1 e2 hi hc hpc HT' hk
                generalize (partP l).take k = A at HA FX FO
                generalize (partP l).drop (k + 1) = D at HD FX FO
                have HR1 : Hid (ref1B A = true → formV A = ref1V A) := hide (fun h => by unfold formV; rw [h]; rfl)
                have HR2 : Hid (ref1B D = true → formV D = ref1V D) := hide (fun h => by unfold formV; rw [h]; rfl)
                cases h1 : ref1B A
                · rw [h1] at HA FO
                  have HV : Hid (fullP l = (zeroF, 4)) := hide (by unfold fullP; rw [unhide FO]; rfl)
                  clear HR1 HR2 h1 HD
                  generalize formV A = p at HA
                  unfold Rf.cells at HA
                  go_wp2_with fail
                  refine (unhide F58 _).mono ?_
                  rintro e wz ⟨rfl, rfl⟩
                  go_wp2_with fail
                  refine (unhide HA _).mono ?_
                  rintro e wz ⟨rfl, bz⟩
                  replace R := hide (cells_nx (unhide R) bz)
                  replace V := hide (cells_nx (unhide V) bz)
                  replace HB := hide (below_nx (unhide HB) bz)
                  clear bz
                  have hlU : w.heap.size + 1 < wz.heap.size := cells_lt (unhide V)
                  go_upto_region 27 with fail
                  have U := hide (cells_new wz 67 #[.int .i64 p.col, .int .i64 p.row, .bool p.fc, .bool p.fr])
                  replace R := hide (cells_al (unhide R) (.cells #[.int .i64 p.col, .int .i64 p.row, .bool p.fc, .bool p.fr] 67))
                  replace V := hide (cells_al (unhide V) (.cells #[.int .i64 p.col, .int .i64 p.row, .bool p.fc, .bool p.fr] 67))
                  replace HB := hide ((unhide HB).alloc (unhide HB).size (.cells #[.int .i64 p.col, .int .i64 p.row, .bool p.fc, .bool p.fr] 67))
                  generalize hW : wz.alloc (.cells #[.int .i64 p.col, .int .i64 p.row, .bool p.fc, .bool p.fr] 67) = W5 at U R V HB ⊢
                  clear hW
                  obtain ⟨r_0, r_1, r_2, r_3, r_4, r_5, r_6, r_7, r_8, r_9, r_10⟩ := cells11 (unhide R)
                  have fz_r_0 := cells_f (unhide R) 0
                  have fz_r_1 := cells_f (unhide R) 1
                  have fz_r_2 := cells_f (unhide R) 2
                  have fz_r_3 := cells_f (unhide R) 3
                  have fz_r_4 := cells_f (unhide R) 4
                  have fz_r_5 := cells_f (unhide R) 5
                  have fz_r_6 := cells_f (unhide R) 6
                  have fz_r_7 := cells_f (unhide R) 7
                  have fz_r_8 := cells_f (unhide R) 8
                  have fz_r_9 := cells_f (unhide R) 9
                  have fz_r_10 := cells_f (unhide R) 10
                  go_wp2
                  refine bodyPost_ret (results_c1t rfl _ _ _ _ _ _ rfl (cells_set11 (unhide R) _ _ _ _ _ _ _ _ _ _ _) Tryz.underlying69 rfl (by exact infoRF) _ rfl) rfl ?_
                  exact ⟨by rw [unhide HV]; rfl, below_set11 (unhide HB) (Nat.le_refl _) _ _ _ _ _ _ _ _ _ _ _⟩
                · rw [h1] at HA FO
                  rw [unhide HR1 h1] at HA
                  clear HR1 h1
                  generalize ref1V A = p at HA FX
                  have H1 := hide (fun w => cell_ref p.col p.row w)
                  unfold Rf.cells at HA
                  cases h2 : ref1B D
                  · rw [h2] at HD FO
                    have HV : Hid (fullP l = (zeroF, 4)) := hide (by unfold fullP; rw [unhide FO]; rfl)
                    clear HR2 h2
                    generalize formV D = q at HD
                    unfold Rf.cells at HD
                    generalize cellG p.col p.row = g1 at H1
                    go_wp2_with fail
                    refine (unhide F58 _).mono ?_
                    rintro e wz ⟨rfl, rfl⟩
                    go_wp2_with fail
                    refine (unhide HA _).mono ?_
                    rintro e wz ⟨rfl, bz⟩
                    replace R := hide (cells_nx (unhide R) bz)
                    replace V := hide (cells_nx (unhide V) bz)
                    replace HB := hide (below_nx (unhide HB) bz)
                    clear bz
                    have hlU : w.heap.size + 1 < wz.heap.size := cells_lt (unhide V)
                    go_upto_region 27 with fail
                    have U := hide (cells_new wz 67 #[.int .i64 p.col, .int .i64 p.row, .bool p.fc, .bool p.fr])
                    replace R := hide (cells_al (unhide R) (.cells #[.int .i64 p.col, .int .i64 p.row, .bool p.fc, .bool p.fr] 67))
                    replace V := hide (cells_al (unhide V) (.cells #[.int .i64 p.col, .int .i64 p.row, .bool p.fc, .bool p.fr] 67))
                    replace HB := hide ((unhide HB).alloc (unhide HB).size (.cells #[.int .i64 p.col, .int .i64 p.row, .bool p.fc, .bool p.fr] 67))
                    generalize hW : wz.alloc (.cells #[.int .i64 p.col, .int .i64 p.row, .bool p.fc, .bool p.fr] 67) = W5 at U R V HB ⊢
                    clear hW
                    obtain ⟨u_0, u_1, u_2, u_3⟩ := cells4 (unhide U)
                    go_wp2_with fail
                    refine (unhide H1 _).mono ?_
                    rintro e wz ⟨rfl, rfl⟩
                    clear u_0 u_1 u_2 u_3
                    go_wp2_with fail
                    refine (unhide HD _).mono ?_
                    rintro e wz ⟨rfl, bz⟩
                    replace R := hide (cells_nx (unhide R) bz)
                    replace V := hide (cells_nx (unhide V) bz)
                    replace U := hide (cells_nx (unhide U) bz)
                    replace HB := hide (below_nx (unhide HB) bz)
                    clear bz
                    have hlX : _ < wz.heap.size := cells_lt (unhide U)
                    go_upto_region 36 with fail
                    have X := hide (cells_new wz 67 #[.int .i64 q.col, .int .i64 q.row, .bool q.fc, .bool q.fr])
                    replace R := hide (cells_al (unhide R) (.cells #[.int .i64 q.col, .int .i64 q.row, .bool q.fc, .bool q.fr] 67))
                    replace V := hide (cells_al (unhide V) (.cells #[.int .i64 q.col, .int .i64 q.row, .bool q.fc, .bool q.fr] 67))
                    replace U := hide (cells_al (unhide U) (.cells #[.int .i64 q.col, .int .i64 q.row, .bool q.fc, .bool q.fr] 67))
                    replace HB := hide ((unhide HB).alloc (unhide HB).size (.cells #[.int .i64 q.col, .int .i64 q.row, .bool q.fc, .bool q.fr] 67))
                    generalize hW : wz.alloc (.cells #[.int .i64 q.col, .int .i64 q.row, .bool q.fc, .bool q.fr] 67) = W6 at X R V U HB ⊢
                    clear hW
                    obtain ⟨r_0, r_1, r_2, r_3, r_4, r_5, r_6, r_7, r_8, r_9, r_10⟩ := cells11 (unhide R)
                    have fz_r_0 := cells_f (unhide R) 0
                    have fz_r_1 := cells_f (unhide R) 1
                    have fz_r_2 := cells_f (unhide R) 2
                    have fz_r_3 := cells_f (unhide R) 3
                    have fz_r_4 := cells_f (unhide R) 4
                    have fz_r_5 := cells_f (unhide R) 5
                    have fz_r_6 := cells_f (unhide R) 6
                    have fz_r_7 := cells_f (unhide R) 7
                    have fz_r_8 := cells_f (unhide R) 8
                    have fz_r_9 := cells_f (unhide R) 9
                    have fz_r_10 := cells_f (unhide R) 10
                    go_wp2
                    refine bodyPost_ret (results_c1t rfl _ _ _ _ _ _ rfl (cells_set11 (unhide R) _ _ _ _ _ _ _ _ _ _ _) Tryz.underlying69 rfl (by exact infoRF) _ rfl) rfl ?_
                    exact ⟨by rw [unhide HV]; rfl, below_set11 (unhide HB) (Nat.le_refl _) _ _ _ _ _ _ _ _ _ _ _⟩
                  · rw [h2] at HD FO
                    rw [unhide HR2 h2] at HD
                    clear HR2 h2
                    rw [if_pos trivial] at FX
                    have FP : Hid (fullP l = if (cellG p.col p.row && cellG (ref1V D).col (ref1V D).row) = true then (if areaG (cornA p (ref1V D)).col (cornA p (ref1V D)).row (cornB p (ref1V D)).col (cornB p (ref1V D)).row = true then (⟨b, sh, cornA p (ref1V D), cornB p (ref1V D), true⟩, 0) else (zeroF, 7)) else (zeroF, 3)) := hide (by
                      unfold fullP
                      rw [unhide FO, unhide FX]
                      show (if (cellG p.col p.row && cellG (ref1V D).col (ref1V D).row) = true then (if goodF (⟨b, sh, cornA p (ref1V D), cornB p (ref1V D), true⟩ : Fl) = true then ((⟨b, sh, cornA p (ref1V D), cornB p (ref1V D), true⟩ : Fl), (0 : Int)) else (zeroF, 7)) else (zeroF, 3)) = _
                      rw [unhide FG]
                      rfl)
                    generalize ref1V D = q at HD FP
                    clear FX FO FG
                    have H2 := hide (fun w => cell_ref q.col q.row w)
                    unfold Rf.cells at HD
                    cases g1 : cellG p.col p.row
                    · rw [g1] at H1 FP
                      have HV : Hid (fullP l = (zeroF, 3)) := hide (by rw [unhide FP]; rfl)
                      clear g1
                      generalize cellG q.col q.row = g2 at H2
                      go_wp2_with fail
                      refine (unhide F58 _).mono ?_
                      rintro e wz ⟨rfl, rfl⟩
                      go_wp2_with fail
                      refine (unhide HA _).mono ?_
                      rintro e wz ⟨rfl, bz⟩
                      replace R := hide (cells_nx (unhide R) bz)
                      replace V := hide (cells_nx (unhide V) bz)
                      replace HB := hide (below_nx (unhide HB) bz)
                      clear bz
                      have hlU : w.heap.size + 1 < wz.heap.size := cells_lt (unhide V)
                      go_upto_region 27 with fail
                      have U := hide (cells_new wz 67 #[.int .i64 p.col, .int .i64 p.row, .bool p.fc, .bool p.fr])
                      replace R := hide (cells_al (unhide R) (.cells #[.int .i64 p.col, .int .i64 p.row, .bool p.fc, .bool p.fr] 67))
                      replace V := hide (cells_al (unhide V) (.cells #[.int .i64 p.col, .int .i64 p.row, .bool p.fc, .bool p.fr] 67))
                      replace HB := hide ((unhide HB).alloc (unhide HB).size (.cells #[.int .i64 p.col, .int .i64 p.row, .bool p.fc, .bool p.fr] 67))
                      generalize hW : wz.alloc (.cells #[.int .i64 p.col, .int .i64 p.row, .bool p.fc, .bool p.fr] 67) = W5 at U R V HB ⊢
                      clear hW
                      obtain ⟨u_0, u_1, u_2, u_3⟩ := cells4 (unhide U)
                      go_wp2_with fail
                      refine (unhide H1 _).mono ?_
                      rintro e wz ⟨rfl, rfl⟩
                      clear u_0 u_1 u_2 u_3
                      go_wp2_with fail
                      refine (unhide HD _).mono ?_
                      rintro e wz ⟨rfl, bz⟩
                      replace R := hide (cells_nx (unhide R) bz)
                      replace V := hide (cells_nx (unhide V) bz)
                      replace U := hide (cells_nx (unhide U) bz)
                      replace HB := hide (below_nx (unhide HB) bz)
                      clear bz
                      have hlX : _ < wz.heap.size := cells_lt (unhide U)
                      go_upto_region 36 with fail
                      have X := hide (cells_new wz 67 #[.int .i64 q.col, .int .i64 q.row, .bool q.fc, .bool q.fr])
                      replace R := hide (cells_al (unhide R) (.cells #[.int .i64 q.col, .int .i64 q.row, .bool q.fc, .bool q.fr] 67))
                      replace V := hide (cells_al (unhide V) (.cells #[.int .i64 q.col, .int .i64 q.row, .bool q.fc, .bool q.fr] 67))
                      replace U := hide (cells_al (unhide U) (.cells #[.int .i64 q.col, .int .i64 q.row, .bool q.fc, .bool q.fr] 67))
                      replace HB := hide ((unhide HB).alloc (unhide HB).size (.cells #[.int .i64 q.col, .int .i64 q.row, .bool q.fc, .bool q.fr] 67))
                      generalize hW : wz.alloc (.cells #[.int .i64 q.col, .int .i64 q.row, .bool q.fc, .bool q.fr] 67) = W6 at X R V U HB ⊢
                      clear hW
                      obtain ⟨x_0, x_1, x_2, x_3⟩ := cells4 (unhide X)
                      go_wp2_with fail
                      refine (unhide H2 _).mono ?_
                      rintro e wz ⟨rfl, rfl⟩
                      clear x_0 x_1 x_2 x_3
                      obtain ⟨r_0, r_1, r_2, r_3, r_4, r_5, r_6, r_7, r_8, r_9, r_10⟩ := cells11 (unhide R)
                      have fz_r_0 := cells_f (unhide R) 0
                      have fz_r_1 := cells_f (unhide R) 1
                      have fz_r_2 := cells_f (unhide R) 2
                      have fz_r_3 := cells_f (unhide R) 3
                      have fz_r_4 := cells_f (unhide R) 4
                      have fz_r_5 := cells_f (unhide R) 5
                      have fz_r_6 := cells_f (unhide R) 6
                      have fz_r_7 := cells_f (unhide R) 7
                      have fz_r_8 := cells_f (unhide R) 8
                      have fz_r_9 := cells_f (unhide R) 9
                      have fz_r_10 := cells_f (unhide R) 10
                      go_wp2
                      refine bodyPost_ret (results_c1t rfl _ _ _ _ _ _ rfl (cells_set11 (unhide R) _ _ _ _ _ _ _ _ _ _ _) Tryz.underlying69 rfl (by exact infoRF) _ rfl) rfl ?_
                      exact ⟨by rw [unhide HV]; rfl, below_set11 (unhide HB) (Nat.le_refl _) _ _ _ _ _ _ _ _ _ _ _⟩
                    · rw [g1] at H1 FP
                      cases g2 : cellG q.col q.row
                      · rw [g2] at H2 FP
                        have HV : Hid (fullP l = (zeroF, 3)) := hide (by rw [unhide FP]; rfl)
                        clear g1 g2
                        go_wp2_with fail
                        refine (unhide F58 _).mono ?_
                        rintro e wz ⟨rfl, rfl⟩
                        go_wp2_with fail
                        refine (unhide HA _).mono ?_
                        rintro e wz ⟨rfl, bz⟩
                        replace R := hide (cells_nx (unhide R) bz)
                        replace V := hide (cells_nx (unhide V) bz)
                        replace HB := hide (below_nx (unhide HB) bz)
                        clear bz
                        have hlU : w.heap.size + 1 < wz.heap.size := cells_lt (unhide V)
                        go_upto_region 27 with fail
                        have U := hide (cells_new wz 67 #[.int .i64 p.col, .int .i64 p.row, .bool p.fc, .bool p.fr])
                        replace R := hide (cells_al (unhide R) (.cells #[.int .i64 p.col, .int .i64 p.row, .bool p.fc, .bool p.fr] 67))
                        replace V := hide (cells_al (unhide V) (.cells #[.int .i64 p.col, .int .i64 p.row, .bool p.fc, .bool p.fr] 67))
                        replace HB := hide ((unhide HB).alloc (unhide HB).size (.cells #[.int .i64 p.col, .int .i64 p.row, .bool p.fc, .bool p.fr] 67))
                        generalize hW : wz.alloc (.cells #[.int .i64 p.col, .int .i64 p.row, .bool p.fc, .bool p.fr] 67) = W5 at U R V HB ⊢
                        clear hW
                        obtain ⟨u_0, u_1, u_2, u_3⟩ := cells4 (unhide U)
                        go_wp2_with fail
                        refine (unhide H1 _).mono ?_
                        rintro e wz ⟨rfl, rfl⟩
                        clear u_0 u_1 u_2 u_3
                        go_wp2_with fail
                        refine (unhide HD _).mono ?_
                        rintro e wz ⟨rfl, bz⟩
                        replace R := hide (cells_nx (unhide R) bz)
                        replace V := hide (cells_nx (unhide V) bz)
                        replace U := hide (cells_nx (unhide U) bz)
                        replace HB := hide (below_nx (unhide HB) bz)
                        clear bz
                        have hlX : _ < wz.heap.size := cells_lt (unhide U)
                        go_upto_region 36 with fail
                        have X := hide (cells_new wz 67 #[.int .i64 q.col, .int .i64 q.row, .bool q.fc, .bool q.fr])
                        replace R := hide (cells_al (unhide R) (.cells #[.int .i64 q.col, .int .i64 q.row, .bool q.fc, .bool q.fr] 67))
                        replace V := hide (cells_al (unhide V) (.cells #[.int .i64 q.col, .int .i64 q.row, .bool q.fc, .bool q.fr] 67))
                        replace U := hide (cells_al (unhide U) (.cells #[.int .i64 q.col, .int .i64 q.row, .bool q.fc, .bool q.fr] 67))
                        replace HB := hide ((unhide HB).alloc (unhide HB).size (.cells #[.int .i64 q.col, .int .i64 q.row, .bool q.fc, .bool q.fr] 67))
                        generalize hW : wz.alloc (.cells #[.int .i64 q.col, .int .i64 q.row, .bool q.fc, .bool q.fr] 67) = W6 at X R V U HB ⊢
                        clear hW
                        obtain ⟨x_0, x_1, x_2, x_3⟩ := cells4 (unhide X)
                        go_wp2_with fail
                        refine (unhide H2 _).mono ?_
                        rintro e wz ⟨rfl, rfl⟩
                        clear x_0 x_1 x_2 x_3
                        obtain ⟨r_0, r_1, r_2, r_3, r_4, r_5, r_6, r_7, r_8, r_9, r_10⟩ := cells11 (unhide R)
                        have fz_r_0 := cells_f (unhide R) 0
                        have fz_r_1 := cells_f (unhide R) 1
                        have fz_r_2 := cells_f (unhide R) 2
                        have fz_r_3 := cells_f (unhide R) 3
                        have fz_r_4 := cells_f (unhide R) 4
                        have fz_r_5 := cells_f (unhide R) 5
                        have fz_r_6 := cells_f (unhide R) 6
                        have fz_r_7 := cells_f (unhide R) 7
                        have fz_r_8 := cells_f (unhide R) 8
                        have fz_r_9 := cells_f (unhide R) 9
                        have fz_r_10 := cells_f (unhide R) 10
                        go_wp2
                        refine bodyPost_ret (results_c1t rfl _ _ _ _ _ _ rfl (cells_set11 (unhide R) _ _ _ _ _ _ _ _ _ _ _) Tryz.underlying69 rfl (by exact infoRF) _ rfl) rfl ?_
                        exact ⟨by rw [unhide HV]; rfl, below_set11 (unhide HB) (Nat.le_refl _) _ _ _ _ _ _ _ _ _ _ _⟩
                      · rw [g2] at H2 FP
                        rw [Bool.and_true, if_pos rfl] at FP
                        clear g1 g2
                        go_wp2_with fail
                        refine (unhide F58 _).mono ?_
                        rintro e wz ⟨rfl, rfl⟩
                        go_wp2_with fail
                        refine (unhide HA _).mono ?_
                        rintro e wz ⟨rfl, bz⟩
                        replace R := hide (cells_nx (unhide R) bz)
                        replace V := hide (cells_nx (unhide V) bz)
                        replace HB := hide (below_nx (unhide HB) bz)
                        clear bz
                        have hlU : w.heap.size + 1 < wz.heap.size := cells_lt (unhide V)
                        go_upto_region 27 with fail
                        have U := hide (cells_new wz 67 #[.int .i64 p.col, .int .i64 p.row, .bool p.fc, .bool p.fr])
                        replace R := hide (cells_al (unhide R) (.cells #[.int .i64 p.col, .int .i64 p.row, .bool p.fc, .bool p.fr] 67))
                        replace V := hide (cells_al (unhide V) (.cells #[.int .i64 p.col, .int .i64 p.row, .bool p.fc, .bool p.fr] 67))
                        replace HB := hide ((unhide HB).alloc (unhide HB).size (.cells #[.int .i64 p.col, .int .i64 p.row, .bool p.fc, .bool p.fr] 67))
                        generalize hW : wz.alloc (.cells #[.int .i64 p.col, .int .i64 p.row, .bool p.fc, .bool p.fr] 67) = W5 at U R V HB ⊢
                        clear hW
                        obtain ⟨u_0, u_1, u_2, u_3⟩ := cells4 (unhide U)
                        go_wp2_with fail
                        refine (unhide H1 _).mono ?_
                        rintro e wz ⟨rfl, rfl⟩
                        clear u_0 u_1 u_2 u_3
                        go_wp2_with fail
                        refine (unhide HD _).mono ?_
                        rintro e wz ⟨rfl, bz⟩
                        replace R := hide (cells_nx (unhide R) bz)
                        replace V := hide (cells_nx (unhide V) bz)
                        replace U := hide (cells_nx (unhide U) bz)
                        replace HB := hide (below_nx (unhide HB) bz)
                        clear bz
                        have hlX : _ < wz.heap.size := cells_lt (unhide U)
                        go_upto_region 36 with fail
                        have X := hide (cells_new wz 67 #[.int .i64 q.col, .int .i64 q.row, .bool q.fc, .bool q.fr])
                        replace R := hide (cells_al (unhide R) (.cells #[.int .i64 q.col, .int .i64 q.row, .bool q.fc, .bool q.fr] 67))
                        replace V := hide (cells_al (unhide V) (.cells #[.int .i64 q.col, .int .i64 q.row, .bool q.fc, .bool q.fr] 67))
                        replace U := hide (cells_al (unhide U) (.cells #[.int .i64 q.col, .int .i64 q.row, .bool q.fc, .bool q.fr] 67))
                        replace HB := hide ((unhide HB).alloc (unhide HB).size (.cells #[.int .i64 q.col, .int .i64 q.row, .bool q.fc, .bool q.fr] 67))
                        generalize hW : wz.alloc (.cells #[.int .i64 q.col, .int .i64 q.row, .bool q.fc, .bool q.fr] 67) = W6 at X R V U HB ⊢
                        clear hW
                        obtain ⟨x_0, x_1, x_2, x_3⟩ := cells4 (unhide X)
                        go_wp2_with fail
                        refine (unhide H2 _).mono ?_
                        rintro e wz ⟨rfl, rfl⟩
                        clear x_0 x_1 x_2 x_3
                        obtain ⟨v_0, v_1, v_2, v_3, v_4, v_5, v_6, v_7, v_8, v_9, v_10⟩ := cells11 (unhide V)
                        obtain ⟨u_0, u_1, u_2, u_3⟩ := cells4 (unhide U)
                        obtain ⟨x_0, x_1, x_2, x_3⟩ := cells4 (unhide X)
                        have fz_v_2 := cells_f (unhide V) 2
                        have fz_v_3 := cells_f (unhide V) 3
                        have fz_v_4 := cells_f (unhide V) 4
                        have fz_v_5 := cells_f (unhide V) 5
                        have fz_v_6 := cells_f (unhide V) 6
                        have fz_v_7 := cells_f (unhide V) 7
                        have fz_v_8 := cells_f (unhide V) 8
                        have fz_v_9 := cells_f (unhide V) 9
                        have fz_v_10 := cells_f (unhide V) 10
                        go_upto_region 44 with fail
                        clear v_0 v_1 v_2 v_3 v_4 v_5 v_6 v_7 v_8 v_9 v_10 u_0 u_1 u_2 u_3 x_0 x_1 x_2 x_3
                        clear fz_v_2 fz_v_3 fz_v_4 fz_v_5 fz_v_6 fz_v_7 fz_v_8 fz_v_9 fz_v_10
                        replace V := hide (stB_c (unhide V) (.bool true) (.int .i64 p.col) (.int .i64 p.row) (.bool p.fc) (.bool p.fr) (.int .i64 q.col) (.int .i64 q.row) (.bool q.fc) (.bool q.fr))
                        replace R := hide (stB_f (B := w.heap.size + 1) (unhide R) (by omega) (.bool true) (.int .i64 p.col) (.int .i64 p.row) (.bool p.fc) (.bool p.fr) (.int .i64 q.col) (.int .i64 q.row) (.bool q.fc) (.bool q.fr))
                        replace U := hide (stB_f (B := w.heap.size + 1) (unhide U) (by omega) (.bool true) (.int .i64 p.col) (.int .i64 p.row) (.bool p.fc) (.bool p.fr) (.int .i64 q.col) (.int .i64 q.row) (.bool q.fc) (.bool q.fr))
                        replace X := hide (stB_f (B := w.heap.size + 1) (unhide X) (by omega) (.bool true) (.int .i64 p.col) (.int .i64 p.row) (.bool p.fc) (.bool p.fr) (.int .i64 q.col) (.int .i64 q.row) (.bool q.fc) (.bool q.fr))
                        replace HB := hide (stB_b (B := w.heap.size + 1) (unhide HB) (by omega) (.bool true) (.int .i64 p.col) (.int .i64 p.row) (.bool p.fc) (.bool p.fr) (.int .i64 q.col) (.int .i64 q.row) (.bool q.fc) (.bool q.fr))
                        generalize hW : ((((((((wz.setCell ⟨w.heap.size + 1, 10, none⟩ (.bool true)).setCell ⟨w.heap.size + 1, 2, none⟩ (.int .i64 p.col)).setCell ⟨w.heap.size + 1, 3, none⟩ (.int .i64 p.row)).setCell ⟨w.heap.size + 1, 4, none⟩ (.bool p.fc)).setCell ⟨w.heap.size + 1, 5, none⟩ (.bool p.fr)).setCell ⟨w.heap.size + 1, 6, none⟩ (.int .i64 q.col)).setCell ⟨w.heap.size + 1, 7, none⟩ (.int .i64 q.row)).setCell ⟨w.heap.size + 1, 8, none⟩ (.bool q.fc)).setCell ⟨w.heap.size + 1, 9, none⟩ (.bool q.fr) = W7 at V R U X HB ⊢
                        clear hW
                        by_cases hc : q.col < p.col
                        · have HHC := hide hc
                          obtain ⟨v_0, v_1, v_2, v_3, v_4, v_5, v_6, v_7, v_8, v_9, v_10⟩ := cells11 (unhide V)
                          obtain ⟨u_0, u_1, u_2, u_3⟩ := cells4 (unhide U)
                          obtain ⟨x_0, x_1, x_2, x_3⟩ := cells4 (unhide X)
                          have fz_v_2 := cells_f (unhide V) 2
                          have fz_v_4 := cells_f (unhide V) 4
                          have fz_v_6 := cells_f (unhide V) 6
                          have fz_v_8 := cells_f (unhide V) 8
                          go_upto_region 49 with fail
                          clear v_0 v_1 v_2 v_3 v_4 v_5 v_6 v_7 v_8 v_9 v_10 u_0 u_1 u_2 u_3 x_0 x_1 x_2 x_3
                          clear fz_v_2 fz_v_4 fz_v_6 fz_v_8
                          replace V := hide (stC_c (unhide V) (.int .i64 q.col) (.bool q.fc) (.int .i64 p.col) (.bool p.fc))
                          replace R := hide (stC_f (B := w.heap.size + 1) (unhide R) (by omega) (.int .i64 q.col) (.bool q.fc) (.int .i64 p.col) (.bool p.fc))
                          replace U := hide (stC_f (B := w.heap.size + 1) (unhide U) (by omega) (.int .i64 q.col) (.bool q.fc) (.int .i64 p.col) (.bool p.fc))
                          replace X := hide (stC_f (B := w.heap.size + 1) (unhide X) (by omega) (.int .i64 q.col) (.bool q.fc) (.int .i64 p.col) (.bool p.fc))
                          replace HB := hide (stC_b (B := w.heap.size + 1) (unhide HB) (by omega) (.int .i64 q.col) (.bool q.fc) (.int .i64 p.col) (.bool p.fc))
                          generalize hW : (((W7.setCell ⟨w.heap.size + 1, 2, none⟩ (.int .i64 q.col)).setCell ⟨w.heap.size + 1, 4, none⟩ (.bool q.fc)).setCell ⟨w.heap.size + 1, 6, none⟩ (.int .i64 p.col)).setCell ⟨w.heap.size + 1, 8, none⟩ (.bool p.fc) = W8 at V R U X HB ⊢
                          clear hW
                          clear hc
                          by_cases hd : q.row < p.row
                          · have HHD := hide hd
                            obtain ⟨v_0, v_1, v_2, v_3, v_4, v_5, v_6, v_7, v_8, v_9, v_10⟩ := cells11 (unhide V)
                            obtain ⟨u_0, u_1, u_2, u_3⟩ := cells4 (unhide U)
                            obtain ⟨x_0, x_1, x_2, x_3⟩ := cells4 (unhide X)
                            have fz_v_3 := cells_f (unhide V) 3
                            have fz_v_5 := cells_f (unhide V) 5
                            have fz_v_7 := cells_f (unhide V) 7
                            have fz_v_9 := cells_f (unhide V) 9
                            go_upto_region 54 with fail
                            clear v_0 v_1 v_2 v_3 v_4 v_5 v_6 v_7 v_8 v_9 v_10 u_0 u_1 u_2 u_3 x_0 x_1 x_2 x_3
                            clear fz_v_3 fz_v_5 fz_v_7 fz_v_9
                            replace V := hide (stD_c (unhide V) (.int .i64 q.row) (.bool q.fr) (.int .i64 p.row) (.bool p.fr))
                            replace R := hide (stD_f (B := w.heap.size + 1) (unhide R) (by omega) (.int .i64 q.row) (.bool q.fr) (.int .i64 p.row) (.bool p.fr))
                            replace U := hide (stD_f (B := w.heap.size + 1) (unhide U) (by omega) (.int .i64 q.row) (.bool q.fr) (.int .i64 p.row) (.bool p.fr))
                            replace X := hide (stD_f (B := w.heap.size + 1) (unhide X) (by omega) (.int .i64 q.row) (.bool q.fr) (.int .i64 p.row) (.bool p.fr))
                            replace HB := hide (stD_b (B := w.heap.size + 1) (unhide HB) (by omega) (.int .i64 q.row) (.bool q.fr) (.int .i64 p.row) (.bool p.fr))
                            generalize hW : (((W8.setCell ⟨w.heap.size + 1, 3, none⟩ (.int .i64 q.row)).setCell ⟨w.heap.size + 1, 5, none⟩ (.bool q.fr)).setCell ⟨w.heap.size + 1, 7, none⟩ (.int .i64 p.row)).setCell ⟨w.heap.size + 1, 9, none⟩ (.bool p.fr) = W9 at V R U X HB ⊢
                            clear hW
                            clear hd
                            have FP2 : Hid (fullP l = if areaG q.col q.row p.col p.row = true then (⟨b, sh, ⟨q.col, q.row, q.fc, q.fr⟩, ⟨p.col, p.row, p.fc, p.fr⟩, true⟩, 0) else (zeroF, 7)) := hide (by
                              have ea : cornA p q = ⟨q.col, q.row, q.fc, q.fr⟩ := by unfold cornA; simp only [if_pos (unhide HHC), if_pos (unhide HHD)]
                              have eb : cornB p q = ⟨p.col, p.row, p.fc, p.fr⟩ := by unfold cornB; simp only [if_pos (unhide HHC), if_pos (unhide HHD)]
                              rw [unhide FP, ea, eb])
                            clear FP
                            have HAR := hide (fun w => area_ref (⟨q.col, q.row, q.fc, q.fr⟩ : Rf) (⟨p.col, p.row, p.fc, p.fr⟩ : Rf) w)
                            unfold Rf.cells at HAR
                            simp only [] at HAR
                            generalize areaN q.col q.row p.col p.row = nn at HAR
                            obtain ⟨v_0, v_1, v_2, v_3, v_4, v_5, v_6, v_7, v_8, v_9, v_10⟩ := cells11 (unhide V)
                            go_wp2_with fail
                            refine (unhide HAR _).mono ?_
                            rintro e wz ⟨rfl, bz⟩
                            replace R := hide (cells_nx (unhide R) bz)
                            replace V := hide (cells_nx (unhide V) bz)
                            replace U := hide (cells_nx (unhide U) bz)
                            replace X := hide (cells_nx (unhide X) bz)
                            replace HB := hide (below_nx (unhide HB) bz)
                            clear bz
                            clear v_0 v_1 v_2 v_3 v_4 v_5 v_6 v_7 v_8 v_9 v_10
                            cases ga : areaG q.col q.row p.col p.row
                            · rw [ga] at FP2
                              clear ga
                              have HV : Hid (fullP l = (zeroF, 7)) := hide (by rw [unhide FP2]; rfl)
                              obtain ⟨r_0, r_1, r_2, r_3, r_4, r_5, r_6, r_7, r_8, r_9, r_10⟩ := cells11 (unhide R)
                              have fz_r_0 := cells_f (unhide R) 0
                              have fz_r_1 := cells_f (unhide R) 1
                              have fz_r_2 := cells_f (unhide R) 2
                              have fz_r_3 := cells_f (unhide R) 3
                              have fz_r_4 := cells_f (unhide R) 4
                              have fz_r_5 := cells_f (unhide R) 5
                              have fz_r_6 := cells_f (unhide R) 6
                              have fz_r_7 := cells_f (unhide R) 7
                              have fz_r_8 := cells_f (unhide R) 8
                              have fz_r_9 := cells_f (unhide R) 9
                              have fz_r_10 := cells_f (unhide R) 10
                              go_wp2
                              refine bodyPost_ret (results_c1t rfl _ _ _ _ _ _ rfl (cells_set11 (unhide R) _ _ _ _ _ _ _ _ _ _ _) Tryz.underlying69 rfl (by exact infoRF) _ rfl) rfl ?_
                              exact ⟨by rw [unhide HV]; rfl, below_set11 (unhide HB) (Nat.le_refl _) _ _ _ _ _ _ _ _ _ _ _⟩
                            · rw [ga] at FP2
                              clear ga
                              have HV : Hid (fullP l = (⟨b, sh, ⟨q.col, q.row, q.fc, q.fr⟩, ⟨p.col, p.row, p.fc, p.fr⟩, true⟩, 0)) := hide (by rw [unhide FP2]; rfl)
                              obtain ⟨v_0, v_1, v_2, v_3, v_4, v_5, v_6, v_7, v_8, v_9, v_10⟩ := cells11 (unhide V)
                              obtain ⟨r_0, r_1, r_2, r_3, r_4, r_5, r_6, r_7, r_8, r_9, r_10⟩ := cells11 (unhide R)
                              have fz_r_0 := cells_f (unhide R) 0
                              have fz_r_1 := cells_f (unhide R) 1
                              have fz_r_2 := cells_f (unhide R) 2
                              have fz_r_3 := cells_f (unhide R) 3
                              have fz_r_4 := cells_f (unhide R) 4
                              have fz_r_5 := cells_f (unhide R) 5
                              have fz_r_6 := cells_f (unhide R) 6
                              have fz_r_7 := cells_f (unhide R) 7
                              have fz_r_8 := cells_f (unhide R) 8
                              have fz_r_9 := cells_f (unhide R) 9
                              have fz_r_10 := cells_f (unhide R) 10
                              go_wp2
                              refine bodyPost_ret (results_c1t rfl _ _ _ _ _ _ rfl (cells_set11 (unhide R) _ _ _ _ _ _ _ _ _ _ _) Tryz.underlying69 rfl (by exact infoRF) _ rfl) rfl ?_
                              exact ⟨by rw [unhide HV]; rfl, below_set11 (unhide HB) (Nat.le_refl _) _ _ _ _ _ _ _ _ _ _ _⟩
                          · have HHD := hide hd
                            replace hd : p.row ≤ q.row := by omega
                            obtain ⟨v_0, v_1, v_2, v_3, v_4, v_5, v_6, v_7, v_8, v_9, v_10⟩ := cells11 (unhide V)
                            obtain ⟨u_0, u_1, u_2, u_3⟩ := cells4 (unhide U)
                            obtain ⟨x_0, x_1, x_2, x_3⟩ := cells4 (unhide X)
                            have fz_v_3 := cells_f (unhide V) 3
                            have fz_v_5 := cells_f (unhide V) 5
                            have fz_v_7 := cells_f (unhide V) 7
                            have fz_v_9 := cells_f (unhide V) 9
                            go_upto_region 54 with fail
                            clear v_0 v_1 v_2 v_3 v_4 v_5 v_6 v_7 v_8 v_9 v_10 u_0 u_1 u_2 u_3 x_0 x_1 x_2 x_3
                            clear fz_v_3 fz_v_5 fz_v_7 fz_v_9
                            clear hd
                            have FP2 : Hid (fullP l = if areaG q.col p.row p.col q.row = true then (⟨b, sh, ⟨q.col, p.row, q.fc, p.fr⟩, ⟨p.col, q.row, p.fc, q.fr⟩, true⟩, 0) else (zeroF, 7)) := hide (by
                              have ea : cornA p q = ⟨q.col, p.row, q.fc, p.fr⟩ := by unfold cornA; simp only [if_pos (unhide HHC), if_neg (unhide HHD)]
                              have eb : cornB p q = ⟨p.col, q.row, p.fc, q.fr⟩ := by unfold cornB; simp only [if_pos (unhide HHC), if_neg (unhide HHD)]
                              rw [unhide FP, ea, eb])
                            clear FP
                            have HAR := hide (fun w => area_ref (⟨q.col, p.row, q.fc, p.fr⟩ : Rf) (⟨p.col, q.row, p.fc, q.fr⟩ : Rf) w)
                            unfold Rf.cells at HAR
                            simp only [] at HAR
                            generalize areaN q.col p.row p.col q.row = nn at HAR
                            obtain ⟨v_0, v_1, v_2, v_3, v_4, v_5, v_6, v_7, v_8, v_9, v_10⟩ := cells11 (unhide V)
                            go_wp2_with fail
                            refine (unhide HAR _).mono ?_
                            rintro e wz ⟨rfl, bz⟩
                            replace R := hide (cells_nx (unhide R) bz)
                            replace V := hide (cells_nx (unhide V) bz)
                            replace U := hide (cells_nx (unhide U) bz)
                            replace X := hide (cells_nx (unhide X) bz)
                            replace HB := hide (below_nx (unhide HB) bz)
                            clear bz
                            clear v_0 v_1 v_2 v_3 v_4 v_5 v_6 v_7 v_8 v_9 v_10
                            cases ga : areaG q.col p.row p.col q.row
                            · rw [ga] at FP2
                              clear ga
                              have HV : Hid (fullP l = (zeroF, 7)) := hide (by rw [unhide FP2]; rfl)
                              obtain ⟨r_0, r_1, r_2, r_3, r_4, r_5, r_6, r_7, r_8, r_9, r_10⟩ := cells11 (unhide R)
                              have fz_r_0 := cells_f (unhide R) 0
                              have fz_r_1 := cells_f (unhide R) 1
                              have fz_r_2 := cells_f (unhide R) 2
                              have fz_r_3 := cells_f (unhide R) 3
                              have fz_r_4 := cells_f (unhide R) 4
                              have fz_r_5 := cells_f (unhide R) 5
                              have fz_r_6 := cells_f (unhide R) 6
                              have fz_r_7 := cells_f (unhide R) 7
                              have fz_r_8 := cells_f (unhide R) 8
                              have fz_r_9 := cells_f (unhide R) 9
                              have fz_r_10 := cells_f (unhide R) 10
                              go_wp2
                              refine bodyPost_ret (results_c1t rfl _ _ _ _ _ _ rfl (cells_set11 (unhide R) _ _ _ _ _ _ _ _ _ _ _) Tryz.underlying69 rfl (by exact infoRF) _ rfl) rfl ?_
                              exact ⟨by rw [unhide HV]; rfl, below_set11 (unhide HB) (Nat.le_refl _) _ _ _ _ _ _ _ _ _ _ _⟩
                            · rw [ga] at FP2
                              clear ga
                              have HV : Hid (fullP l = (⟨b, sh, ⟨q.col, p.row, q.fc, p.fr⟩, ⟨p.col, q.row, p.fc, q.fr⟩, true⟩, 0)) := hide (by rw [unhide FP2]; rfl)
                              obtain ⟨v_0, v_1, v_2, v_3, v_4, v_5, v_6, v_7, v_8, v_9, v_10⟩ := cells11 (unhide V)
                              obtain ⟨r_0, r_1, r_2, r_3, r_4, r_5, r_6, r_7, r_8, r_9, r_10⟩ := cells11 (unhide R)
                              have fz_r_0 := cells_f (unhide R) 0
                              have fz_r_1 := cells_f (unhide R) 1
                              have fz_r_2 := cells_f (unhide R) 2
                              have fz_r_3 := cells_f (unhide R) 3
                              have fz_r_4 := cells_f (unhide R) 4
                              have fz_r_5 := cells_f (unhide R) 5
                              have fz_r_6 := cells_f (unhide R) 6
                              have fz_r_7 := cells_f (unhide R) 7
                              have fz_r_8 := cells_f (unhide R) 8
                              have fz_r_9 := cells_f (unhide R) 9
                              have fz_r_10 := cells_f (unhide R) 10
                              go_wp2
                              refine bodyPost_ret (results_c1t rfl _ _ _ _ _ _ rfl (cells_set11 (unhide R) _ _ _ _ _ _ _ _ _ _ _) Tryz.underlying69 rfl (by exact infoRF) _ rfl) rfl ?_
                              exact ⟨by rw [unhide HV]; rfl, below_set11 (unhide HB) (Nat.le_refl _) _ _ _ _ _ _ _ _ _ _ _⟩
                        · have HHC := hide hc
                          replace hc : p.col ≤ q.col := by omega
                          obtain ⟨v_0, v_1, v_2, v_3, v_4, v_5, v_6, v_7, v_8, v_9, v_10⟩ := cells11 (unhide V)
                          obtain ⟨u_0, u_1, u_2, u_3⟩ := cells4 (unhide U)
                          obtain ⟨x_0, x_1, x_2, x_3⟩ := cells4 (unhide X)
                          have fz_v_2 := cells_f (unhide V) 2
                          have fz_v_4 := cells_f (unhide V) 4
                          have fz_v_6 := cells_f (unhide V) 6
                          have fz_v_8 := cells_f (unhide V) 8
                          go_upto_region 49 with fail
                          clear v_0 v_1 v_2 v_3 v_4 v_5 v_6 v_7 v_8 v_9 v_10 u_0 u_1 u_2 u_3 x_0 x_1 x_2 x_3
                          clear fz_v_2 fz_v_4 fz_v_6 fz_v_8
                          clear hc
                          by_cases hd : q.row < p.row
                          · have HHD := hide hd
                            obtain ⟨v_0, v_1, v_2, v_3, v_4, v_5, v_6, v_7, v_8, v_9, v_10⟩ := cells11 (unhide V)
                            obtain ⟨u_0, u_1, u_2, u_3⟩ := cells4 (unhide U)
                            obtain ⟨x_0, x_1, x_2, x_3⟩ := cells4 (unhide X)
                            have fz_v_3 := cells_f (unhide V) 3
                            have fz_v_5 := cells_f (unhide V) 5
                            have fz_v_7 := cells_f (unhide V) 7
                            have fz_v_9 := cells_f (unhide V) 9
                            go_upto_region 54 with fail
                            clear v_0 v_1 v_2 v_3 v_4 v_5 v_6 v_7 v_8 v_9 v_10 u_0 u_1 u_2 u_3 x_0 x_1 x_2 x_3
                            clear fz_v_3 fz_v_5 fz_v_7 fz_v_9
                            replace V := hide (stD_c (unhide V) (.int .i64 q.row) (.bool q.fr) (.int .i64 p.row) (.bool p.fr))
                            replace R := hide (stD_f (B := w.heap.size + 1) (unhide R) (by omega) (.int .i64 q.row) (.bool q.fr) (.int .i64 p.row) (.bool p.fr))
                            replace U := hide (stD_f (B := w.heap.size + 1) (unhide U) (by omega) (.int .i64 q.row) (.bool q.fr) (.int .i64 p.row) (.bool p.fr))
                            replace X := hide (stD_f (B := w.heap.size + 1) (unhide X) (by omega) (.int .i64 q.row) (.bool q.fr) (.int .i64 p.row) (.bool p.fr))
                            replace HB := hide (stD_b (B := w.heap.size + 1) (unhide HB) (by omega) (.int .i64 q.row) (.bool q.fr) (.int .i64 p.row) (.bool p.fr))
                            generalize hW : (((W7.setCell ⟨w.heap.size + 1, 3, none⟩ (.int .i64 q.row)).setCell ⟨w.heap.size + 1, 5, none⟩ (.bool q.fr)).setCell ⟨w.heap.size + 1, 7, none⟩ (.int .i64 p.row)).setCell ⟨w.heap.size + 1, 9, none⟩ (.bool p.fr) = W9 at V R U X HB ⊢
                            clear hW
                            clear hd
                            have FP2 : Hid (fullP l = if areaG p.col q.row q.col p.row = true then (⟨b, sh, ⟨p.col, q.row, p.fc, q.fr⟩, ⟨q.col, p.row, q.fc, p.fr⟩, true⟩, 0) else (zeroF, 7)) := hide (by
                              have ea : cornA p q = ⟨p.col, q.row, p.fc, q.fr⟩ := by unfold cornA; simp only [if_neg (unhide HHC), if_pos (unhide HHD)]
                              have eb : cornB p q = ⟨q.col, p.row, q.fc, p.fr⟩ := by unfold cornB; simp only [if_neg (unhide HHC), if_pos (unhide HHD)]
                              rw [unhide FP, ea, eb])
                            clear FP
                            have HAR := hide (fun w => area_ref (⟨p.col, q.row, p.fc, q.fr⟩ : Rf) (⟨q.col, p.row, q.fc, p.fr⟩ : Rf) w)
                            unfold Rf.cells at HAR
                            simp only [] at HAR
                            generalize areaN p.col q.row q.col p.row = nn at HAR
                            obtain ⟨v_0, v_1, v_2, v_3, v_4, v_5, v_6, v_7, v_8, v_9, v_10⟩ := cells11 (unhide V)
                            go_wp2_with fail
                            refine (unhide HAR _).mono ?_
                            rintro e wz ⟨rfl, bz⟩
                            replace R := hide (cells_nx (unhide R) bz)
                            replace V := hide (cells_nx (unhide V) bz)
                            replace U := hide (cells_nx (unhide U) bz)
                            replace X := hide (cells_nx (unhide X) bz)
                            replace HB := hide (below_nx (unhide HB) bz)
                            clear bz
                            clear v_0 v_1 v_2 v_3 v_4 v_5 v_6 v_7 v_8 v_9 v_10
                            cases ga : areaG p.col q.row q.col p.row
                            · rw [ga] at FP2
                              clear ga
                              have HV : Hid (fullP l = (zeroF, 7)) := hide (by rw [unhide FP2]; rfl)
                              obtain ⟨r_0, r_1, r_2, r_3, r_4, r_5, r_6, r_7, r_8, r_9, r_10⟩ := cells11 (unhide R)
                              have fz_r_0 := cells_f (unhide R) 0
                              have fz_r_1 := cells_f (unhide R) 1
                              have fz_r_2 := cells_f (unhide R) 2
                              have fz_r_3 := cells_f (unhide R) 3
                              have fz_r_4 := cells_f (unhide R) 4
                              have fz_r_5 := cells_f (unhide R) 5
                              have fz_r_6 := cells_f (unhide R) 6
                              have fz_r_7 := cells_f (unhide R) 7
                              have fz_r_8 := cells_f (unhide R) 8
                              have fz_r_9 := cells_f (unhide R) 9
                              have fz_r_10 := cells_f (unhide R) 10
                              go_wp2
                              refine bodyPost_ret (results_c1t rfl _ _ _ _ _ _ rfl (cells_set11 (unhide R) _ _ _ _ _ _ _ _ _ _ _) Tryz.underlying69 rfl (by exact infoRF) _ rfl) rfl ?_
                              exact ⟨by rw [unhide HV]; rfl, below_set11 (unhide HB) (Nat.le_refl _) _ _ _ _ _ _ _ _ _ _ _⟩
                            · rw [ga] at FP2
                              clear ga
                              have HV : Hid (fullP l = (⟨b, sh, ⟨p.col, q.row, p.fc, q.fr⟩, ⟨q.col, p.row, q.fc, p.fr⟩, true⟩, 0)) := hide (by rw [unhide FP2]; rfl)
                              obtain ⟨v_0, v_1, v_2, v_3, v_4, v_5, v_6, v_7, v_8, v_9, v_10⟩ := cells11 (unhide V)
                              obtain ⟨r_0, r_1, r_2, r_3, r_4, r_5, r_6, r_7, r_8, r_9, r_10⟩ := cells11 (unhide R)
                              have fz_r_0 := cells_f (unhide R) 0
                              have fz_r_1 := cells_f (unhide R) 1
                              have fz_r_2 := cells_f (unhide R) 2
                              have fz_r_3 := cells_f (unhide R) 3
                              have fz_r_4 := cells_f (unhide R) 4
                              have fz_r_5 := cells_f (unhide R) 5
                              have fz_r_6 := cells_f (unhide R) 6
                              have fz_r_7 := cells_f (unhide R) 7
                              have fz_r_8 := cells_f (unhide R) 8
                              have fz_r_9 := cells_f (unhide R) 9
                              have fz_r_10 := cells_f (unhide R) 10
                              go_wp2
                              refine bodyPost_ret (results_c1t rfl _ _ _ _ _ _ rfl (cells_set11 (unhide R) _ _ _ _ _ _ _ _ _ _ _) Tryz.underlying69 rfl (by exact infoRF) _ rfl) rfl ?_
                              exact ⟨by rw [unhide HV]; rfl, below_set11 (unhide HB) (Nat.le_refl _) _ _ _ _ _ _ _ _ _ _ _⟩
                          · have HHD := hide hd
                            replace hd : p.row ≤ q.row := by omega
                            obtain ⟨v_0, v_1, v_2, v_3, v_4, v_5, v_6, v_7, v_8, v_9, v_10⟩ := cells11 (unhide V)
                            obtain ⟨u_0, u_1, u_2, u_3⟩ := cells4 (unhide U)
                            obtain ⟨x_0, x_1, x_2, x_3⟩ := cells4 (unhide X)
                            have fz_v_3 := cells_f (unhide V) 3
                            have fz_v_5 := cells_f (unhide V) 5
                            have fz_v_7 := cells_f (unhide V) 7
                            have fz_v_9 := cells_f (unhide V) 9
                            go_upto_region 54 with fail
                            clear v_0 v_1 v_2 v_3 v_4 v_5 v_6 v_7 v_8 v_9 v_10 u_0 u_1 u_2 u_3 x_0 x_1 x_2 x_3
                            clear fz_v_3 fz_v_5 fz_v_7 fz_v_9
                            clear hd
                            have FP2 : Hid (fullP l = if areaG p.col p.row q.col q.row = true then (⟨b, sh, ⟨p.col, p.row, p.fc, p.fr⟩, ⟨q.col, q.row, q.fc, q.fr⟩, true⟩, 0) else (zeroF, 7)) := hide (by
                              have ea : cornA p q = ⟨p.col, p.row, p.fc, p.fr⟩ := by unfold cornA; simp only [if_neg (unhide HHC), if_neg (unhide HHD)]
                              have eb : cornB p q = ⟨q.col, q.row, q.fc, q.fr⟩ := by unfold cornB; simp only [if_neg (unhide HHC), if_neg (unhide HHD)]
                              rw [unhide FP, ea, eb])
                            clear FP
                            have HAR := hide (fun w => area_ref (⟨p.col, p.row, p.fc, p.fr⟩ : Rf) (⟨q.col, q.row, q.fc, q.fr⟩ : Rf) w)
                            unfold Rf.cells at HAR
                            simp only [] at HAR
                            generalize areaN p.col p.row q.col q.row = nn at HAR
                            obtain ⟨v_0, v_1, v_2, v_3, v_4, v_5, v_6, v_7, v_8, v_9, v_10⟩ := cells11 (unhide V)
                            go_wp2_with fail
                            refine (unhide HAR _).mono ?_
                            rintro e wz ⟨rfl, bz⟩
                            replace R := hide (cells_nx (unhide R) bz)
                            replace V := hide (cells_nx (unhide V) bz)
                            replace U := hide (cells_nx (unhide U) bz)
                            replace X := hide (cells_nx (unhide X) bz)
                            replace HB := hide (below_nx (unhide HB) bz)
                            clear bz
                            clear v_0 v_1 v_2 v_3 v_4 v_5 v_6 v_7 v_8 v_9 v_10
                            cases ga : areaG p.col p.row q.col q.row
                            · rw [ga] at FP2
                              clear ga
                              have HV : Hid (fullP l = (zeroF, 7)) := hide (by rw [unhide FP2]; rfl)
                              obtain ⟨r_0, r_1, r_2, r_3, r_4, r_5, r_6, r_7, r_8, r_9, r_10⟩ := cells11 (unhide R)
                              have fz_r_0 := cells_f (unhide R) 0
                              have fz_r_1 := cells_f (unhide R) 1
                              have fz_r_2 := cells_f (unhide R) 2
                              have fz_r_3 := cells_f (unhide R) 3
                              have fz_r_4 := cells_f (unhide R) 4
                              have fz_r_5 := cells_f (unhide R) 5
                              have fz_r_6 := cells_f (unhide R) 6
                              have fz_r_7 := cells_f (unhide R) 7
                              have fz_r_8 := cells_f (unhide R) 8
                              have fz_r_9 := cells_f (unhide R) 9
                              have fz_r_10 := cells_f (unhide R) 10
                              go_wp2
                              refine bodyPost_ret (results_c1t rfl _ _ _ _ _ _ rfl (cells_set11 (unhide R) _ _ _ _ _ _ _ _ _ _ _) Tryz.underlying69 rfl (by exact infoRF) _ rfl) rfl ?_
                              exact ⟨by rw [unhide HV]; rfl, below_set11 (unhide HB) (Nat.le_refl _) _ _ _ _ _ _ _ _ _ _ _⟩
                            · rw [ga] at FP2
                              clear ga
                              have HV : Hid (fullP l = (⟨b, sh, ⟨p.col, p.row, p.fc, p.fr⟩, ⟨q.col, q.row, q.fc, q.fr⟩, true⟩, 0)) := hide (by rw [unhide FP2]; rfl)
                              obtain ⟨v_0, v_1, v_2, v_3, v_4, v_5, v_6, v_7, v_8, v_9, v_10⟩ := cells11 (unhide V)
                              obtain ⟨r_0, r_1, r_2, r_3, r_4, r_5, r_6, r_7, r_8, r_9, r_10⟩ := cells11 (unhide R)
                              have fz_r_0 := cells_f (unhide R) 0
                              have fz_r_1 := cells_f (unhide R) 1
                              have fz_r_2 := cells_f (unhide R) 2
                              have fz_r_3 := cells_f (unhide R) 3
                              have fz_r_4 := cells_f (unhide R) 4
                              have fz_r_5 := cells_f (unhide R) 5
                              have fz_r_6 := cells_f (unhide R) 6
                              have fz_r_7 := cells_f (unhide R) 7
                              have fz_r_8 := cells_f (unhide R) 8
                              have fz_r_9 := cells_f (unhide R) 9
                              have fz_r_10 := cells_f (unhide R) 10
                              go_wp2
                              refine bodyPost_ret (results_c1t rfl _ _ _ _ _ _ rfl (cells_set11 (unhide R) _ _ _ _ _ _ _ _ _ _ _) Tryz.underlying69 rfl (by exact infoRF) _ rfl) rfl ?_
                              exact ⟨by rw [unhide HV]; rfl, below_set11 (unhide HB) (Nat.le_refl _) _ _ _ _ _ _ _ _ _ _ _⟩
end Go.Proofs.YtloamahbghjjgaaGreatDoor
