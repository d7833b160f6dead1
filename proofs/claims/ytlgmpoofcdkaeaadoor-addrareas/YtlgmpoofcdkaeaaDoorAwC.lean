/- The contract of (addr.Area).Cells: nil of what is no good area; else its cells, row by row. -/
import Derived.Test.YtlgmpoofcdkaeaaDoorAdJ
import Derived.Deep.AppendLies
namespace Go.Proofs.YtlgmpoofcdkaeaaDoor
open Go.RowKit

/-- The first n cells of rows of W cells that begin at column a, row b. -/
def cellsK (a b : Int) (W : Nat) : Nat → List Value
  | 0 => []
  | n + 1 => cellsK a b W n ++ [.int .i64 (a + ((n % W : Nat) : Int)), .int .i64 (b + ((n / W : Nat) : Int))]
theorem cellsK_len (a b : Int) (W n : Nat) : (cellsK a b W n).length = n * 2 := by
  induction n with
  | zero => rfl
  | succ n ih => rw [cellsK, List.length_append, ih]; simp; omega
theorem cellsK_step (a b : Int) (W r j : Nat) (h : j < W) : cellsK a b W (r * W + j) ++ [.int .i64 (a + (j : Int)), .int .i64 (b + (r : Int))] = cellsK a b W (r * W + j + 1) := by
  have e1 : (r * W + j) % W = j := by rw [Nat.mul_comm, Nat.mul_add_mod]; exact Nat.mod_eq_of_lt h
  have e2 : (r * W + j) / W = r := by rw [Nat.mul_comm, Nat.mul_add_div (by omega), Nat.div_eq_of_lt h]; rfl
  rw [cellsK, e1, e2]
theorem cellsK_at (a b : Int) (W n i : Nat) (h : i < n) : (cellsK a b W n)[i * 2]? = some (.int .i64 (a + ((i % W : Nat) : Int))) ∧ (cellsK a b W n)[i * 2 + 1]? = some (.int .i64 (b + ((i / W : Nat) : Int))) := by
  induction n with
  | zero => omega
  | succ n ih =>
    rw [cellsK]
    rcases Nat.lt_or_ge i n with h1 | h1
    · rw [List.getElem?_append_left (by rw [cellsK_len]; omega), List.getElem?_append_left (by rw [cellsK_len]; omega)]
      exact ih h1
    · have e : i = n := by omega
      subst e
      rw [List.getElem?_append_right (by rw [cellsK_len]; omega), List.getElem?_append_right (by rw [cellsK_len]; omega), cellsK_len]
      have e1 : i * 2 - i * 2 = 0 := by omega
      have e2 : i * 2 + 1 - i * 2 = 1 := by omega
      rw [e1, e2]
      exact ⟨rfl, rfl⟩
theorem infoK : (Tryd.prog.info? 27).map (fun i => (i.zero, i.size, i.bytes)) = some (some (.agg #[.int .i64 0, .int .i64 0]), 2, 16) := by kernel_rfl
theorem owns_row {w : World} {base B n : Nat} {t : TypeId} {xs : List Value} (h : w.ownsRow base t 2 (.slice (some ⟨B, 0, none⟩) n n) n xs) : CellsAt w B t xs.toArray := by
  rcases h.2 with ⟨h1, _⟩ | ⟨g, cap, cur, h1, _, h3, _, _, h6, h7⟩
  · cases h1
  · cases h1
    have e : cur = xs.toArray := by
      rw [← h7, List.take_of_length_le (by rw [Array.length_toList]; omega)]
    rw [e] at h3
    exact h3
/-- Cells of a row that is kept whole, behind an append onto another row. -/
theorem cells_grown {w w' : World} {B g : Nat} {t : TypeId} {cs : Array Value} (h : CellsAt w B t cs) (hg : w.grownBy w' (some g)) (hne : B ≠ g) : CellsAt w' B t cs := by
  unfold CellsAt at h ⊢
  rw [← h]
  exact hg.block B (cells_lt h) (fun e => hne (Option.some.inj e))

set_option maxRecDepth 100000 in
set_option maxHeartbeats 2000000 in
theorem cells_bad (a b c d : Int) (w : World) (g : areaG a b c d = false) :
    Calls Tryd.prog 23 #[.agg #[.int .i64 a, .int .i64 b, .int .i64 c, .int .i64 d]] w fun e w' => e = .returned (.slice none 0 0) ∧ Below w.heap.size w w' := by
  have HG := hide (fun w => areaGood_val a b c d w)
  rw [g] at HG
  clear g
  go_enter Tryd.func23, Tryd.ntmps23
  go_upto_region 1 with fail
  have P := hide (cells_new w 48 #[.int .i64 a, .int .i64 b, .int .i64 c, .int .i64 d])
  have HB : Hid (Below w.heap.size w (w.alloc (.cells #[.int .i64 a, .int .i64 b, .int .i64 c, .int .i64 d] 48))) := hide (below_al _ _)
  generalize hW : w.alloc (.cells #[.int .i64 a, .int .i64 b, .int .i64 c, .int .i64 d] 48) = W0 at P HB ⊢
  clear hW
  obtain ⟨p_0, p_1, p_2, p_3⟩ := cells4 (unhide P)
  go_wp2_with fail
  refine (unhide HG _).mono ?_
  rintro e wk1 ⟨rfl, bk1⟩
  replace P := hide (cells_nx (unhide P) bk1)
  replace HB := hide (below_nx (unhide HB) bk1)
  clear bk1
  clear p_0 p_1 p_2 p_3
  go_wp2
  go_ret
  exact ⟨rfl, unhide HB⟩

set_option maxRecDepth 100000 in
set_option maxHeartbeats 2000000 in
theorem cells_good (a b c d : Int) (w : World) (g : areaG a b c d = true) :
    Calls Tryd.prog 23 #[.agg #[.int .i64 a, .int .i64 b, .int .i64 c, .int .i64 d]] w fun e w' => ∃ B N : Nat, e = .returned (.slice (some ⟨B, 0, none⟩) N N) ∧ (N : Int) = areaC a b c d ∧ N ≤ 4096 ∧ CellsAt w' B 27 (cellsK a b (c - a + 1).toNat N).toArray ∧ Below w.heap.size w w' := by
  have HG := hide (fun w => areaGood_val a b c d w)
  rw [g] at HG
  obtain ⟨g1, g2, g3, g4, g5⟩ := (areaG_iff _ _ _ _).1 g
  have HC := hide (fun w => count_val a b c d w g1 g2 g3 g4)
  rw [cellG_iff] at g1 g2
  obtain ⟨W, hW⟩ : ∃ W : Nat, c - a + 1 = (W : Int) := ⟨(c - a + 1).toNat, by omega⟩
  obtain ⟨H, hH⟩ : ∃ H : Nat, d - b + 1 = (H : Int) := ⟨(d - b + 1).toNat, by omega⟩
  obtain ⟨N, hN⟩ : ∃ N : Nat, H * W = N := ⟨_, rfl⟩
  have eN : areaC a b c d = (N : Int) := by
    unfold areaC
    rw [hW, hH, ← hN]
    exact (Int.natCast_mul _ _).symm.trans (by rw [Nat.mul_comm])
  have eW : (c - a + 1).toNat = W := by omega
  rw [eN] at HC g5 ⊢
  rw [eW]
  have hN4 : N ≤ 4096 := by omega
  have ec : c = a + (W : Int) - 1 := by omega
  have ed : d = b + (H : Int) - 1 := by omega
  have HN := hide hN
  have hW6 : W ≤ 64 := by omega
  have hH6 : H ≤ 1024 := by omega
  have ha : 0 ≤ a ∧ a < 64 := by omega
  have hb : 0 ≤ b ∧ b < 1024 := by omega
  clear hW hH eN eW g g3 g4 g5 hN g1 g2
  subst ec ed
  obtain ⟨i0, hi, hz0, hz1, hz2⟩ := info_parts infoK
  go_enter Tryd.func23, Tryd.ntmps23
  go_upto_region 1 with fail
  have P := hide (cells_new w 48 #[.int .i64 a, .int .i64 b, .int .i64 (a + (W : Int) - 1), .int .i64 (b + (H : Int) - 1)])
  have HB : Hid (Below w.heap.size w (w.alloc (.cells #[.int .i64 a, .int .i64 b, .int .i64 (a + (W : Int) - 1), .int .i64 (b + (H : Int) - 1)] 48))) := hide (below_al _ _)
  generalize hW : w.alloc (.cells #[.int .i64 a, .int .i64 b, .int .i64 (a + (W : Int) - 1), .int .i64 (b + (H : Int) - 1)] 48) = W0 at P HB ⊢
  clear hW
  obtain ⟨p_0, p_1, p_2, p_3⟩ := cells4 (unhide P)
  go_wp2_with fail
  refine (unhide HG _).mono ?_
  rintro e wk1 ⟨rfl, bk1⟩
  replace P := hide (cells_nx (unhide P) bk1)
  replace HB := hide (below_nx (unhide HB) bk1)
  clear bk1
  clear p_0 p_1 p_2 p_3
  obtain ⟨p_0, p_1, p_2, p_3⟩ := cells4 (unhide P)
  go_wp2_with fail
  refine (unhide HC _).mono ?_
  rintro e wk2 ⟨rfl, bk2⟩
  replace P := hide (cells_nx (unhide P) bk2)
  replace HB := hide (below_nx (unhide HB) bk2)
  clear bk2
  clear p_0 p_1 p_2 p_3
  go_wp2_with (at_make; refine wpList_make_own _ rfl _ _ 50 rfl w.heap.size 27 i0 (.agg #[.int .i64 0, .int .i64 0]) 2 Tryd.underlying50 hi hz0 hz1 _ _ _ N rfl rfl rfl (by rw [hz2]; omega) (by unfold maxLen; omega) (unhide HB).size ?_)
  intro w0 hown0 hgrow0
  have bl0 : Below wk2.heap.size wk2 w0 := (Below.refl _ _).grown hgrow0 (Nat.le_refl _) (fun k h => by cases h)
  have pB := cells_lt (unhide P)
  replace P := hide (cells_nx (unhide P) bl0)
  replace HB := hide (below_nx (unhide HB) bl0)
  have HO := hide hown0
  have hbl := (unhide HB).size
  have hB0 : w.heap.size ≤ wk2.heap.size := by omega
  generalize wk2.heap.size = B at pB HO hB0 ⊢
  clear bl0 hown0 hgrow0 hbl
  go_upto_region 4 with fail
  obtain ⟨p_0, p_1, p_2, p_3⟩ := cells4 (unhide P)
  go_wp2
  clear p_0 p_1 p_2 p_3
  go_loopw [3, 4] (fun v t wr => ∃ r : Nat, v = .slice (some ⟨B, 0, none⟩) (r * W) N ∧ t = .int .i64 (b + (r : Int)) ∧ r ≤ H ∧ Hid (wr.ownsRow w.heap.size 27 2 (.slice (some ⟨B, 0, none⟩) (r * W) N) (r * W) (cellsK a b W (r * W))) ∧ Hid (CellsAt wr w.heap.size 48 #[.int .i64 a, .int .i64 b, .int .i64 (a + (W : Int) - 1), .int .i64 (b + (H : Int) - 1)]) ∧ Hid (Below w.heap.size w wr)) (fun _ t _ => (b + (H : Int) - intOf t).toNat)
  case atStart => exact ⟨0, by rw [Nat.zero_mul], by simp, Nat.zero_le _, hide (by rw [Nat.zero_mul]; exact unhide HO), P, HB⟩
  case round =>
    clear HO HB P
    obtain ⟨r, rfl, rfl, hr, HO, P, HB⟩ := hrel
    obtain ⟨p_0, p_1, p_2, p_3⟩ := cells4 (unhide P)
    by_cases hrl : r < H
    · have hq : b + (r : Int) ≤ b + (H : Int) - 1 := by omega
      have hrN : r * W + W ≤ N := by
        have := unhide HN
        have h2 : (r + 1) * W ≤ H * W := Nat.mul_le_mul_right _ hrl
        rw [Nat.add_mul, Nat.one_mul] at h2
        omega
      have HRN := hide hrN
      clear hrN
      go_wp2
      clear p_0 p_1 p_2 p_3
      go_loopw [3, 5] (fun v t wr => ∃ j : Nat, v = .slice (some ⟨B, 0, none⟩) (r * W + j) N ∧ t = .int .i64 (a + (j : Int)) ∧ j ≤ W ∧ Hid (wr.ownsRow w.heap.size 27 2 (.slice (some ⟨B, 0, none⟩) (r * W + j) N) (r * W + j) (cellsK a b W (r * W + j))) ∧ Hid (CellsAt wr w.heap.size 48 #[.int .i64 a, .int .i64 b, .int .i64 (a + (W : Int) - 1), .int .i64 (b + (H : Int) - 1)]) ∧ Hid (Below w.heap.size w wr)) (fun _ t _ => (a + (W : Int) - intOf t).toNat)
      case atStart => exact ⟨0, rfl, by simp, Nat.zero_le _, HO, P, HB⟩
      case round =>
        clear HO HB P
        obtain ⟨j, rfl, rfl, hj, HO, P, HB⟩ := hrel
        obtain ⟨p_0, p_1, p_2, p_3⟩ := cells4 (unhide P)
        by_cases hjl : j < W
        · have hq2 : a + (j : Int) ≤ a + (W : Int) - 1 := by omega
          go_wp2_with (at_builtin; refine wpList_append_fits _ rfl _ _ 50 rfl w.heap.size 27 i0 2 Tryd.underlying50 hi hz1 B (r * W + j) N _ rfl ((unhide HO).alloc _) ⟨wr.heap.size, 0, none⟩ 1 1 [.int .i64 (a + (j : Int)), .int .i64 (b + (r : Int))] rfl rfl (World.news_of_block (heap_alloc_new _ _)) ?c2 ?c3 ?_)
          case c2 => intro u hu; simp at hu; rcases hu with rfl | rfl <;> rfl
          case c3 => have := unhide HRN; omega
          intro w1 hown1 hgrow1
          have nB : w.heap.size ≠ B := by omega
          have P' := hide (cells_grown (cells_al (unhide P) _) hgrow1 nB)
          have HB' := hide (((unhide HB).alloc (unhide HB).size _).grown hgrow1 (by have := (unhide HB).size; simp; omega) (fun k hk => by cases hk; exact hB0))
          have HO' := hide hown1
          rw [cellsK_step a b W r j hjl] at HO'
          clear p_0 p_1 p_2 p_3 hown1 hgrow1 HO P HB
          go_wp2
          go_roundw
          case rel => exact ⟨j + 1, rfl, by go_num, by omega, HO', P', HB'⟩
          case measure => simp [intOf]; omega
        · have hq2 : ¬ a + (j : Int) ≤ a + (W : Int) - 1 := by omega
          have ej : j = W := by omega
          subst ej
          have e : r * j + j = (r + 1) * j := by rw [Nat.add_mul, Nat.one_mul]
          rw [e] at HO
          go_wp2
          go_roundw
          case rel => exact ⟨r + 1, by rw [e], by go_num, by omega, HO, P, HB⟩
          case measure => simp [intOf]; omega
    · have hq : ¬ b + (r : Int) ≤ b + (H : Int) - 1 := by omega
      have er : r = H := by omega
      subst er
      have e := unhide HN
      rw [e] at HO ⊢
      go_wp2
      go_ret
      exact ⟨B, N, rfl, rfl, hN4, owns_row (unhide HO), unhide HB⟩
end Go.Proofs.YtlgmpoofcdkaeaaDoor
