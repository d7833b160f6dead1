/- The walk of AddrAreas. -/
import Derived.Test.YtlgmpoofcdkaeaaDoorAwC
import Derived.Test.YtlgmpoofcdkaeaaDoorAwB
import Derived.Test.YtlgmpoofcdkaeaaDoorAdN
namespace Go.Proofs.YtlgmpoofcdkaeaaDoor
open Go.RowKit

theorem hasG_iff4 (a b c d x y : Int) (g : areaG a b c d = true) : hasG a b c d x y = true ↔ a ≤ x ∧ x ≤ c ∧ b ≤ y ∧ y ≤ d := by
  unfold hasG; rw [g]; simp
theorem cellsK_cell {w : World} {B W N : Nat} {a b : Int} {t : TypeId} (h : CellsAt w B t (cellsK a b W N).toArray) (r j M : Nat) (hj : j < W) (hM : r * W = M) (hN : M + j < N) :
    w.cell? ⟨B, (M + j) * 2, none⟩ = some (.int .i64 (a + (j : Int))) ∧ w.cell? ⟨B, (M + j) * 2 + 1, none⟩ = some (.int .i64 (b + (r : Int))) := by
  subst hM
  have e1 : (r * W + j) % W = j := by rw [Nat.mul_comm, Nat.mul_add_mod]; exact Nat.mod_eq_of_lt hj
  have e2 : (r * W + j) / W = r := by rw [Nat.mul_comm, Nat.mul_add_div (by omega), Nat.div_eq_of_lt hj]; rfl
  obtain ⟨h1, h2⟩ := cellsK_at a b W N (r * W + j) hN
  rw [e1] at h1
  rw [e2] at h2
  exact ⟨cells_c h _ _ (by rw [List.getElem?_toArray]; exact h1), cells_c h _ _ (by rw [List.getElem?_toArray]; exact h2)⟩
theorem two_at {w : World} {B : Nat} {t : TypeId} {v0 v1 v2 v3 : Int} (h : CellsAt w B t #[.int .i64 v0, .int .i64 v1, .int .i64 v2, .int .i64 v3]) (k : Nat) (hk : k < 2) : ∃ u v : Int, w.cell? ⟨B, k * 2, none⟩ = some (.int .i64 u) ∧ w.cell? ⟨B, k * 2 + 1, none⟩ = some (.int .i64 v) := by
  match k, hk with
  | 0, _ => exact ⟨_, _, cells_c h 0 _ rfl, cells_c h 1 _ rfl⟩
  | 1, _ => exact ⟨_, _, cells_c h 2 _ rfl, cells_c h 3 _ rfl⟩

set_option maxRecDepth 100000 in
set_option maxHeartbeats 8000000 in
theorem areas_law (x : Fl) (c0 c1 : Int) (w : World) (hx : x.book.size ≤ maxLen ∧ x.sheet.size ≤ maxLen) (he : Env4 w) :
    Calls Tryd.prog 4 #[.agg x.lcells, .agg #[.int .i64 c0, .int .i64 c1]] w fun e w' => e = .returned (.bool true) ∧ Below w.heap.size w w' := by
  have HE := hide he
  clear he
  obtain ⟨xb, xs, ⟨a0, a1, f1, f2⟩, ⟨b0, b1, f3, f4⟩, xw⟩ := x
  have HFU := hide (fun w => fulls_law ⟨xb, xs, ⟨a0, a1, f1, f2⟩, ⟨b0, b1, f3, f4⟩, xw⟩ w hx.1 hx.2)
  clear hx
  unfold cutF Fl.cells at HFU
  unfold Fl.lcells at HFU ⊢
  dsimp only at HFU ⊢
  generalize cut20 xb = cb, cut20 xs = cs at HFU
  have HWK := hide wakes4_val
  have HA2 := hide (fun w => area_ref ⟨a0, a1, f1, f2⟩ ⟨b0, b1, f3, f4⟩ w)
  unfold Rf.cells at HA2
  dsimp only at HA2
  have HSZ := hide (fun w => size_val a0 a1 b0 b1 w)
  go_enter Tryd.func4, Tryd.ntmps4
  go_upto_region 1 with fail
  have P := hide (cells_al (cells_new w 25 #[.string xb, .string xs, .int .i64 a0, .int .i64 a1, .int .i64 b0, .int .i64 b1, .bool f1, .bool f2, .bool f3, .bool f4, .bool xw]) (.cells #[.int .i64 c0, .int .i64 c1] 22))
  have C := hide (cells_new2 w (.cells #[.string xb, .string xs, .int .i64 a0, .int .i64 a1, .int .i64 b0, .int .i64 b1, .bool f1, .bool f2, .bool f3, .bool f4, .bool xw] 25) 22 #[.int .i64 c0, .int .i64 c1])
  have HB : Hid (Below w.heap.size w ((w.alloc (.cells #[.string xb, .string xs, .int .i64 a0, .int .i64 a1, .int .i64 b0, .int .i64 b1, .bool f1, .bool f2, .bool f3, .bool f4, .bool xw] 25)).alloc (.cells #[.int .i64 c0, .int .i64 c1] 22))) := hide (below_al2 _ _ _)
  generalize hW : (w.alloc (.cells #[.string xb, .string xs, .int .i64 a0, .int .i64 a1, .int .i64 b0, .int .i64 b1, .bool f1, .bool f2, .bool f3, .bool f4, .bool xw] 25)).alloc (.cells #[.int .i64 c0, .int .i64 c1] 22) = W0 at P C HB ⊢
  clear hW
  obtain ⟨p_0, p_1, p_2, p_3, p_4, p_5, p_6, p_7, p_8, p_9, p_10⟩ := cells11 (unhide P)
  go_wp2_with fail
  refine (unhide HFU _).mono ?_
  rintro e wk1 ⟨rfl, bk1⟩
  replace P := hide (cells_nx (unhide P) bk1)
  replace C := hide (cells_nx (unhide C) bk1)
  replace HB := hide (below_nx (unhide HB) bk1)
  clear bk1
  clear p_0 p_1 p_2 p_3 p_4 p_5 p_6 p_7 p_8 p_9 p_10
  have hz_a := (unhide HB).size
  go_upto_region 2 with fail
  have A := hide (cells_al (cells_new wk1 31 #[.string cb, .string cs, .int .i64 a0, .int .i64 a1, .bool f1, .bool f2, .int .i64 b0, .int .i64 b1, .bool f3, .bool f4, .bool xw]) (.cells #[.string cb, .string cs, .int .i64 a0, .int .i64 a1, .bool f1, .bool f2, .int .i64 b0, .int .i64 b1, .bool f3, .bool f4, .bool xw] 35))
  have R := hide (cells_new2 wk1 (.cells #[.string cb, .string cs, .int .i64 a0, .int .i64 a1, .bool f1, .bool f2, .int .i64 b0, .int .i64 b1, .bool f3, .bool f4, .bool xw] 31) 35 #[.string cb, .string cs, .int .i64 a0, .int .i64 a1, .bool f1, .bool f2, .int .i64 b0, .int .i64 b1, .bool f3, .bool f4, .bool xw])
  replace P := hide (cells_al (cells_al (unhide P) (.cells #[.string cb, .string cs, .int .i64 a0, .int .i64 a1, .bool f1, .bool f2, .int .i64 b0, .int .i64 b1, .bool f3, .bool f4, .bool xw] 31)) (.cells #[.string cb, .string cs, .int .i64 a0, .int .i64 a1, .bool f1, .bool f2, .int .i64 b0, .int .i64 b1, .bool f3, .bool f4, .bool xw] 35))
  replace C := hide (cells_al (cells_al (unhide C) (.cells #[.string cb, .string cs, .int .i64 a0, .int .i64 a1, .bool f1, .bool f2, .int .i64 b0, .int .i64 b1, .bool f3, .bool f4, .bool xw] 31)) (.cells #[.string cb, .string cs, .int .i64 a0, .int .i64 a1, .bool f1, .bool f2, .int .i64 b0, .int .i64 b1, .bool f3, .bool f4, .bool xw] 35))
  replace HB := hide (((unhide HB).alloc (unhide HB).size (.cells #[.string cb, .string cs, .int .i64 a0, .int .i64 a1, .bool f1, .bool f2, .int .i64 b0, .int .i64 b1, .bool f3, .bool f4, .bool xw] 31)).alloc (by have := (unhide HB).size; simp; omega) (.cells #[.string cb, .string cs, .int .i64 a0, .int .i64 a1, .bool f1, .bool f2, .int .i64 b0, .int .i64 b1, .bool f3, .bool f4, .bool xw] 35))
  generalize hW : (wk1.alloc (.cells #[.string cb, .string cs, .int .i64 a0, .int .i64 a1, .bool f1, .bool f2, .int .i64 b0, .int .i64 b1, .bool f3, .bool f4, .bool xw] 31)).alloc (.cells #[.string cb, .string cs, .int .i64 a0, .int .i64 a1, .bool f1, .bool f2, .int .i64 b0, .int .i64 b1, .bool f3, .bool f4, .bool xw] 35) = WF1 at A R P C HB ⊢
  clear hW
  obtain ⟨a_0, a_1, a_2, a_3, a_4, a_5, a_6, a_7, a_8, a_9, a_10⟩ := cells11 (unhide A)
  go_upto_region 3 with fail
  clear a_0 a_1 a_2 a_3 a_4 a_5 a_6 a_7 a_8 a_9 a_10
  have E := hide (cells_new WF1 48 #[.int .i64 a0, .int .i64 a1, .int .i64 b0, .int .i64 b1])
  replace P := hide (cells_al (unhide P) (.cells #[.int .i64 a0, .int .i64 a1, .int .i64 b0, .int .i64 b1] 48))
  replace C := hide (cells_al (unhide C) (.cells #[.int .i64 a0, .int .i64 a1, .int .i64 b0, .int .i64 b1] 48))
  replace A := hide (cells_al (unhide A) (.cells #[.int .i64 a0, .int .i64 a1, .int .i64 b0, .int .i64 b1] 48))
  replace R := hide (cells_al (unhide R) (.cells #[.int .i64 a0, .int .i64 a1, .int .i64 b0, .int .i64 b1] 48))
  replace HB := hide ((unhide HB).alloc (unhide HB).size (.cells #[.int .i64 a0, .int .i64 a1, .int .i64 b0, .int .i64 b1] 48))
  generalize hW : WF1.alloc (.cells #[.int .i64 a0, .int .i64 a1, .int .i64 b0, .int .i64 b1] 48) = WE at E P C A R HB ⊢
  clear hW
  obtain ⟨r_0, r_1, r_2, r_3, r_4, r_5, r_6, r_7, r_8, r_9, r_10⟩ := cells11 (unhide R)
  go_wp2_with fail
  refine (unhide HA2 _).mono ?_
  rintro e wk2 ⟨rfl, bk2⟩
  replace P := hide (cells_nx (unhide P) bk2)
  replace C := hide (cells_nx (unhide C) bk2)
  replace A := hide (cells_nx (unhide A) bk2)
  replace R := hide (cells_nx (unhide R) bk2)
  replace E := hide (cells_nx (unhide E) bk2)
  replace HB := hide (below_nx (unhide HB) bk2)
  clear bk2
  clear r_0 r_1 r_2 r_3 r_4 r_5 r_6 r_7 r_8 r_9 r_10
  clear HFU HA2 A R hz_a
  go_upto_region 4 with fail
  cases ga : areaG a0 a1 b0 b1
  · have HCL := hide (fun w => cells_bad a0 a1 b0 b1 w ga)
    have eN : areaN a0 a1 b0 b1 = 0 := by unfold areaN; rw [ga]; rfl
    rw [eN] at HSZ ⊢
    have HH := hide (fun u v w => has_val a0 a1 b0 b1 u v w)
    have hf : ∀ u v, hasG a0 a1 b0 b1 u v = false := fun u v => by unfold hasG; rw [ga]; rfl
    simp only [hf] at HH
    clear hf eN ga
    obtain ⟨e_0, e_1, e_2, e_3⟩ := cells4 (unhide E)
    go_wp2_with fail
    refine (unhide HCL _).mono ?_
    rintro e wk3 ⟨rfl, bk3⟩
    replace P := hide (cells_nx (unhide P) bk3)
    replace C := hide (cells_nx (unhide C) bk3)
    replace E := hide (cells_nx (unhide E) bk3)
    replace HB := hide (below_nx (unhide HB) bk3)
    clear bk3
    clear e_0 e_1 e_2 e_3
    clear HCL
    go_upto_region 5 with fail
    go_wp2_with fail
    refine (unhide HWK _ ((unhide HE).below (unhide HB))).mono ?_
    rintro e wk4 ⟨rfl, bk4⟩
    replace P := hide (cells_nx (unhide P) bk4)
    replace C := hide (cells_nx (unhide C) bk4)
    replace E := hide (cells_nx (unhide E) bk4)
    replace HB := hide (below_nx (unhide HB) bk4)
    clear bk4
    obtain ⟨e_0, e_1, e_2, e_3⟩ := cells4 (unhide E)
    go_wp2_with fail
    refine (unhide HSZ _).mono ?_
    rintro e wk5 ⟨rfl, bk5⟩
    replace P := hide (cells_nx (unhide P) bk5)
    replace C := hide (cells_nx (unhide C) bk5)
    replace E := hide (cells_nx (unhide E) bk5)
    replace HB := hide (below_nx (unhide HB) bk5)
    clear bk5
    clear e_0 e_1 e_2 e_3
    clear HWK HSZ HE
    go_upto_region 7 with fail
    obtain ⟨c_0, c_1⟩ := cells2 (unhide C)
    go_wp2_with fail
    clear c_0 c_1
    obtain ⟨c2, e2⟩ : ∃ c2 : Int, bits .and .i64 c0 63 = c2 := ⟨_, rfl⟩
    obtain ⟨c3, e3⟩ : ∃ c3 : Int, bits .and .i64 c1 1023 = c3 := ⟨_, rfl⟩
    rw [e2, e3]
    clear e2 e3
    have Q := hide (cells_new wk5 22 #[.int .i64 c0, .int .i64 c1, .int .i64 c2, .int .i64 c3])
    replace P := hide (cells_al (unhide P) (.cells #[.int .i64 c0, .int .i64 c1, .int .i64 c2, .int .i64 c3] 22))
    replace C := hide (cells_al (unhide C) (.cells #[.int .i64 c0, .int .i64 c1, .int .i64 c2, .int .i64 c3] 22))
    replace E := hide (cells_al (unhide E) (.cells #[.int .i64 c0, .int .i64 c1, .int .i64 c2, .int .i64 c3] 22))
    replace HB := hide ((unhide HB).alloc (unhide HB).size (.cells #[.int .i64 c0, .int .i64 c1, .int .i64 c2, .int .i64 c3] 22))
    generalize hW : wk5.alloc (.cells #[.int .i64 c0, .int .i64 c1, .int .i64 c2, .int .i64 c3] 22) = WQ at Q P C E HB ⊢
    clear hW
    clear C
    go_loopw [63] (fun t wr => ∃ k : Nat, t = .int .i64 (k : Int) ∧ k ≤ 2 ∧ Hid (CellsAt wr (w.heap.size) 25 #[.string xb, .string xs, .int .i64 a0, .int .i64 a1, .int .i64 b0, .int .i64 b1, .bool f1, .bool f2, .bool f3, .bool f4, .bool xw]) ∧ Hid (CellsAt wr (WF1.heap.size) 48 #[.int .i64 a0, .int .i64 a1, .int .i64 b0, .int .i64 b1]) ∧ Hid (CellsAt wr (wk5.heap.size) 22 #[.int .i64 c0, .int .i64 c1, .int .i64 c2, .int .i64 c3]) ∧ Hid (Below w.heap.size w wr)) (fun t _ => 2 - (intOf t).toNat)
    case atStart => exact ⟨0, rfl, by omega, P, E, Q, HB⟩
    case round =>
      clear P E Q HB
      obtain ⟨k, rfl, hk, P, E, Q, HB⟩ := hrel
      by_cases hk2 : k < 2
      · obtain ⟨u, v, q0, q1⟩ := two_at (unhide Q) k hk2
        go_upto_region 10 with fail
        clear q0 q1
        have D := hide (cells_new wr 22 #[.int .i64 u, .int .i64 v])
        replace P := hide (cells_al (unhide P) (.cells #[.int .i64 u, .int .i64 v] 22))
        replace E := hide (cells_al (unhide E) (.cells #[.int .i64 u, .int .i64 v] 22))
        replace Q := hide (cells_al (unhide Q) (.cells #[.int .i64 u, .int .i64 v] 22))
        replace HB := hide ((unhide HB).alloc (unhide HB).size (.cells #[.int .i64 u, .int .i64 v] 22))
        generalize hW : wr.alloc (.cells #[.int .i64 u, .int .i64 v] 22) = WD at D P E Q HB ⊢
        clear hW
        go_upto_region 11 with fail
        obtain ⟨e_0, e_1, e_2, e_3⟩ := cells4 (unhide E)
        obtain ⟨d_0, d_1⟩ := cells2 (unhide D)
        go_wp2_with fail
        refine (unhide HH _ _ _).mono ?_
        rintro e wk6 ⟨rfl, bk6⟩
        replace P := hide (cells_nx (unhide P) bk6)
        replace E := hide (cells_nx (unhide E) bk6)
        replace Q := hide (cells_nx (unhide Q) bk6)
        replace D := hide (cells_nx (unhide D) bk6)
        replace HB := hide (below_nx (unhide HB) bk6)
        clear bk6
        clear e_0 e_1 e_2 e_3 d_0 d_1
        go_wp2
        go_roundw
        case rel => exact ⟨k + 1, by go_num, by omega, P, E, Q, HB⟩
        case measure => simp [intOf]; omega
      · obtain ⟨p_0, p_1, p_2, p_3, p_4, p_5, p_6, p_7, p_8, p_9, p_10⟩ := cells11 (unhide P)
        go_upto_region 15 with fail
        go_wp2
        clear p_0 p_1 p_2 p_3 p_4 p_5 p_6 p_7 p_8 p_9 p_10
        go_loopw [14] (fun t wr => t = .int .i64 0 ∧ Hid (Below w.heap.size w wr)) (fun _ _ => 0)
        case atStart => exact ⟨rfl, HB⟩
        case round =>
          clear HB
          obtain ⟨rfl, HB⟩ := hrel
          go_wp2
          go_ret
          exact ⟨rfl, unhide HB⟩
  · obtain ⟨g1, g2, g3, g4, g5⟩ := (areaG_iff _ _ _ _).1 ga
    rw [cellG_iff] at g1 g2
    have eN : areaN a0 a1 b0 b1 = areaC a0 a1 b0 b1 := by unfold areaN; rw [ga]; rfl
    rw [eN] at HSZ ⊢
    clear eN
    have HCL := hide (fun w => cells_good a0 a1 b0 b1 w ga)
    have HH := hide (fun u v w => has_val a0 a1 b0 b1 u v w)
    have HV := hide (fun u v => hasG_iff4 a0 a1 b0 b1 u v ga)
    clear ga
    obtain ⟨W, hW⟩ : ∃ W : Nat, b0 - a0 + 1 = (W : Int) := ⟨(b0 - a0 + 1).toNat, by omega⟩
    obtain ⟨H, hH⟩ : ∃ H : Nat, b1 - a1 + 1 = (H : Int) := ⟨(b1 - a1 + 1).toNat, by omega⟩
    have eW : (b0 - a0 + 1).toNat = W := by omega
    rw [eW] at HCL
    have eC : areaC a0 a1 b0 b1 = ((H * W : Nat) : Int) := by
      unfold areaC
      rw [hW, hH]
      exact (Int.natCast_mul _ _).symm.trans (by rw [Nat.mul_comm])
    rw [eC] at HCL HSZ g5 ⊢
    clear eC eW
    obtain ⟨N, hN⟩ : ∃ N : Nat, H * W = N := ⟨_, rfl⟩
    rw [hN] at HCL HSZ g5 ⊢
    have HN := hide hN
    clear hN
    have hN4 : N ≤ 4096 := by omega
    have x0 : 0 ≤ a0 ∧ a0 < 64 ∧ b0 < 64 := by omega
    have x1 : 0 ≤ a1 ∧ a1 < 1024 ∧ b1 < 1024 := by omega
    clear g1 g2 g3 g4 g5
    obtain ⟨e_0, e_1, e_2, e_3⟩ := cells4 (unhide E)
    go_wp2_with fail
    refine (unhide HCL _).mono ?_
    rintro e wk3 ⟨BL, N1, rfl, n1, _, hl, bk3⟩
    have en : N1 = N := by omega
    subst en
    have L := hide hl
    clear hl n1
    replace P := hide (cells_nx (unhide P) bk3)
    replace C := hide (cells_nx (unhide C) bk3)
    replace E := hide (cells_nx (unhide E) bk3)
    replace HB := hide (below_nx (unhide HB) bk3)
    clear bk3
    clear e_0 e_1 e_2 e_3
    clear HCL
    go_upto_region 5 with fail
    go_wp2_with fail
    refine (unhide HWK _ ((unhide HE).below (unhide HB))).mono ?_
    rintro e wk4 ⟨rfl, bk4⟩
    replace P := hide (cells_nx (unhide P) bk4)
    replace C := hide (cells_nx (unhide C) bk4)
    replace E := hide (cells_nx (unhide E) bk4)
    replace L := hide (cells_nx (unhide L) bk4)
    replace HB := hide (below_nx (unhide HB) bk4)
    clear bk4
    obtain ⟨e_0, e_1, e_2, e_3⟩ := cells4 (unhide E)
    go_wp2_with fail
    refine (unhide HSZ _).mono ?_
    rintro e wk5 ⟨rfl, bk5⟩
    replace P := hide (cells_nx (unhide P) bk5)
    replace C := hide (cells_nx (unhide C) bk5)
    replace E := hide (cells_nx (unhide E) bk5)
    replace L := hide (cells_nx (unhide L) bk5)
    replace HB := hide (below_nx (unhide HB) bk5)
    clear bk5
    clear e_0 e_1 e_2 e_3
    clear HWK HSZ HE
    go_upto_region 7 with fail
    obtain ⟨c_0, c_1⟩ := cells2 (unhide C)
    go_wp2_with fail
    clear c_0 c_1
    obtain ⟨c2, e2⟩ : ∃ c2 : Int, bits .and .i64 c0 63 = c2 := ⟨_, rfl⟩
    obtain ⟨c3, e3⟩ : ∃ c3 : Int, bits .and .i64 c1 1023 = c3 := ⟨_, rfl⟩
    rw [e2, e3]
    clear e2 e3
    have Q := hide (cells_new wk5 22 #[.int .i64 c0, .int .i64 c1, .int .i64 c2, .int .i64 c3])
    replace P := hide (cells_al (unhide P) (.cells #[.int .i64 c0, .int .i64 c1, .int .i64 c2, .int .i64 c3] 22))
    replace C := hide (cells_al (unhide C) (.cells #[.int .i64 c0, .int .i64 c1, .int .i64 c2, .int .i64 c3] 22))
    replace E := hide (cells_al (unhide E) (.cells #[.int .i64 c0, .int .i64 c1, .int .i64 c2, .int .i64 c3] 22))
    replace L := hide (cells_al (unhide L) (.cells #[.int .i64 c0, .int .i64 c1, .int .i64 c2, .int .i64 c3] 22))
    replace HB := hide ((unhide HB).alloc (unhide HB).size (.cells #[.int .i64 c0, .int .i64 c1, .int .i64 c2, .int .i64 c3] 22))
    generalize hW : wk5.alloc (.cells #[.int .i64 c0, .int .i64 c1, .int .i64 c2, .int .i64 c3] 22) = WQ at Q P C E L HB ⊢
    clear hW
    clear C
    go_loopw [63] (fun t wr => ∃ k : Nat, t = .int .i64 (k : Int) ∧ k ≤ 2 ∧ Hid (CellsAt wr (w.heap.size) 25 #[.string xb, .string xs, .int .i64 a0, .int .i64 a1, .int .i64 b0, .int .i64 b1, .bool f1, .bool f2, .bool f3, .bool f4, .bool xw]) ∧ Hid (CellsAt wr (WF1.heap.size) 48 #[.int .i64 a0, .int .i64 a1, .int .i64 b0, .int .i64 b1]) ∧ Hid (CellsAt wr (BL) 27 (cellsK a0 a1 W N1).toArray) ∧ Hid (CellsAt wr (wk5.heap.size) 22 #[.int .i64 c0, .int .i64 c1, .int .i64 c2, .int .i64 c3]) ∧ Hid (Below w.heap.size w wr)) (fun t _ => 2 - (intOf t).toNat)
    case atStart => exact ⟨0, rfl, by omega, P, E, L, Q, HB⟩
    case round =>
      clear P E L Q HB
      obtain ⟨k, rfl, hk, P, E, L, Q, HB⟩ := hrel
      by_cases hk2 : k < 2
      · obtain ⟨u, v, q0, q1⟩ := two_at (unhide Q) k hk2
        go_upto_region 10 with fail
        clear q0 q1
        have D := hide (cells_new wr 22 #[.int .i64 u, .int .i64 v])
        replace P := hide (cells_al (unhide P) (.cells #[.int .i64 u, .int .i64 v] 22))
        replace E := hide (cells_al (unhide E) (.cells #[.int .i64 u, .int .i64 v] 22))
        replace L := hide (cells_al (unhide L) (.cells #[.int .i64 u, .int .i64 v] 22))
        replace Q := hide (cells_al (unhide Q) (.cells #[.int .i64 u, .int .i64 v] 22))
        replace HB := hide ((unhide HB).alloc (unhide HB).size (.cells #[.int .i64 u, .int .i64 v] 22))
        generalize hW : wr.alloc (.cells #[.int .i64 u, .int .i64 v] 22) = WD at D P E L Q HB ⊢
        clear hW
        have HHu := hide (fun w => unhide HH u v w)
        obtain ⟨hb, ehb⟩ : ∃ hb, hasG a0 a1 b0 b1 u v = hb := ⟨_, rfl⟩
        have hv := unhide HV u v
        rw [ehb] at HHu hv
        clear ehb
        go_cut [13] from 64 to 99 (fun vv wx => vv = .bool hb ∧ wx = WD)
        case first =>
          obtain ⟨p_0, p_1, p_2, p_3, p_4, p_5, p_6, p_7, p_8, p_9, p_10⟩ := cells11 (unhide P)
          obtain ⟨d_0, d_1⟩ := cells2 (unhide D)
          by_cases h0 : a0 ≤ u
          · by_cases h1 : u ≤ b0
            · by_cases h2 : a1 ≤ v
              · by_cases h3 : v ≤ b1
                · have HV2 := hv.2 ⟨h0, h1, h2, h3⟩
                  clear hv
                  go_wp2
                  go_meet
                  case rel => exact ⟨by rw [HV2], rfl⟩
                · have HV2 : hb = false := by cases hb with | false => rfl | true => exact absurd (hv.1 rfl) (by omega)
                  clear hv
                  go_wp2
                  go_meet
                  case rel => exact ⟨by rw [HV2], rfl⟩
              · have HV2 : hb = false := by cases hb with | false => rfl | true => exact absurd (hv.1 rfl) (by omega)
                clear hv
                go_wp2
                go_meet
                case rel => exact ⟨by rw [HV2], rfl⟩
            · have HV2 : hb = false := by cases hb with | false => rfl | true => exact absurd (hv.1 rfl) (by omega)
              clear hv
              go_wp2
              go_meet
              case rel => exact ⟨by rw [HV2], rfl⟩
          · have HV2 : hb = false := by cases hb with | false => rfl | true => exact absurd (hv.1 rfl) (by omega)
            clear hv
            go_wp2
            go_meet
            case rel => exact ⟨by rw [HV2], rfl⟩
        case rest =>
          obtain ⟨rfl, rfl⟩ := hcut
          clear hv
          have KB : (hb != hb) = false := by cases hb <;> rfl
          obtain ⟨e_0, e_1, e_2, e_3⟩ := cells4 (unhide E)
          obtain ⟨d_0, d_1⟩ := cells2 (unhide D)
          go_wp2_with fail
          refine (unhide HHu _).mono ?_
          rintro e wk6 ⟨rfl, bk6⟩
          replace P := hide (cells_nx (unhide P) bk6)
          replace E := hide (cells_nx (unhide E) bk6)
          replace L := hide (cells_nx (unhide L) bk6)
          replace Q := hide (cells_nx (unhide Q) bk6)
          replace D := hide (cells_nx (unhide D) bk6)
          replace HB := hide (below_nx (unhide HB) bk6)
          clear bk6
          clear e_0 e_1 e_2 e_3 d_0 d_1
          go_wp2
          go_roundw
          case rel => exact ⟨k + 1, by go_num, by omega, P, E, L, Q, HB⟩
          case measure => simp [intOf]; omega
      · obtain ⟨p_0, p_1, p_2, p_3, p_4, p_5, p_6, p_7, p_8, p_9, p_10⟩ := cells11 (unhide P)
        go_upto_region 15 with fail
        go_wp2
        clear p_0 p_1 p_2 p_3 p_4 p_5 p_6 p_7 p_8 p_9 p_10
        clear Q E
        go_loopw [14, 15] (fun i t wr => ∃ r : Nat, i = .int .i64 ((r * W : Nat) : Int) ∧ t = .int .i64 (a1 + (r : Int)) ∧ r ≤ H ∧ Hid (CellsAt wr (w.heap.size) 25 #[.string xb, .string xs, .int .i64 a0, .int .i64 a1, .int .i64 b0, .int .i64 b1, .bool f1, .bool f2, .bool f3, .bool f4, .bool xw]) ∧ Hid (CellsAt wr (BL) 27 (cellsK a0 a1 W N1).toArray) ∧ Hid (Below w.heap.size w wr)) (fun _ t _ => (b1 + 1 - intOf t).toNat)
        case atStart => exact ⟨0, by simp, by simp, Nat.zero_le _, P, L, HB⟩
        case round =>
          clear P L HB
          obtain ⟨r, rfl, rfl, hr, P, L, HB⟩ := hrel
          by_cases hrl : r < H
          · have hq : a1 + (r : Int) ≤ b1 := by omega
            have hrN : r * W + W ≤ N1 := by
              have := unhide HN
              have h2 : (r + 1) * W ≤ H * W := Nat.mul_le_mul_right _ hrl
              rw [Nat.add_mul, Nat.one_mul] at h2
              omega
            have HRN := hide hrN
            obtain ⟨M, hM⟩ : ∃ M, r * W = M := ⟨_, rfl⟩
            have HM := hide hM
            rw [hM] at hrN ⊢
            clear hM
            obtain ⟨p_0, p_1, p_2, p_3, p_4, p_5, p_6, p_7, p_8, p_9, p_10⟩ := cells11 (unhide P)
            go_wp2
            clear p_0 p_1 p_2 p_3 p_4 p_5 p_6 p_7 p_8 p_9 p_10
            go_loopw [14, 16] (fun i t wr => ∃ j : Nat, i = .int .i64 ((M + j : Nat) : Int) ∧ t = .int .i64 (a0 + (j : Int)) ∧ j ≤ W ∧ Hid (CellsAt wr (w.heap.size) 25 #[.string xb, .string xs, .int .i64 a0, .int .i64 a1, .int .i64 b0, .int .i64 b1, .bool f1, .bool f2, .bool f3, .bool f4, .bool xw]) ∧ Hid (CellsAt wr (BL) 27 (cellsK a0 a1 W N1).toArray) ∧ Hid (Below w.heap.size w wr)) (fun _ t _ => (b0 + 1 - intOf t).toNat)
            case atStart => exact ⟨0, rfl, by simp, Nat.zero_le _, P, L, HB⟩
            case round =>
              clear P L HB
              obtain ⟨j, rfl, rfl, hj, P, L, HB⟩ := hrel
              by_cases hjl : j < W
              · have hq2 : a0 + (j : Int) ≤ b0 := by omega
                obtain ⟨l0, l1⟩ := cellsK_cell (unhide L) r j M hjl (unhide HM) (by omega)
                have NE := fun w => cell_ne_self (a0 + (j : Int)) (a1 + (r : Int)) w
                have hi1 : M + j < N1 := by omega
                obtain ⟨p_0, p_1, p_2, p_3, p_4, p_5, p_6, p_7, p_8, p_9, p_10⟩ := cells11 (unhide P)
                go_wp2
                go_roundw
                case rel => exact ⟨j + 1, by go_num, by go_num, by omega, P, L, HB⟩
                case measure => simp [intOf]; omega
              · have hq2 : ¬ a0 + (j : Int) ≤ b0 := by omega
                have ej : j = W := by omega
                subst ej
                obtain ⟨p_0, p_1, p_2, p_3, p_4, p_5, p_6, p_7, p_8, p_9, p_10⟩ := cells11 (unhide P)
                go_wp2
                go_roundw
                case rel => exact ⟨r + 1, by rw [← unhide HM, Nat.add_mul, Nat.one_mul], by go_num, by omega, P, L, HB⟩
                case measure => simp [intOf]; omega
          · have hq : ¬ a1 + (r : Int) ≤ b1 := by omega
            have er : r = H := by omega
            subst er
            rw [unhide HN]
            obtain ⟨p_0, p_1, p_2, p_3, p_4, p_5, p_6, p_7, p_8, p_9, p_10⟩ := cells11 (unhide P)
            go_wp2
            go_ret
            exact ⟨rfl, unhide HB⟩
end Go.Proofs.YtlgmpoofcdkaeaaDoor
