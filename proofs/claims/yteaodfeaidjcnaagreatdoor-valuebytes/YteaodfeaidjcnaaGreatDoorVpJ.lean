/- The contract of the program's Order, of layer 3. -/
import Derived.Deep.CutRange
import Derived.Deep.DrawnRows
import Derived.Test.YteaodfeaidjcnaaGreatDoorVpS
import Derived.Test.YteaodfeaidjcnaaGreatDoorVpJ0
namespace Go.Proofs.YteaodfeaidjcnaaGreatDoor
open Go.RowKit

attribute [local go_sem ↓] Go.wp_at_zero Go.wp_at_succ
theorem row_five {cs : Array Value} (h : IsRow cs) : ∃ a b c d e : Value, cs = #[a, b, c, d, e] := by
  obtain ⟨l⟩ := cs
  have h5 : l.length = 5 := h.1
  match l, h5 with
  | [a, b, c, d, e], _ => exact ⟨a, b, c, d, e, rfl⟩
theorem five_alloc2 (w : World) (t : TypeId) (a b : Array Value) (ha : a.size = 5) (hb : b.size = 5) : FiveAt ((w.alloc (.cells a t)).alloc (.cells b t)) w.heap.size t a ∧ FiveAt ((w.alloc (.cells a t)).alloc (.cells b t)) (w.heap.size + 1) t b :=
  ⟨⟨heap_alloc2_old _ _ _, ha⟩, ⟨heap_alloc2_new _ _ _, hb⟩⟩

set_option maxRecDepth 100000 in
set_option maxHeartbeats 8000000 in
theorem order_val (a b : Vl) (w : World) (ha : a.text.size ≤ 1000) (hb : b.text.size ≤ 1000) (he : Env3 w) :
    Calls Tryz.prog 30 #[.agg a.cells, .agg b.cells] w fun e w' => e = .returned (.tuple #[.int .i64 (ordV3 (vSound a) (vSound b)).1, .int .i64 (ordV3 (vSound a) (vSound b)).2]) ∧ Below w.heap.size w w' := by
  have HE := hide he
  clear he
  obtain ⟨u, hu⟩ : ∃ u, vSound a = u := ⟨_, rfl⟩
  obtain ⟨x, hx⟩ : ∃ x, vSound b = x := ⟨_, rfl⟩
  have HS1 := hide (fun w => counted_val a w (by omega))
  have HS2 := hide (fun w => counted_val b w (by omega))
  have HU : Hid (u.text.size ≤ 1000) := hide (by rw [← hu]; exact sound_size2 a ha)
  have HX : Hid (x.text.size ≤ 1000) := hide (by rw [← hx]; exact sound_size2 b hb)
  have GU : Hid (vGood u = true) := hide (by rw [← hu]; exact sound_good a)
  have GX : Hid (vGood x = true) := hide (by rw [← hx]; exact sound_good b)
  rw [hu] at HS1 ⊢
  rw [hx] at HS2 ⊢
  clear hu hx ha hb
  obtain ⟨cu, hcu⟩ : ∃ cu, u.cells = cu := ⟨_, rfl⟩
  have RU : Hid (IsRow cu) := hide (by rw [← hcu]; exact vl_row u)
  have CU := hide hcu
  obtain ⟨cx, hcx⟩ : ∃ cx, x.cells = cx := ⟨_, rfl⟩
  have RX : Hid (IsRow cx) := hide (by rw [← hcx]; exact vl_row x)
  have CX := hide hcx
  obtain ⟨ca, hca⟩ : ∃ ca, a.cells = ca := ⟨_, rfl⟩
  have RA : Hid (IsRow ca) := hide (by rw [← hca]; exact vl_row a)
  have CA := hide hca
  obtain ⟨cb, hcb⟩ : ∃ cb, b.cells = cb := ⟨_, rfl⟩
  have RB : Hid (IsRow cb) := hide (by rw [← hcb]; exact vl_row b)
  have CB := hide hcb
  rw [hcu, hca] at HS1
  rw [hcx, hcb] at HS2
  rw [hca, hcb]
  clear hcu hcx hca hcb CA CB
  obtain ⟨a0, a1, a2, a3, a4, rfl⟩ := row_five (unhide RA)
  obtain ⟨b0, b1, b2, b3, b4, rfl⟩ := row_five (unhide RB)
  go_enter Tryz.func30, Tryz.ntmps30
  go_upto_region 1 with fail
  have P0 := hide (five_alloc2 w 28 #[a0, a1, a2, a3, a4] #[b0, b1, b2, b3, b4] rfl rfl)
  have HB0 := hide (below_al2 w (.cells #[a0, a1, a2, a3, a4] 28) (.cells #[b0, b1, b2, b3, b4] 28))
  generalize hW : (w.alloc (.cells #[a0, a1, a2, a3, a4] 28)).alloc (.cells #[b0, b1, b2, b3, b4] 28) = W0 at P0 HB0 ⊢
  clear hW
  go_cut [4] from 10 to 13 (fun v wx => v = .int .i64 0 ∧ Hid (FiveAt wx w.heap.size 28 cu) ∧ Hid (FiveAt wx (w.heap.size + 1) 28 cx) ∧ Hid (Below w.heap.size w wx))
  case first =>
    obtain ⟨c0, c1, c2, c3, c4⟩ := five_cells (unhide P0).1
    obtain ⟨d0, d1, d2, d3, d4⟩ := five_cells (unhide P0).2
    go_region_with (first
      | (go_at_call_of 22 a0; refine (unhide HS1 _).mono ?_; rintro e w1 ⟨rfl, y1⟩; have P1 := hide (five_below (five_drew (unhide P0).1) y1 (five_lt (five_drew (unhide P0).1))); have P2 := hide (five_below (five_drew (unhide P0).2) y1 (five_lt (five_drew (unhide P0).2))); have B1 := hide (below_nx (unhide HB0).drew y1); clear y1 c0 c1 c2 c3 c4 d0 d1 d2 d3 d4; obtain ⟨d0, d1, d2, d3, d4⟩ := five_cells (unhide P2))
      | (go_at_call_of 22 b0; refine (unhide HS2 _).mono ?_; rintro e w2 ⟨rfl, b2⟩; have Q1 := hide (five_below (unhide P1) b2 (five_lt (unhide P1))); have Q2 := hide (five_below (unhide P2) b2 (five_lt (unhide P2))); have B2 := hide (below_nx (unhide B1) b2); clear b2 d0 d1 d2 d3 d4; have z1 : cu.size = 5 := (unhide RU).1; have z2 : cx.size = 5 := (unhide RX).1; have st1 := row_store (P := Tryz.prog) (unhide Q1) (unhide RU); have st2 := row_store (P := Tryz.prog) (five_row_side (unhide Q2) w.heap.size (by omega) cu) (unhide RX)))
    all_goals (try go_wp2_with fail)
    all_goals go_meet
    all_goals exact ⟨rfl, hide (five_row_side (five_row (unhide Q1) cu (unhide RU).1) (w.heap.size + 1) (by omega) cx), hide (five_row (five_row_side (unhide Q2) w.heap.size (by omega) cu) cx (unhide RX).1), hide (below_setRow (below_setRow (unhide B2) (Nat.le_refl _) _) (by omega) _)⟩
  case rest =>
    obtain ⟨rfl, Q1, Q2, HB⟩ := hcut
    clear HS1 HS2 RA RB P0 HB0 W0
    have c0 : wc.cell? ⟨w.heap.size, 0, none⟩ = some (.int .i64 u.kind) := five_at (unhide Q1) _ _ (by rw [← unhide CU]; rfl)
    have d0 : wc.cell? ⟨w.heap.size + 1, 0, none⟩ = some (.int .i64 x.kind) := five_at (unhide Q2) _ _ (by rw [← unhide CX]; rfl)
    have c4 : wc.cell? ⟨w.heap.size, 4, none⟩ = some (.int .i64 u.fail) := five_at (unhide Q1) _ _ (by rw [← unhide CU]; rfl)
    have d4 : wc.cell? ⟨w.heap.size + 1, 4, none⟩ = some (.int .i64 x.fail) := five_at (unhide Q2) _ _ (by rw [← unhide CX]; rfl)
    cases k1 : (u.kind == 4)
    · cases k2 : (x.kind == 4)
      · have E := hide (ord_prog u x (unhide GU) (unhide GX) (by rw [beq_eq_false_iff_ne] at k1; exact k1) (by rw [beq_eq_false_iff_ne] at k2; exact k2))
        have GU2 := hide (bes_good u x (unhide GU) (unhide GX) (by rw [beq_eq_false_iff_ne] at k2; exact k2))
        have GX2 := hide (bes_good x u (unhide GX) (unhide GU) (by rw [beq_eq_false_iff_ne] at k1; exact k1))
        have HU2 := hide (bes_size u x (unhide HU))
        have HX2 := hide (bes_size x u (unhide HX))
        have HB1 := hide (fun w => beside_val u x w)
        have HB2 := hide (fun w => beside_val x u w)
        obtain ⟨U, hU⟩ : ∃ U, besV u x = U := ⟨_, rfl⟩
        obtain ⟨X, hX⟩ : ∃ X, besV x u = X := ⟨_, rfl⟩
        rw [hU] at E GU2 HU2 HB1
        rw [hX] at E GX2 HX2 HB2
        clear hU hX
        rw [unhide CU, unhide CX] at HB1 HB2
        obtain ⟨cU, hcU⟩ : ∃ cU, U.cells = cU := ⟨_, rfl⟩
        have RU2 : Hid (IsRow cU) := hide (by rw [← hcU]; exact vl_row U)
        have CU2 := hide hcU
        obtain ⟨cX, hcX⟩ : ∃ cX, X.cells = cX := ⟨_, rfl⟩
        have RX2 : Hid (IsRow cX) := hide (by rw [← hcX]; exact vl_row X)
        have CX2 := hide hcX
        rw [hcU] at HB1
        rw [hcX] at HB2
        clear hcU hcX
        go_upto_region 6 with fail
        clear c0 c4 d0 d4 k1 k2
        go_cut [4] from 24 to 29 (fun v wx => v = .int .i64 0 ∧ Hid (FiveAt wx w.heap.size 28 cU) ∧ Hid (FiveAt wx (w.heap.size + 1) 28 cX) ∧ Hid (Below w.heap.size w wx))
        case first =>
          obtain ⟨u0, u1, u2, u3, u4, hu5⟩ := row_five (unhide RU)
          obtain ⟨x0, x1, x2, x3, x4, hx5⟩ := row_five (unhide RX)
          rw [hu5] at Q1 HB1 HB2
          rw [hx5] at Q2 HB1 HB2
          clear hu5 hx5 RU RX CU CX
          obtain ⟨c0, c1, c2, c3, c4⟩ := five_cells (unhide Q1)
          obtain ⟨d0, d1, d2, d3, d4⟩ := five_cells (unhide Q2)
          go_region_with (first
            | (go_at_call_of 69 ([Value.agg #[x0, x1, x2, x3, x4]]); refine (unhide HB1 _).mono ?_; rintro e w1 ⟨rfl, y1⟩; have P1 := hide (five_below (five_drew (unhide Q1)) y1 (five_lt (unhide Q1))); have P2 := hide (five_below (five_drew (unhide Q2)) y1 (five_lt (unhide Q2))); have B1 := hide (below_nx (unhide HB).drew y1); clear c0 c1 c2 c3 c4 d0 d1 d2 d3 d4 y1; obtain ⟨c0, c1, c2, c3, c4⟩ := five_cells (unhide P1); obtain ⟨d0, d1, d2, d3, d4⟩ := five_cells (unhide P2))
            | (go_at_call_of 69 ([Value.agg #[u0, u1, u2, u3, u4]]); refine (unhide HB2 _).mono ?_; rintro e w2 ⟨rfl, b2⟩; have R1 := hide (five_below (unhide P1) b2 (five_lt (unhide P1))); have R2 := hide (five_below (unhide P2) b2 (five_lt (unhide P2))); have B2 := hide (below_nx (unhide B1) b2); clear c0 c1 c2 c3 c4 d0 d1 d2 d3 d4 b2; have z1 : cU.size = 5 := (unhide RU2).1; have z2 : cX.size = 5 := (unhide RX2).1; have st1 := row_store (P := Tryz.prog) (unhide R1) (unhide RU2); have st2 := row_store (P := Tryz.prog) (five_row_side (unhide R2) w.heap.size (by omega) cU) (unhide RX2)))
          all_goals (try go_wp2_with fail)
          all_goals go_meet
          all_goals exact ⟨rfl, hide (five_row_side (five_row (unhide R1) cU (unhide RU2).1) (w.heap.size + 1) (by omega) cX), hide (five_row (five_row_side (unhide R2) w.heap.size (by omega) cU) cX (unhide RX2).1), hide (below_setRow (below_setRow (unhide B2) (Nat.le_refl _) _) (by omega) _)⟩
        case rest =>
          clear Q1 Q2 HB HB1 HB2
          obtain ⟨rfl, Q1, Q2, HB⟩ := hcut
          have c0 : wc.cell? ⟨w.heap.size, 0, none⟩ = some (.int .i64 U.kind) := five_at (unhide Q1) _ _ (by rw [← unhide CU2]; rfl)
          have d0 : wc.cell? ⟨w.heap.size + 1, 0, none⟩ = some (.int .i64 X.kind) := five_at (unhide Q2) _ _ (by rw [← unhide CX2]; rfl)
          cases k6 : (U.kind == X.kind)
          · have E2 := hide (ordP_ne U X k6)
            go_wp2_with fail
            refine (cmp_kind _ _ _).mono ?_
            rintro e w5 ⟨rfl, rfl⟩
            go_wp2
            all_goals go_ret2
            all_goals first | exact ⟨pair_n (by rw [unhide E, unhide E2]), unhide HB⟩ | exact ⟨pair_n (by rw [unhide E, unhide E2]), (unhide HB).drew⟩
          · cases k7 : (U.kind == 2)
            · have E2 := hide (ordP_num U X k6 k7)
              have HN1 := hide (fun w (he : Env3 w) => asnum_val U w (unhide HU2) he)
              have HN2 := hide (fun w (he : Env3 w) => asnum_val X w (unhide HX2) he)
              rw [sound_of U (unhide GU2), unhide CU2] at HN1
              rw [sound_of X (unhide GX2), unhide CX2] at HN2
              obtain ⟨n1, h1⟩ : ∃ n1, asNumV U = n1 := ⟨_, rfl⟩
              obtain ⟨n2, h2⟩ : ∃ n2, asNumV X = n2 := ⟨_, rfl⟩
              rw [h1] at HN1 E2
              rw [h2] at HN2 E2
              clear h1 h2
              go_upto_region 11 with fail
              clear k6 k7
              obtain ⟨u0, u1, u2, u3, u4, hu5⟩ := row_five (unhide RU2)
              obtain ⟨x0, x1, x2, x3, x4, hx5⟩ := row_five (unhide RX2)
              rw [hu5] at Q1 HN1
              rw [hx5] at Q2 HN2
              clear hu5 hx5 c0 d0
              obtain ⟨c0, c1, c2, c3, c4⟩ := five_cells (unhide Q1)
              go_wp2_with fail
              refine (unhide HN1 _ ((unhide HE).below (unhide HB))).mono ?_
              rintro e w5 ⟨rfl, b5⟩
              have R2 := hide (five_below (unhide Q2) b5 (five_lt (unhide Q2)))
              have HB5 := hide (below_nx (unhide HB) b5)
              clear b5 c0 c1 c2 c3 c4
              obtain ⟨d0, d1, d2, d3, d4⟩ := five_cells (unhide R2)
              go_wp2_with fail
              refine (unhide HN2 _ ((unhide HE).below (unhide HB5))).mono ?_
              rintro e w6 ⟨rfl, b6⟩
              have HB6 := hide (below_nx (unhide HB5) b6)
              clear b6 d0 d1 d2 d3 d4
              go_wp2_with fail
              refine (cmp_num _ _ _).mono ?_
              rintro e w7 ⟨rfl, rfl⟩
              go_wp2
              all_goals go_ret2
              all_goals first | exact ⟨pair_n (by rw [unhide E, unhide E2]), unhide HB6⟩ | exact ⟨pair_n (by rw [unhide E, unhide E2]), (unhide HB6).drew⟩
            · have E2 := hide (ordP_text U X k6 k7)
              have HL1 := hide (fun w => lower_val U.text w (by have := unhide HU2; omega))
              have HL2 := hide (fun w => lower_val X.text w (by have := unhide HX2; omega))
              obtain ⟨s1, h1⟩ : ∃ s1, mapB lowC U.text = s1 := ⟨_, rfl⟩
              obtain ⟨s2, h2⟩ : ∃ s2, mapB lowC X.text = s2 := ⟨_, rfl⟩
              rw [h1] at HL1 E2
              rw [h2] at HL2 E2
              clear h1 h2
              have c2 : wc.cell? ⟨w.heap.size, 2, none⟩ = some (.string U.text) := five_at (unhide Q1) _ _ (by rw [← unhide CU2]; rfl)
              have d2 : wc.cell? ⟨w.heap.size + 1, 2, none⟩ = some (.string X.text) := five_at (unhide Q2) _ _ (by rw [← unhide CX2]; rfl)
              go_wp2_with fail
              clear c0 d0 k6 k7
              go_region_with (first
                | (go_at_call_of 68 (Value.string U.text); refine (unhide HL1 _).mono ?_; rintro e w5 ⟨rfl, b5⟩; have R2 := hide (five_below (five_drew (unhide Q2)) b5 (five_lt (unhide Q2))); have e2 : w5.cell? ⟨w.heap.size + 1, 2, none⟩ = some (.string X.text) := five_at (unhide R2) _ _ (by rw [← unhide CX2]; rfl); have HB5 := hide (below_nx (unhide HB).drew b5); clear b5)
                | (go_at_call_of 68 (Value.string X.text); refine (unhide HL2 _).mono ?_; rintro e w6 ⟨rfl, b6⟩; have HB6 := hide (below_nx (unhide HB5) b6); clear b6)
                | (go_at_call 71; refine (textcmp_val _ _ _).mono ?_; rintro e w7 ⟨rfl, rfl⟩))
              all_goals (try go_wp2_with fail)
              all_goals go_ret2
              all_goals first | exact ⟨pair_n (by rw [unhide E, unhide E2]), unhide HB6⟩ | exact ⟨pair_n (by rw [unhide E, unhide E2]), (unhide HB6).drew⟩
      · have E : Hid (ordV3 u x = (0, x.fail)) := hide (by rw [beq_eq_false_iff_ne] at k1; rw [beq_iff_eq] at k2; unfold ordV3; rw [if_neg k1, if_pos k2])
        go_wp2
        try go_region
        all_goals (try go_wp2_with fail)
        all_goals go_ret2
        all_goals first | exact ⟨pair_n (unhide E), unhide HB⟩ | exact ⟨pair_n (unhide E), (unhide HB).drew⟩
    · have E : Hid (ordV3 u x = (0, u.fail)) := hide (by rw [beq_iff_eq] at k1; unfold ordV3; rw [if_pos k1])
      go_wp2
      try go_region
      all_goals (try go_wp2_with fail)
      all_goals go_ret2
      all_goals first | exact ⟨pair_n (unhide E), unhide HB⟩ | exact ⟨pair_n (unhide E), (unhide HB).drew⟩
end Go.Proofs.YteaodfeaidjcnaaGreatDoor
