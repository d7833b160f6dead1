/- The contract of the reference's Order, of layer 3: where neither is an error, and the whole. -/
import Derived.Test.YteaodfeaidjcnaaDoorVrY
namespace Go.Proofs.YteaodfeaidjcnaaDoor
open Go.RowKit

theorem ord_ne (u x : Vl) (k1 : (u.kind == 4) = false) (k2 : (x.kind == 4) = false) (k3 : (u.kind == 0) = false) (k5 : (x.kind == 0) = false) (k6 : (u.kind == x.kind) = false) : ordV3 u x = (cmpV u.kind x.kind, 0) := by
  rw [beq_eq_false_iff_ne] at k1 k2 k3 k5 k6
  unfold ordV3; rw [if_neg k1, if_neg k2, if_neg k3, if_neg k5, if_neg k6]
theorem ord_same (u x : Vl) (k1 : (u.kind == 4) = false) (k2 : (x.kind == 4) = false) (k3 : (u.kind == 0) = false) (k5 : (x.kind == 0) = false) (k6 : (u.kind == x.kind) = true) : ordV3 u x = (sameV u x, 0) := by
  rw [beq_eq_false_iff_ne] at k1 k2 k3 k5
  rw [beq_iff_eq] at k6
  unfold ordV3; rw [if_neg k1, if_neg k2, if_neg k3, if_neg k5, if_pos k6]
theorem ord_b0 (u x : Vl) (k1 : (u.kind == 4) = false) (k2 : (x.kind == 4) = false) (k3 : (u.kind == 0) = false) (k5 : (x.kind == 0) = true) : ordV3 u x = (sameV u (bl u.kind), 0) := by
  rw [beq_eq_false_iff_ne] at k1 k2 k3
  rw [beq_iff_eq] at k5
  unfold ordV3; rw [if_neg k1, if_neg k2, if_neg k3, if_pos k5]
theorem ord_a0 (u x : Vl) (k1 : (u.kind == 4) = false) (k2 : (x.kind == 4) = false) (k3 : (u.kind == 0) = true) (k5 : (x.kind == 0) = false) : ordV3 u x = (sameV (bl x.kind) x, 0) := by
  rw [beq_eq_false_iff_ne] at k1 k2 k5
  rw [beq_iff_eq] at k3
  unfold ordV3; rw [if_neg k1, if_neg k2, if_pos k3, if_neg k5]
theorem ord_00 (u x : Vl) (k1 : (u.kind == 4) = false) (k2 : (x.kind == 4) = false) (k3 : (u.kind == 0) = true) (k5 : (x.kind == 0) = true) : ordV3 u x = (0, 0) := by
  rw [beq_eq_false_iff_ne] at k1 k2
  rw [beq_iff_eq] at k3 k5
  unfold ordV3; rw [if_neg k1, if_neg k2, if_pos k3, if_pos k5]
theorem same1 (U X : Vl) (m1 : (U.kind == 1) = true) : sameV U X = cmpV U.num X.num := by
  rw [beq_iff_eq] at m1
  unfold sameV; rw [if_pos m1]
theorem same2 (U X : Vl) (m1 : (U.kind == 1) = false) (m2 : (U.kind == 2) = true) : sameV U X = ltL (mapB lowC U.text).data.toList (mapB lowC X.text).data.toList := by
  rw [beq_iff_eq] at m2
  rw [beq_eq_false_iff_ne] at m1
  unfold sameV; rw [if_neg m1, if_pos m2]
theorem same3 (U X : Vl) (m1 : (U.kind == 1) = false) (m2 : (U.kind == 2) = false) (m3 : (U.kind == 3) = true) (p q : Bool) (t1 : U.tr = p) (t2 : X.tr = q) : sameV U X = if p = q then 0 else if q = true then -1 else 1 := by
  rw [beq_iff_eq] at m3
  rw [beq_eq_false_iff_ne] at m1 m2
  unfold sameV; rw [if_neg m1, if_neg m2, if_pos m3, t1, t2]
theorem same4 (U X : Vl) (m1 : (U.kind == 1) = false) (m2 : (U.kind == 2) = false) (m3 : (U.kind == 3) = false) : sameV U X = 0 := by
  rw [beq_eq_false_iff_ne] at m1 m2 m3
  unfold sameV; rw [if_neg m1, if_neg m2, if_neg m3]
theorem five_at {w : World} {B : Nat} {t : TypeId} {cs : Array Value} (h : FiveAt w B t cs) (i : Nat) (v : Value) (hv : cs[i]? = some v) : w.cell? ⟨B, i, none⟩ = some v := by
  rw [World.cell?, h.1]; simpa using hv

set_option maxRecDepth 100000 in
set_option maxHeartbeats 8000000 in
theorem order_ne (a b : Vl) (w : World) (ha : a.text.size ≤ 1000) (hb : b.text.size ≤ 1000) (u x : Vl) (hu : vSound a = u) (hx : vSound b = x) (k1 : (u.kind == 4) = false) (k2 : (x.kind == 4) = false) :
    Calls Tryd.prog 27 #[.agg a.cells, .agg b.cells] w fun e w' => e = .returned (.tuple #[.int .i64 (ordV3 u x).1, .int .i64 (ordV3 u x).2]) ∧ Below w.heap.size w w' := by
  have HS1 := hide (fun w => sound_ref a w (by omega))
  have HS2 := hide (fun w => sound_ref b w (by omega))
  have HU : Hid (u.text.size ≤ 1000) := hide (by rw [← hu]; exact sound_size2 a ha)
  have HX : Hid (x.text.size ≤ 1000) := hide (by rw [← hx]; exact sound_size2 b hb)
  rw [hu] at HS1
  rw [hx] at HS2
  clear hu hx ha hb
  unfold Vl.cells at HS1 HS2 ⊢
  go_enter Tryd.func27, Tryd.ntmps27
  go_wp2_with fail
  refine (unhide HS1 _).mono ?_
  rintro e w1 ⟨rfl, b1⟩
  have p1 := five_below (five_old w 29 (.int .i64 a.kind) (.int .i64 a.num) (.string a.text) (.bool a.tr) (.int .i64 a.fail) (.cells #[.int .i64 b.kind, .int .i64 b.num, .string b.text, .bool b.tr, .int .i64 b.fail] 29)) b1 (by simp; omega)
  have p2 := five_below (five_new2 w (.cells #[.int .i64 a.kind, .int .i64 a.num, .string a.text, .bool a.tr, .int .i64 a.fail] 29) 29 (.int .i64 b.kind) (.int .i64 b.num) (.string b.text) (.bool b.tr) (.int .i64 b.fail)) b1 (by simp)
  have B1 : Below w.heap.size w w1 := (below_al2 w (.cells #[.int .i64 a.kind, .int .i64 a.num, .string a.text, .bool a.tr, .int .i64 a.fail] 29) (.cells #[.int .i64 b.kind, .int .i64 b.num, .string b.text, .bool b.tr, .int .i64 b.fail] 29)).trans (b1.mono (by simp; omega))
  obtain ⟨x0, c0⟩ := five_c p1 0 (by omega)
  obtain ⟨x1, c1⟩ := five_c p1 1 (by omega)
  obtain ⟨x2, c2⟩ := five_c p1 2 (by omega)
  obtain ⟨x3, c3⟩ := five_c p1 3 (by omega)
  obtain ⟨x4, c4⟩ := five_c p1 4 (by omega)
  have f0 := five_f p1 0
  have f1 := five_f p1 1
  have f2 := five_f p1 2
  have f3 := five_f p1 3
  have f4 := five_f p1 4
  have d0 : w1.cell? ⟨w.heap.size + 1, 0, none⟩ = some (.int .i64 b.kind) := by simp [World.cell?, p2.1]
  have d1 : w1.cell? ⟨w.heap.size + 1, 1, none⟩ = some (.int .i64 b.num) := by simp [World.cell?, p2.1]
  have d2 : w1.cell? ⟨w.heap.size + 1, 2, none⟩ = some (.string b.text) := by simp [World.cell?, p2.1]
  have d3 : w1.cell? ⟨w.heap.size + 1, 3, none⟩ = some (.bool b.tr) := by simp [World.cell?, p2.1]
  have d4 : w1.cell? ⟨w.heap.size + 1, 4, none⟩ = some (.int .i64 b.fail) := by simp [World.cell?, p2.1]
  have P1 := hide (five_set p1 (.int .i64 u.kind) (.int .i64 u.num) (.string u.text) (.bool u.tr) (.int .i64 u.fail))
  have P2 := hide p2
  have HB1 := hide (below_five B1 (Nat.le_refl _) (.int .i64 u.kind) (.int .i64 u.num) (.string u.text) (.bool u.tr) (.int .i64 u.fail))
  clear p1 p2 b1 B1
  go_wp2_with fail
  refine (unhide HS2 _).mono ?_
  rintro e w2 ⟨rfl, b2⟩
  have q1 := five_below (unhide P1) b2 (five_lt (unhide P1))
  have q2 := five_below (five_other (unhide P2) w.heap.size (by omega) (.int .i64 u.kind) (.int .i64 u.num) (.string u.text) (.bool u.tr) (.int .i64 u.fail)) b2 (by have := five_lt (five_other (unhide P2) w.heap.size (by omega) (.int .i64 u.kind) (.int .i64 u.num) (.string u.text) (.bool u.tr) (.int .i64 u.fail)); exact this)
  have HB2 := hide (below_five (below_nx (unhide HB1) b2) (B := w.heap.size + 1) (by omega) (.int .i64 x.kind) (.int .i64 x.num) (.string x.text) (.bool x.tr) (.int .i64 x.fail))
  have Q1 := hide (five_other q1 (w.heap.size + 1) (by omega) (.int .i64 x.kind) (.int .i64 x.num) (.string x.text) (.bool x.tr) (.int .i64 x.fail))
  have Q2 := hide (five_set q2 (.int .i64 x.kind) (.int .i64 x.num) (.string x.text) (.bool x.tr) (.int .i64 x.fail))
  clear c0 f0 d0 c1 f1 d1 c2 f2 d2 c3 f3 d3 c4 f4 d4 b2 P1 P2 HB1
  clear x0 x1 x2 x3 x4
  obtain ⟨x0, d0⟩ := five_c q2 0 (by omega)
  obtain ⟨x1, d1⟩ := five_c q2 1 (by omega)
  obtain ⟨x2, d2⟩ := five_c q2 2 (by omega)
  obtain ⟨x3, d3⟩ := five_c q2 3 (by omega)
  obtain ⟨x4, d4⟩ := five_c q2 4 (by omega)
  have g0 := five_f q2 0
  have g1 := five_f q2 1
  have g2 := five_f q2 2
  have g3 := five_f q2 3
  have g4 := five_f q2 4
  clear q1 q2
  go_upto_region 3 with fail
  generalize hw3 : (((((w2.setCell ⟨w.heap.size + 1, 0, none⟩ (.int .i64 x.kind)).setCell ⟨w.heap.size + 1, 1, none⟩ (.int .i64 x.num)).setCell ⟨w.heap.size + 1, 2, none⟩ (.string x.text)).setCell ⟨w.heap.size + 1, 3, none⟩ (.bool x.tr)).setCell ⟨w.heap.size + 1, 4, none⟩ (.int .i64 x.fail)) = w3 at HB2 Q1 Q2 ⊢
  clear hw3 d0 d1 d2 d3 d4 g0 g1 g2 g3 g4
  clear x0 x1 x2 x3 x4
  have c0 : w3.cell? ⟨w.heap.size, 0, none⟩ = some (.int .i64 u.kind) := five_at (unhide Q1) _ _ rfl
  have d0 : w3.cell? ⟨w.heap.size + 1, 0, none⟩ = some (.int .i64 x.kind) := five_at (unhide Q2) _ _ rfl
  have c1 : w3.cell? ⟨w.heap.size, 1, none⟩ = some (.int .i64 u.num) := five_at (unhide Q1) _ _ rfl
  have d1 : w3.cell? ⟨w.heap.size + 1, 1, none⟩ = some (.int .i64 x.num) := five_at (unhide Q2) _ _ rfl
  have c2 : w3.cell? ⟨w.heap.size, 2, none⟩ = some (.string u.text) := five_at (unhide Q1) _ _ rfl
  have d2 : w3.cell? ⟨w.heap.size + 1, 2, none⟩ = some (.string x.text) := five_at (unhide Q2) _ _ rfl
  have c3 : w3.cell? ⟨w.heap.size, 3, none⟩ = some (.bool u.tr) := five_at (unhide Q1) _ _ rfl
  have d3 : w3.cell? ⟨w.heap.size + 1, 3, none⟩ = some (.bool x.tr) := five_at (unhide Q2) _ _ rfl
  have c4 : w3.cell? ⟨w.heap.size, 4, none⟩ = some (.int .i64 u.fail) := five_at (unhide Q1) _ _ rfl
  have d4 : w3.cell? ⟨w.heap.size + 1, 4, none⟩ = some (.int .i64 x.fail) := five_at (unhide Q2) _ _ rfl
  have f0 := five_f (unhide Q1) 0
  have g0 := five_f (unhide Q2) 0
  have f1 := five_f (unhide Q1) 1
  have g1 := five_f (unhide Q2) 1
  have f2 := five_f (unhide Q1) 2
  have g2 := five_f (unhide Q2) 2
  have f3 := five_f (unhide Q1) 3
  have g3 := five_f (unhide Q2) 3
  have f4 := five_f (unhide Q1) 4
  have g4 := five_f (unhide Q2) 4
  cases k3 : (u.kind == 0)
  · cases k5 : (x.kind == 0)
    · cases k6 : (u.kind == x.kind)
      · have E := hide (ord_ne u x k1 k2 k3 k5 k6)
        go_wp2_with fail
        refine (numbers_ref _ _ _).mono ?_
        rintro e w5 ⟨rfl, rfl⟩
        go_wp2
        go_ret2
        exact ⟨pair_n (unhide E), unhide HB2⟩
      · have E := hide (ord_same u x k1 k2 k3 k5 k6)
        cases m1 : (u.kind == 1)
        · cases m2 : (u.kind == 2)
          · cases m3 : (u.kind == 3)
            · go_wp2
              go_ret2
              first | exact ⟨pair_n ((unhide E).trans (congrArg (fun t => (t, (0 : Int))) (same4 u x m1 m2 m3))), unhide HB2⟩ | exact ⟨pair_n ((unhide E).trans (congrArg (fun t => (t, (0 : Int))) (same4 u x m1 m2 m3))), (unhide HB2).drew⟩
            · cases t1 : u.tr
              · cases t2 : x.tr
                · go_wp2
                  go_ret2
                  first | exact ⟨pair_n ((unhide E).trans (congrArg (fun t => (t, (0 : Int))) (same3 u x m1 m2 m3 _ _ t1 t2))), unhide HB2⟩ | exact ⟨pair_n ((unhide E).trans (congrArg (fun t => (t, (0 : Int))) (same3 u x m1 m2 m3 _ _ t1 t2))), (unhide HB2).drew⟩
                · go_wp2
                  go_ret2
                  first | exact ⟨pair_n ((unhide E).trans (congrArg (fun t => (t, (0 : Int))) (same3 u x m1 m2 m3 _ _ t1 t2))), unhide HB2⟩ | exact ⟨pair_n ((unhide E).trans (congrArg (fun t => (t, (0 : Int))) (same3 u x m1 m2 m3 _ _ t1 t2))), (unhide HB2).drew⟩
              · cases t2 : x.tr
                · go_wp2
                  go_ret2
                  first | exact ⟨pair_n ((unhide E).trans (congrArg (fun t => (t, (0 : Int))) (same3 u x m1 m2 m3 _ _ t1 t2))), unhide HB2⟩ | exact ⟨pair_n ((unhide E).trans (congrArg (fun t => (t, (0 : Int))) (same3 u x m1 m2 m3 _ _ t1 t2))), (unhide HB2).drew⟩
                · go_wp2
                  go_ret2
                  first | exact ⟨pair_n ((unhide E).trans (congrArg (fun t => (t, (0 : Int))) (same3 u x m1 m2 m3 _ _ t1 t2))), unhide HB2⟩ | exact ⟨pair_n ((unhide E).trans (congrArg (fun t => (t, (0 : Int))) (same3 u x m1 m2 m3 _ _ t1 t2))), (unhide HB2).drew⟩
          · go_wp2_with fail
            refine (lower_ref _ _ (by first | (have := unhide HU; omega) | decide)).mono ?_
            rintro e w5 ⟨rfl, b5⟩
            have d2' : w5.cell? ⟨w.heap.size + 1, 2, none⟩ = some (.string x.text) := five_at (five_below (unhide Q2) b5 (five_lt (unhide Q2))) _ _ rfl
            have HB5 := hide (below_nx (unhide HB2) b5)
            clear b5
            go_wp2_with fail
            refine (lower_ref _ _ (by first | (have := unhide HX; omega) | decide)).mono ?_
            rintro e w6 ⟨rfl, b6⟩
            have HB6 := hide (below_nx (unhide HB5) b6)
            clear b6
            go_wp2_with fail
            refine (texts_ref _ _ _ (by rw [mapB_size]; first | (have := unhide HU; omega) | decide) (by rw [mapB_size]; first | (have := unhide HX; omega) | decide)).mono ?_
            rintro e w7 ⟨rfl, b7⟩
            have HB7 := hide (below_nx (unhide HB6) b7)
            clear b7
            go_wp2
            go_ret2
            exact ⟨pair_n ((unhide E).trans (congrArg (fun t => (t, (0 : Int))) (same2 u x m1 m2))), unhide HB7⟩
        · go_wp2_with fail
          refine (numbers_ref _ _ _).mono ?_
          rintro e w5 ⟨rfl, rfl⟩
          go_wp2
          go_ret2
          first | exact ⟨pair_n ((unhide E).trans (congrArg (fun t => (t, (0 : Int))) (same1 u x m1))), unhide HB2⟩ | exact ⟨pair_n ((unhide E).trans (congrArg (fun t => (t, (0 : Int))) (same1 u x m1))), (unhide HB2).drew⟩
    · have E := hide (ord_b0 u x k1 k2 k3 k5)
      go_upto_region 11 with fail
      replace HB2 := hide (below_five (unhide HB2) (B := w.heap.size + 1) (by omega) (.int .i64 u.kind) (.int .i64 0) (.string ⟨#[]⟩) (.bool false) (.int .i64 0))
      replace Q1 := hide (five_other (unhide Q1) (w.heap.size + 1) (by omega) (.int .i64 u.kind) (.int .i64 0) (.string ⟨#[]⟩) (.bool false) (.int .i64 0))
      replace Q2 := hide (five_set (unhide Q2) (.int .i64 u.kind) (.int .i64 0) (.string ⟨#[]⟩) (.bool false) (.int .i64 0))
      generalize hw : (((((w3.setCell ⟨w.heap.size + 1, 0, none⟩ (.int .i64 u.kind)).setCell ⟨w.heap.size + 1, 1, none⟩ (.int .i64 0)).setCell ⟨w.heap.size + 1, 2, none⟩ (.string ⟨#[]⟩)).setCell ⟨w.heap.size + 1, 3, none⟩ (.bool false)).setCell ⟨w.heap.size + 1, 4, none⟩ (.int .i64 0)) = w4 at HB2 Q1 Q2 ⊢
      clear hw
      clear c0 d0 f0 g0 c1 d1 f1 g1 c2 d2 f2 g2 c3 d3 f3 g3 c4 d4 f4 g4
      have c0 : w4.cell? ⟨w.heap.size, 0, none⟩ = some (.int .i64 u.kind) := five_at (unhide Q1) _ _ rfl
      have d0 : w4.cell? ⟨w.heap.size + 1, 0, none⟩ = some (.int .i64 u.kind) := five_at (unhide Q2) _ _ rfl
      have c1 : w4.cell? ⟨w.heap.size, 1, none⟩ = some (.int .i64 u.num) := five_at (unhide Q1) _ _ rfl
      have d1 : w4.cell? ⟨w.heap.size + 1, 1, none⟩ = some (.int .i64 0) := five_at (unhide Q2) _ _ rfl
      have c2 : w4.cell? ⟨w.heap.size, 2, none⟩ = some (.string u.text) := five_at (unhide Q1) _ _ rfl
      have d2 : w4.cell? ⟨w.heap.size + 1, 2, none⟩ = some (.string ⟨#[]⟩) := five_at (unhide Q2) _ _ rfl
      have c3 : w4.cell? ⟨w.heap.size, 3, none⟩ = some (.bool u.tr) := five_at (unhide Q1) _ _ rfl
      have d3 : w4.cell? ⟨w.heap.size + 1, 3, none⟩ = some (.bool false) := five_at (unhide Q2) _ _ rfl
      have c4 : w4.cell? ⟨w.heap.size, 4, none⟩ = some (.int .i64 u.fail) := five_at (unhide Q1) _ _ rfl
      have d4 : w4.cell? ⟨w.heap.size + 1, 4, none⟩ = some (.int .i64 0) := five_at (unhide Q2) _ _ rfl
      have f0 := five_f (unhide Q1) 0
      have g0 := five_f (unhide Q2) 0
      have f1 := five_f (unhide Q1) 1
      have g1 := five_f (unhide Q2) 1
      have f2 := five_f (unhide Q1) 2
      have g2 := five_f (unhide Q2) 2
      have f3 := five_f (unhide Q1) 3
      have g3 := five_f (unhide Q2) 3
      have f4 := five_f (unhide Q1) 4
      have g4 := five_f (unhide Q2) 4
      cases m1 : (u.kind == 1)
      · cases m2 : (u.kind == 2)
        · cases m3 : (u.kind == 3)
          · go_wp2
            go_ret2
            first | exact ⟨pair_n ((unhide E).trans (congrArg (fun t => (t, (0 : Int))) (same4 u (bl u.kind) m1 m2 m3))), unhide HB2⟩ | exact ⟨pair_n ((unhide E).trans (congrArg (fun t => (t, (0 : Int))) (same4 u (bl u.kind) m1 m2 m3))), (unhide HB2).drew⟩
          · cases t1 : u.tr
            · go_wp2
              go_ret2
              first | exact ⟨pair_n ((unhide E).trans (congrArg (fun t => (t, (0 : Int))) (same3 u (bl u.kind) m1 m2 m3 _ _ t1 rfl))), unhide HB2⟩ | exact ⟨pair_n ((unhide E).trans (congrArg (fun t => (t, (0 : Int))) (same3 u (bl u.kind) m1 m2 m3 _ _ t1 rfl))), (unhide HB2).drew⟩
            · go_wp2
              go_ret2
              first | exact ⟨pair_n ((unhide E).trans (congrArg (fun t => (t, (0 : Int))) (same3 u (bl u.kind) m1 m2 m3 _ _ t1 rfl))), unhide HB2⟩ | exact ⟨pair_n ((unhide E).trans (congrArg (fun t => (t, (0 : Int))) (same3 u (bl u.kind) m1 m2 m3 _ _ t1 rfl))), (unhide HB2).drew⟩
        · go_wp2_with fail
          refine (lower_ref _ _ (by first | (have := unhide HU; omega) | decide)).mono ?_
          rintro e w5 ⟨rfl, b5⟩
          have d2' : w5.cell? ⟨w.heap.size + 1, 2, none⟩ = some (.string ⟨#[]⟩) := five_at (five_below (unhide Q2) b5 (five_lt (unhide Q2))) _ _ rfl
          have HB5 := hide (below_nx (unhide HB2) b5)
          clear b5
          go_wp2_with fail
          refine (lower_ref _ _ (by first | (have := unhide HX; omega) | decide)).mono ?_
          rintro e w6 ⟨rfl, b6⟩
          have HB6 := hide (below_nx (unhide HB5) b6)
          clear b6
          go_wp2_with fail
          refine (texts_ref _ _ _ (by rw [mapB_size]; first | (have := unhide HU; omega) | decide) (by rw [mapB_size]; first | (have := unhide HX; omega) | decide)).mono ?_
          rintro e w7 ⟨rfl, b7⟩
          have HB7 := hide (below_nx (unhide HB6) b7)
          clear b7
          go_wp2
          go_ret2
          exact ⟨pair_n ((unhide E).trans (congrArg (fun t => (t, (0 : Int))) (same2 u (bl u.kind) m1 m2))), unhide HB7⟩
      · go_wp2_with fail
        refine (numbers_ref _ _ _).mono ?_
        rintro e w5 ⟨rfl, rfl⟩
        go_wp2
        go_ret2
        first | exact ⟨pair_n ((unhide E).trans (congrArg (fun t => (t, (0 : Int))) (same1 u (bl u.kind) m1))), unhide HB2⟩ | exact ⟨pair_n ((unhide E).trans (congrArg (fun t => (t, (0 : Int))) (same1 u (bl u.kind) m1))), (unhide HB2).drew⟩
  · go_upto_region 9 with fail
    replace HB2 := hide (below_five (unhide HB2) (B := w.heap.size) (by omega) (.int .i64 x.kind) (.int .i64 0) (.string ⟨#[]⟩) (.bool false) (.int .i64 0))
    replace Q2 := hide (five_other (unhide Q2) (w.heap.size) (by omega) (.int .i64 x.kind) (.int .i64 0) (.string ⟨#[]⟩) (.bool false) (.int .i64 0))
    replace Q1 := hide (five_set (unhide Q1) (.int .i64 x.kind) (.int .i64 0) (.string ⟨#[]⟩) (.bool false) (.int .i64 0))
    generalize hw : (((((w3.setCell ⟨w.heap.size, 0, none⟩ (.int .i64 x.kind)).setCell ⟨w.heap.size, 1, none⟩ (.int .i64 0)).setCell ⟨w.heap.size, 2, none⟩ (.string ⟨#[]⟩)).setCell ⟨w.heap.size, 3, none⟩ (.bool false)).setCell ⟨w.heap.size, 4, none⟩ (.int .i64 0)) = w4 at HB2 Q1 Q2 ⊢
    clear hw
    clear c0 d0 f0 g0 c1 d1 f1 g1 c2 d2 f2 g2 c3 d3 f3 g3 c4 d4 f4 g4
    have c0 : w4.cell? ⟨w.heap.size, 0, none⟩ = some (.int .i64 x.kind) := five_at (unhide Q1) _ _ rfl
    have d0 : w4.cell? ⟨w.heap.size + 1, 0, none⟩ = some (.int .i64 x.kind) := five_at (unhide Q2) _ _ rfl
    have c1 : w4.cell? ⟨w.heap.size, 1, none⟩ = some (.int .i64 0) := five_at (unhide Q1) _ _ rfl
    have d1 : w4.cell? ⟨w.heap.size + 1, 1, none⟩ = some (.int .i64 x.num) := five_at (unhide Q2) _ _ rfl
    have c2 : w4.cell? ⟨w.heap.size, 2, none⟩ = some (.string ⟨#[]⟩) := five_at (unhide Q1) _ _ rfl
    have d2 : w4.cell? ⟨w.heap.size + 1, 2, none⟩ = some (.string x.text) := five_at (unhide Q2) _ _ rfl
    have c3 : w4.cell? ⟨w.heap.size, 3, none⟩ = some (.bool false) := five_at (unhide Q1) _ _ rfl
    have d3 : w4.cell? ⟨w.heap.size + 1, 3, none⟩ = some (.bool x.tr) := five_at (unhide Q2) _ _ rfl
    have c4 : w4.cell? ⟨w.heap.size, 4, none⟩ = some (.int .i64 0) := five_at (unhide Q1) _ _ rfl
    have d4 : w4.cell? ⟨w.heap.size + 1, 4, none⟩ = some (.int .i64 x.fail) := five_at (unhide Q2) _ _ rfl
    have f0 := five_f (unhide Q1) 0
    have g0 := five_f (unhide Q2) 0
    have f1 := five_f (unhide Q1) 1
    have g1 := five_f (unhide Q2) 1
    have f2 := five_f (unhide Q1) 2
    have g2 := five_f (unhide Q2) 2
    have f3 := five_f (unhide Q1) 3
    have g3 := five_f (unhide Q2) 3
    have f4 := five_f (unhide Q1) 4
    have g4 := five_f (unhide Q2) 4
    cases k5 : (x.kind == 0)
    · have E := hide (ord_a0 u x k1 k2 k3 k5)
      cases m1 : (x.kind == 1)
      · cases m2 : (x.kind == 2)
        · cases m3 : (x.kind == 3)
          · go_wp2
            go_ret2
            first | exact ⟨pair_n ((unhide E).trans (congrArg (fun t => (t, (0 : Int))) (same4 (bl x.kind) x m1 m2 m3))), unhide HB2⟩ | exact ⟨pair_n ((unhide E).trans (congrArg (fun t => (t, (0 : Int))) (same4 (bl x.kind) x m1 m2 m3))), (unhide HB2).drew⟩
          · cases t1 : x.tr
            · go_wp2
              go_ret2
              first | exact ⟨pair_n ((unhide E).trans (congrArg (fun t => (t, (0 : Int))) (same3 (bl x.kind) x m1 m2 m3 _ _ rfl t1))), unhide HB2⟩ | exact ⟨pair_n ((unhide E).trans (congrArg (fun t => (t, (0 : Int))) (same3 (bl x.kind) x m1 m2 m3 _ _ rfl t1))), (unhide HB2).drew⟩
            · go_wp2
              go_ret2
              first | exact ⟨pair_n ((unhide E).trans (congrArg (fun t => (t, (0 : Int))) (same3 (bl x.kind) x m1 m2 m3 _ _ rfl t1))), unhide HB2⟩ | exact ⟨pair_n ((unhide E).trans (congrArg (fun t => (t, (0 : Int))) (same3 (bl x.kind) x m1 m2 m3 _ _ rfl t1))), (unhide HB2).drew⟩
        · go_wp2_with fail
          refine (lower_ref _ _ (by first | (have := unhide HU; omega) | decide)).mono ?_
          rintro e w5 ⟨rfl, b5⟩
          have d2' : w5.cell? ⟨w.heap.size + 1, 2, none⟩ = some (.string x.text) := five_at (five_below (unhide Q2) b5 (five_lt (unhide Q2))) _ _ rfl
          have HB5 := hide (below_nx (unhide HB2) b5)
          clear b5
          go_wp2_with fail
          refine (lower_ref _ _ (by first | (have := unhide HX; omega) | decide)).mono ?_
          rintro e w6 ⟨rfl, b6⟩
          have HB6 := hide (below_nx (unhide HB5) b6)
          clear b6
          go_wp2_with fail
          refine (texts_ref _ _ _ (by rw [mapB_size]; first | (have := unhide HU; omega) | decide) (by rw [mapB_size]; first | (have := unhide HX; omega) | decide)).mono ?_
          rintro e w7 ⟨rfl, b7⟩
          have HB7 := hide (below_nx (unhide HB6) b7)
          clear b7
          go_wp2
          go_ret2
          exact ⟨pair_n ((unhide E).trans (congrArg (fun t => (t, (0 : Int))) (same2 (bl x.kind) x m1 m2))), unhide HB7⟩
      · go_wp2_with fail
        refine (numbers_ref _ _ _).mono ?_
        rintro e w5 ⟨rfl, rfl⟩
        go_wp2
        go_ret2
        first | exact ⟨pair_n ((unhide E).trans (congrArg (fun t => (t, (0 : Int))) (same1 (bl x.kind) x m1))), unhide HB2⟩ | exact ⟨pair_n ((unhide E).trans (congrArg (fun t => (t, (0 : Int))) (same1 (bl x.kind) x m1))), (unhide HB2).drew⟩
    · have E := hide (ord_00 u x k1 k2 k3 k5)
      go_upto_region 11 with fail
      replace HB2 := hide (below_five (unhide HB2) (B := w.heap.size + 1) (by omega) (.int .i64 x.kind) (.int .i64 0) (.string ⟨#[]⟩) (.bool false) (.int .i64 0))
      replace Q1 := hide (five_other (unhide Q1) (w.heap.size + 1) (by omega) (.int .i64 x.kind) (.int .i64 0) (.string ⟨#[]⟩) (.bool false) (.int .i64 0))
      replace Q2 := hide (five_set (unhide Q2) (.int .i64 x.kind) (.int .i64 0) (.string ⟨#[]⟩) (.bool false) (.int .i64 0))
      generalize hw : (((((w4.setCell ⟨w.heap.size + 1, 0, none⟩ (.int .i64 x.kind)).setCell ⟨w.heap.size + 1, 1, none⟩ (.int .i64 0)).setCell ⟨w.heap.size + 1, 2, none⟩ (.string ⟨#[]⟩)).setCell ⟨w.heap.size + 1, 3, none⟩ (.bool false)).setCell ⟨w.heap.size + 1, 4, none⟩ (.int .i64 0)) = w5 at HB2 Q1 Q2 ⊢
      clear hw
      clear c0 d0 f0 g0 c1 d1 f1 g1 c2 d2 f2 g2 c3 d3 f3 g3 c4 d4 f4 g4
      have c0 : w5.cell? ⟨w.heap.size, 0, none⟩ = some (.int .i64 x.kind) := five_at (unhide Q1) _ _ rfl
      have d0 : w5.cell? ⟨w.heap.size + 1, 0, none⟩ = some (.int .i64 x.kind) := five_at (unhide Q2) _ _ rfl
      have c1 : w5.cell? ⟨w.heap.size, 1, none⟩ = some (.int .i64 0) := five_at (unhide Q1) _ _ rfl
      have d1 : w5.cell? ⟨w.heap.size + 1, 1, none⟩ = some (.int .i64 0) := five_at (unhide Q2) _ _ rfl
      have c2 : w5.cell? ⟨w.heap.size, 2, none⟩ = some (.string ⟨#[]⟩) := five_at (unhide Q1) _ _ rfl
      have d2 : w5.cell? ⟨w.heap.size + 1, 2, none⟩ = some (.string ⟨#[]⟩) := five_at (unhide Q2) _ _ rfl
      have c3 : w5.cell? ⟨w.heap.size, 3, none⟩ = some (.bool false) := five_at (unhide Q1) _ _ rfl
      have d3 : w5.cell? ⟨w.heap.size + 1, 3, none⟩ = some (.bool false) := five_at (unhide Q2) _ _ rfl
      have c4 : w5.cell? ⟨w.heap.size, 4, none⟩ = some (.int .i64 0) := five_at (unhide Q1) _ _ rfl
      have d4 : w5.cell? ⟨w.heap.size + 1, 4, none⟩ = some (.int .i64 0) := five_at (unhide Q2) _ _ rfl
      have f0 := five_f (unhide Q1) 0
      have g0 := five_f (unhide Q2) 0
      have f1 := five_f (unhide Q1) 1
      have g1 := five_f (unhide Q2) 1
      have f2 := five_f (unhide Q1) 2
      have g2 := five_f (unhide Q2) 2
      have f3 := five_f (unhide Q1) 3
      have g3 := five_f (unhide Q2) 3
      have f4 := five_f (unhide Q1) 4
      have g4 := five_f (unhide Q2) 4
      have k0 : x.kind = 0 := by rw [beq_iff_eq] at k5; exact k5
      have m1 : (x.kind == 1) = false := by rw [k0]; rfl
      have m2 : (x.kind == 2) = false := by rw [k0]; rfl
      have m3 : (x.kind == 3) = false := by rw [k0]; rfl
      clear k0
      go_wp2
      go_ret2
      first | exact ⟨pair_n (unhide E), unhide HB2⟩ | exact ⟨pair_n (unhide E), (unhide HB2).drew⟩

theorem order_ref (a b : Vl) (w : World) (ha : a.text.size ≤ 1000) (hb : b.text.size ≤ 1000) :
    Calls Tryd.prog 27 #[.agg a.cells, .agg b.cells] w fun e w' => e = .returned (.tuple #[.int .i64 (ordV3 (vSound a) (vSound b)).1, .int .i64 (ordV3 (vSound a) (vSound b)).2]) ∧ Below w.heap.size w w' := by
  by_cases k1 : (vSound a).kind = 4
  · exact order_err a b w ha hb (Or.inl k1)
  · by_cases k2 : (vSound b).kind = 4
    · exact order_err a b w ha hb (Or.inr k2)
    · exact order_ne a b w ha hb _ _ rfl rfl (by rw [beq_eq_false_iff_ne]; exact k1) (by rw [beq_eq_false_iff_ne]; exact k2)
end Go.Proofs.YteaodfeaidjcnaaDoor
