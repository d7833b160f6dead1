/- The contract of corners. -/
import Derived.BigRegion
import Derived.Test.YtlgmpoofcdkaeaaDoorAdN
namespace Go.Proofs.YtlgmpoofcdkaeaaDoor
open Go.RowKit

theorem results_c2 {P : Program} {fn : Func} {p q : Tmp} {ty ty' : TypeId} (h : fn.results = #[.cell p ty, .cell q ty']) (tmps : Array Value) (w : World) (g g' : Nat) (t t' : TypeId) (cs cs' : Array Value) (d d' : TypeDesc)
    (hp : tmps.getD p undef = .pointer (some ⟨g, 0, none⟩)) (hg : CellsAt w g t cs)
    (hu : P.underlying ty = some d) (hd : (match d with | .struct _ | .array _ _ => true | _ => false) = true) (hi : (P.info? ty).map (·.size) = some cs.size)
    (hp' : tmps.getD q undef = .pointer (some ⟨g', 0, none⟩)) (hg' : CellsAt w g' t' cs')
    (hu' : P.underlying ty' = some d') (hd' : (match d' with | .struct _ | .array _ _ => true | _ => false) = true) (hi' : (P.info? ty').map (·.size) = some cs'.size) :
    (results fn tmps).run P w = .ok (.tuple #[.agg cs, .agg cs']) w := by
  have hp2 : tmps[p]?.getD undef = .pointer (some ⟨g, 0, none⟩) := by simpa using hp
  have hp3 : tmps[q]?.getD undef = .pointer (some ⟨g', 0, none⟩) := by simpa using hp'
  simp [results, h, hp2, hp3, asAddr, run_loadVar_row w g t ty cs (0, 0) d hg hu hd hi, run_loadVar_row w g' t' ty' cs' (0, 0) d' hg' hu' hd' hi']
/-- The rows of corners in a world. -/
structure CornAt (w wx : World) (F T : Nat) (p q r t : Array Value) : Prop where
  p : CellsAt wx w.heap.size 29 p
  q : CellsAt wx (w.heap.size + 1) 29 q
  r0 : CellsAt wx (w.heap.size + 1 + 1) 29 #[.int .i64 0, .int .i64 0, .bool false, .bool false]
  r1 : CellsAt wx (w.heap.size + 1 + 1 + 1) 29 #[.int .i64 0, .int .i64 0, .bool false, .bool false]
  f : CellsAt wx F 29 r
  t : CellsAt wx T 29 t
  hb : Below w.heap.size w wx
  ne : F ≠ T
  fl : w.heap.size + 3 < F
  tl : w.heap.size + 3 < T
theorem CornAt.set {w wx : World} {F T : Nat} {p q r t : Array Value} (h : CornAt w wx F T p q r t) (i : Nat) (x y : Value) :
    CornAt w ((wx.setCell ⟨F, i, none⟩ x).setCell ⟨T, i, none⟩ y) F T p q (r.setIfInBounds i x) (t.setIfInBounds i y) where
  p := cells_set_far (cells_set_far h.p (by have := h.fl; omega) i x) (by have := h.tl; omega) i y
  q := cells_set_far (cells_set_far h.q (by have := h.fl; omega) i x) (by have := h.tl; omega) i y
  r0 := cells_set_far (cells_set_far h.r0 (by have := h.fl; omega) i x) (by have := h.tl; omega) i y
  r1 := cells_set_far (cells_set_far h.r1 (by have := h.fl; omega) i x) (by have := h.tl; omega) i y
  f := cells_set_far (cells_set h.f i x) h.ne i y
  t := cells_set (cells_set_far h.t (Ne.symm h.ne) i x) i y
  hb := below_set (below_set h.hb (by have := h.fl; omega) x) (by have := h.tl; omega) y
  ne := h.ne
  fl := h.fl
  tl := h.tl
theorem CornAt.drew {w wx : World} {F T : Nat} {p q r t : Array Value} (h : CornAt w wx F T p q r t) : CornAt w wx.drew F T p q r t := ⟨h.p, h.q, h.r0, h.r1, h.f, h.t, h.hb.drew, h.ne, h.fl, h.tl⟩
theorem cells_new4 (w : World) (o p q : Obj) (t : TypeId) (cs : Array Value) : CellsAt ((((w.alloc o).alloc p).alloc q).alloc (.cells cs t)) (w.heap.size + 3) t cs := by
  unfold CellsAt
  show ((((w.heap.push o).push p).push q).push _)[w.heap.size + 3]? = _
  rw [Array.getElem?_push, if_pos (by simp)]
theorem cells_new5 (w : World) (o p q r : Obj) (t : TypeId) (cs : Array Value) : CellsAt (((((w.alloc o).alloc p).alloc q).alloc r).alloc (.cells cs t)) (w.heap.size + 4) t cs := by
  unfold CellsAt
  show (((((w.heap.push o).push p).push q).push r).push _)[w.heap.size + 4]? = _
  rw [Array.getElem?_push, if_pos (by simp)]
theorem cells_new6 (w : World) (o p q r u : Obj) (t : TypeId) (cs : Array Value) : CellsAt ((((((w.alloc o).alloc p).alloc q).alloc r).alloc u).alloc (.cells cs t)) (w.heap.size + 5) t cs := by
  unfold CellsAt
  show ((((((w.heap.push o).push p).push q).push r).push u).push _)[w.heap.size + 5]? = _
  rw [Array.getElem?_push, if_pos (by simp)]
theorem below_al6 (w : World) (o p q r u v : Obj) : Below w.heap.size w ((((((w.alloc o).alloc p).alloc q).alloc r).alloc u).alloc v) :=
  ((((below_al3 w o p q).alloc (below_al3 w o p q).size r).alloc (by simp; omega) u).alloc (by simp; omega) v)

set_option maxRecDepth 100000 in
set_option maxHeartbeats 4000000 in
theorem corners_val (a b : Int) (f1 f2 : Bool) (c d : Int) (f3 f4 : Bool) (w : World) :
    Calls Tryd.prog 50 #[.agg #[.int .i64 a, .int .i64 b, .bool f1, .bool f2], .agg #[.int .i64 c, .int .i64 d, .bool f3, .bool f4]] w fun e w' => e = .returned (.tuple #[.agg (cornA ⟨a, b, f1, f2⟩ ⟨c, d, f3, f4⟩).cells, .agg (cornB ⟨a, b, f1, f2⟩ ⟨c, d, f3, f4⟩).cells]) ∧ Below w.heap.size w w' := by
  obtain ⟨ra, hra⟩ : ∃ x, (cornA ⟨a, b, f1, f2⟩ ⟨c, d, f3, f4⟩).cells = x := ⟨_, rfl⟩
  obtain ⟨rb, hrb⟩ : ∃ x, (cornB ⟨a, b, f1, f2⟩ ⟨c, d, f3, f4⟩).cells = x := ⟨_, rfl⟩
  rw [hra, hrb]
  have HR := hide (And.intro hra hrb)
  clear hra hrb
  go_enter Tryd.func50, Tryd.ntmps50
  go_upto_region 1 with fail
  have P := hide (cells_al (cells_al (cells_al (cells_new w 29 #[.int .i64 a, .int .i64 b, .bool f1, .bool f2]) (.cells #[.int .i64 c, .int .i64 d, .bool f3, .bool f4] 29)) (.cells #[.int .i64 0, .int .i64 0, .bool false, .bool false] 29)) (.cells #[.int .i64 0, .int .i64 0, .bool false, .bool false] 29))
  have Q := hide (cells_al (cells_al (cells_new2 w (.cells #[.int .i64 a, .int .i64 b, .bool f1, .bool f2] 29) 29 #[.int .i64 c, .int .i64 d, .bool f3, .bool f4]) (.cells #[.int .i64 0, .int .i64 0, .bool false, .bool false] 29)) (.cells #[.int .i64 0, .int .i64 0, .bool false, .bool false] 29))
  have R0 := hide (cells_al (cells_new3 w (.cells #[.int .i64 a, .int .i64 b, .bool f1, .bool f2] 29) (.cells #[.int .i64 c, .int .i64 d, .bool f3, .bool f4] 29) 29 #[.int .i64 0, .int .i64 0, .bool false, .bool false]) (.cells #[.int .i64 0, .int .i64 0, .bool false, .bool false] 29))
  have R1 := hide (cells_new4 w (.cells #[.int .i64 a, .int .i64 b, .bool f1, .bool f2] 29) (.cells #[.int .i64 c, .int .i64 d, .bool f3, .bool f4] 29) (.cells #[.int .i64 0, .int .i64 0, .bool false, .bool false] 29) 29 #[.int .i64 0, .int .i64 0, .bool false, .bool false])
  go_cut [6, 7] from 8 to 9 (fun v6 v7 wx => ∃ F T : Nat, v6 = .pointer (some ⟨F, 0, none⟩) ∧ v7 = .pointer (some ⟨T, 0, none⟩) ∧ Hid (CornAt w wx F T #[.int .i64 a, .int .i64 b, .bool f1, .bool f2] #[.int .i64 c, .int .i64 d, .bool f3, .bool f4] #[.int .i64 a, .int .i64 b, .bool f1, .bool f2] #[.int .i64 c, .int .i64 d, .bool f3, .bool f4]))
  case first =>
    go_region
    all_goals (try go_wp2_with fail)
    all_goals go_meet
    case rel => exact ⟨_, _, rfl, rfl, hide ⟨cells_drew (cells_al (cells_al (unhide P) _) _), cells_drew (cells_al (cells_al (unhide Q) _) _), cells_drew (cells_al (cells_al (unhide R0) _) _), cells_drew (cells_al (cells_al (unhide R1) _) _), cells_drew (cells_al (cells_new5 w _ _ _ _ _ _) _), cells_drew (cells_new6 w _ _ _ _ _ _ _), (below_al6 w _ _ _ _ _ _).drew, by omega, by omega, by omega⟩⟩
    case rel => exact ⟨_, _, rfl, rfl, hide ⟨cells_drew (cells_al (cells_al (unhide P) _) _), cells_drew (cells_al (cells_al (unhide Q) _) _), cells_drew (cells_al (cells_al (unhide R0) _) _), cells_drew (cells_al (cells_al (unhide R1) _) _), cells_drew (cells_new6 w _ _ _ _ _ _ _), cells_drew (cells_al (cells_new5 w _ _ _ _ _ _) _), (below_al6 w _ _ _ _ _ _).drew, by omega, by omega, by omega⟩⟩
  case rest =>
    obtain ⟨F, T, rfl, rfl, K⟩ := hcut
    clear P Q R0 R1
    have n1 : F ≠ w.heap.size := by have := (unhide K).fl; omega
    have n2 : F ≠ w.heap.size + 1 := by have := (unhide K).fl; omega
    have n3 : F ≠ w.heap.size + 1 + 1 := by have := (unhide K).fl; omega
    have n4 : F ≠ w.heap.size + 1 + 1 + 1 := by have := (unhide K).fl; omega
    have n5 : T ≠ w.heap.size := by have := (unhide K).tl; omega
    have n6 : T ≠ w.heap.size + 1 := by have := (unhide K).tl; omega
    have n7 : T ≠ w.heap.size + 1 + 1 := by have := (unhide K).tl; omega
    have n8 : T ≠ w.heap.size + 1 + 1 + 1 := by have := (unhide K).tl; omega
    have n9 : F ≠ T := (unhide K).ne
    by_cases hc : c < a
    · by_cases hd : d < b
      · have HE := hide (And.intro hc hd)
        obtain ⟨p_0, p_1, p_2, p_3⟩ := cells4 (unhide K).p
        obtain ⟨q_0, q_1, q_2, q_3⟩ := cells4 (unhide K).q
        go_upto_region 3 with fail
        clear p_0 p_1 p_2 p_3 q_0 q_1 q_2 q_3
        obtain ⟨p_0, p_1, p_2, p_3⟩ := cells4 (unhide K).p
        obtain ⟨q_0, q_1, q_2, q_3⟩ := cells4 (unhide K).q
        have hf := cells_f (unhide K).f 0
        have ht := cells_f (unhide K).t 0
        obtain ⟨a_0, a_1, a_2, a_3⟩ := cells4 (unhide K).f
        obtain ⟨b_0, b_1, b_2, b_3⟩ := cells4 (unhide K).t
        have S0 := hide (And.intro (cells4 (cells_drew (unhide K).p)).1 (cells4 (cells_drew (unhide K).q)).1)
        have S1 := hide (And.intro (cells4 (cells_drew (cells_set_far (unhide K).p (Ne.symm n1) 0 (.int .i64 c)))).1 (cells4 (cells_drew (cells_set_far (unhide K).q (Ne.symm n2) 0 (.int .i64 c)))).1)
        have S2 := hide (And.intro (cells4 (cells_drew (cells_set_far (cells_set_far (unhide K).p (Ne.symm n1) 0 (.int .i64 c)) (Ne.symm n5) 0 (.int .i64 a)))).1 (cells4 (cells_drew (cells_set_far (cells_set_far (unhide K).q (Ne.symm n2) 0 (.int .i64 c)) (Ne.symm n6) 0 (.int .i64 a)))).1)
        go_region_held3 (fun w' => w'.cell? ⟨w.heap.size, 0, none⟩ = some (.int .i64 a) ∧ w'.cell? ⟨w.heap.size + 1, 0, none⟩ = some (.int .i64 c)) (first | with_reducible exact unhide S0 | with_reducible exact unhide S1 | with_reducible exact unhide S2) (fail)
        clear p_0 p_1 p_2 p_3 q_0 q_1 q_2 q_3 hf ht a_0 a_1 a_2 a_3 b_0 b_1 b_2 b_3 S0 S1 S2
        replace K := hide ((unhide K).set 0 (.int .i64 c) (.int .i64 a)).drew
        go_upto_region 4 with fail
        generalize hW : ((wc.setCell ⟨F, 0, none⟩ (.int .i64 c)).setCell ⟨T, 0, none⟩ (.int .i64 a)).drew = WW at K ⊢
        clear hW
        obtain ⟨p_0, p_1, p_2, p_3⟩ := cells4 (unhide K).p
        obtain ⟨q_0, q_1, q_2, q_3⟩ := cells4 (unhide K).q
        have hf := cells_f (unhide K).f 2
        have ht := cells_f (unhide K).t 2
        obtain ⟨a_0, a_1, a_2, a_3⟩ := cells4 (unhide K).f
        obtain ⟨b_0, b_1, b_2, b_3⟩ := cells4 (unhide K).t
        have S0 := hide (And.intro (cells4 (cells_drew (unhide K).p)).2.2.1 (cells4 (cells_drew (unhide K).q)).2.2.1)
        have S1 := hide (And.intro (cells4 (cells_drew (cells_set_far (unhide K).p (Ne.symm n1) 2 (.bool f3)))).2.2.1 (cells4 (cells_drew (cells_set_far (unhide K).q (Ne.symm n2) 2 (.bool f3)))).2.2.1)
        have S2 := hide (And.intro (cells4 (cells_drew (cells_set_far (cells_set_far (unhide K).p (Ne.symm n1) 2 (.bool f3)) (Ne.symm n5) 2 (.bool f1)))).2.2.1 (cells4 (cells_drew (cells_set_far (cells_set_far (unhide K).q (Ne.symm n2) 2 (.bool f3)) (Ne.symm n6) 2 (.bool f1)))).2.2.1)
        go_region_held3 (fun w' => w'.cell? ⟨w.heap.size, 2, none⟩ = some (.bool f1) ∧ w'.cell? ⟨w.heap.size + 1, 2, none⟩ = some (.bool f3)) (first | with_reducible exact unhide S0 | with_reducible exact unhide S1 | with_reducible exact unhide S2) (fail)
        clear p_0 p_1 p_2 p_3 q_0 q_1 q_2 q_3 hf ht a_0 a_1 a_2 a_3 b_0 b_1 b_2 b_3 S0 S1 S2
        replace K := hide ((unhide K).set 2 (.bool f3) (.bool f1)).drew
        go_upto_region 5 with fail
        generalize hW : ((WW.setCell ⟨F, 2, none⟩ (.bool f3)).setCell ⟨T, 2, none⟩ (.bool f1)).drew = WW at K ⊢
        clear hW
        obtain ⟨p_0, p_1, p_2, p_3⟩ := cells4 (unhide K).p
        obtain ⟨q_0, q_1, q_2, q_3⟩ := cells4 (unhide K).q
        go_upto_region 6 with fail
        clear p_0 p_1 p_2 p_3 q_0 q_1 q_2 q_3
        obtain ⟨p_0, p_1, p_2, p_3⟩ := cells4 (unhide K).p
        obtain ⟨q_0, q_1, q_2, q_3⟩ := cells4 (unhide K).q
        have hf := cells_f (unhide K).f 1
        have ht := cells_f (unhide K).t 1
        obtain ⟨a_0, a_1, a_2, a_3⟩ := cells4 (unhide K).f
        obtain ⟨b_0, b_1, b_2, b_3⟩ := cells4 (unhide K).t
        have S0 := hide (And.intro (cells4 (cells_drew (unhide K).p)).2.1 (cells4 (cells_drew (unhide K).q)).2.1)
        have S1 := hide (And.intro (cells4 (cells_drew (cells_set_far (unhide K).p (Ne.symm n1) 1 (.int .i64 d)))).2.1 (cells4 (cells_drew (cells_set_far (unhide K).q (Ne.symm n2) 1 (.int .i64 d)))).2.1)
        have S2 := hide (And.intro (cells4 (cells_drew (cells_set_far (cells_set_far (unhide K).p (Ne.symm n1) 1 (.int .i64 d)) (Ne.symm n5) 1 (.int .i64 b)))).2.1 (cells4 (cells_drew (cells_set_far (cells_set_far (unhide K).q (Ne.symm n2) 1 (.int .i64 d)) (Ne.symm n6) 1 (.int .i64 b)))).2.1)
        go_region_held3 (fun w' => w'.cell? ⟨w.heap.size, 1, none⟩ = some (.int .i64 b) ∧ w'.cell? ⟨w.heap.size + 1, 1, none⟩ = some (.int .i64 d)) (first | with_reducible exact unhide S0 | with_reducible exact unhide S1 | with_reducible exact unhide S2) (fail)
        clear p_0 p_1 p_2 p_3 q_0 q_1 q_2 q_3 hf ht a_0 a_1 a_2 a_3 b_0 b_1 b_2 b_3 S0 S1 S2
        replace K := hide ((unhide K).set 1 (.int .i64 d) (.int .i64 b)).drew
        go_upto_region 7 with fail
        generalize hW : ((WW.setCell ⟨F, 1, none⟩ (.int .i64 d)).setCell ⟨T, 1, none⟩ (.int .i64 b)).drew = WW at K ⊢
        clear hW
        obtain ⟨p_0, p_1, p_2, p_3⟩ := cells4 (unhide K).p
        obtain ⟨q_0, q_1, q_2, q_3⟩ := cells4 (unhide K).q
        have hf := cells_f (unhide K).f 3
        have ht := cells_f (unhide K).t 3
        obtain ⟨a_0, a_1, a_2, a_3⟩ := cells4 (unhide K).f
        obtain ⟨b_0, b_1, b_2, b_3⟩ := cells4 (unhide K).t
        have S0 := hide (And.intro (cells4 (cells_drew (unhide K).p)).2.2.2 (cells4 (cells_drew (unhide K).q)).2.2.2)
        have S1 := hide (And.intro (cells4 (cells_drew (cells_set_far (unhide K).p (Ne.symm n1) 3 (.bool f4)))).2.2.2 (cells4 (cells_drew (cells_set_far (unhide K).q (Ne.symm n2) 3 (.bool f4)))).2.2.2)
        have S2 := hide (And.intro (cells4 (cells_drew (cells_set_far (cells_set_far (unhide K).p (Ne.symm n1) 3 (.bool f4)) (Ne.symm n5) 3 (.bool f2)))).2.2.2 (cells4 (cells_drew (cells_set_far (cells_set_far (unhide K).q (Ne.symm n2) 3 (.bool f4)) (Ne.symm n6) 3 (.bool f2)))).2.2.2)
        go_region_held3 (fun w' => w'.cell? ⟨w.heap.size, 3, none⟩ = some (.bool f2) ∧ w'.cell? ⟨w.heap.size + 1, 3, none⟩ = some (.bool f4)) (first | with_reducible exact unhide S0 | with_reducible exact unhide S1 | with_reducible exact unhide S2) (fail)
        clear p_0 p_1 p_2 p_3 q_0 q_1 q_2 q_3 hf ht a_0 a_1 a_2 a_3 b_0 b_1 b_2 b_3 S0 S1 S2
        replace K := hide ((unhide K).set 3 (.bool f4) (.bool f2)).drew
        go_upto_region 8 with fail
        generalize hW : ((WW.setCell ⟨F, 3, none⟩ (.bool f4)).setCell ⟨T, 3, none⟩ (.bool f2)).drew = WW at K ⊢
        clear hW
        obtain ⟨f_0, f_1, f_2, f_3⟩ := cells4 (unhide K).f
        obtain ⟨t_0, t_1, t_2, t_3⟩ := cells4 (unhide K).t
        obtain ⟨x_0, x_1, x_2, x_3⟩ := cells4 (unhide K).r0
        obtain ⟨y_0, y_1, y_2, y_3⟩ := cells4 (unhide K).r1
        have hx0 := cells_f (unhide K).r0 0
        have hy0 := cells_f (unhide K).r1 0
        have hx1 := cells_f (unhide K).r0 1
        have hy1 := cells_f (unhide K).r1 1
        have hx2 := cells_f (unhide K).r0 2
        have hy2 := cells_f (unhide K).r1 2
        have hx3 := cells_f (unhide K).r0 3
        have hy3 := cells_f (unhide K).r1 3
        have S0 : Hid (WW.drew.cell? ⟨F, 0, none⟩ = some (.int .i64 c) ∧ WW.drew.cell? ⟨F, 1, none⟩ = some (.int .i64 d) ∧ WW.drew.cell? ⟨F, 2, none⟩ = some (.bool f3) ∧ WW.drew.cell? ⟨F, 3, none⟩ = some (.bool f4) ∧ WW.drew.cell? ⟨T, 0, none⟩ = some (.int .i64 a) ∧ WW.drew.cell? ⟨T, 1, none⟩ = some (.int .i64 b) ∧ WW.drew.cell? ⟨T, 2, none⟩ = some (.bool f1) ∧ WW.drew.cell? ⟨T, 3, none⟩ = some (.bool f2)) := hide ⟨(cells4 (cells_drew ((unhide K).f))).1, (cells4 (cells_drew ((unhide K).f))).2.1, (cells4 (cells_drew ((unhide K).f))).2.2.1, (cells4 (cells_drew ((unhide K).f))).2.2.2, (cells4 (cells_drew ((unhide K).t))).1, (cells4 (cells_drew ((unhide K).t))).2.1, (cells4 (cells_drew ((unhide K).t))).2.2.1, (cells4 (cells_drew ((unhide K).t))).2.2.2⟩
        have S1 : Hid (((((WW.setCell ⟨w.heap.size + 1 + 1, 0, none⟩ (.int .i64 c)).setCell ⟨w.heap.size + 1 + 1, 1, none⟩ (.int .i64 d)).setCell ⟨w.heap.size + 1 + 1, 2, none⟩ (.bool f3)).setCell ⟨w.heap.size + 1 + 1, 3, none⟩ (.bool f4)).drew.cell? ⟨F, 0, none⟩ = some (.int .i64 c) ∧ ((((WW.setCell ⟨w.heap.size + 1 + 1, 0, none⟩ (.int .i64 c)).setCell ⟨w.heap.size + 1 + 1, 1, none⟩ (.int .i64 d)).setCell ⟨w.heap.size + 1 + 1, 2, none⟩ (.bool f3)).setCell ⟨w.heap.size + 1 + 1, 3, none⟩ (.bool f4)).drew.cell? ⟨F, 1, none⟩ = some (.int .i64 d) ∧ ((((WW.setCell ⟨w.heap.size + 1 + 1, 0, none⟩ (.int .i64 c)).setCell ⟨w.heap.size + 1 + 1, 1, none⟩ (.int .i64 d)).setCell ⟨w.heap.size + 1 + 1, 2, none⟩ (.bool f3)).setCell ⟨w.heap.size + 1 + 1, 3, none⟩ (.bool f4)).drew.cell? ⟨F, 2, none⟩ = some (.bool f3) ∧ ((((WW.setCell ⟨w.heap.size + 1 + 1, 0, none⟩ (.int .i64 c)).setCell ⟨w.heap.size + 1 + 1, 1, none⟩ (.int .i64 d)).setCell ⟨w.heap.size + 1 + 1, 2, none⟩ (.bool f3)).setCell ⟨w.heap.size + 1 + 1, 3, none⟩ (.bool f4)).drew.cell? ⟨F, 3, none⟩ = some (.bool f4) ∧ ((((WW.setCell ⟨w.heap.size + 1 + 1, 0, none⟩ (.int .i64 c)).setCell ⟨w.heap.size + 1 + 1, 1, none⟩ (.int .i64 d)).setCell ⟨w.heap.size + 1 + 1, 2, none⟩ (.bool f3)).setCell ⟨w.heap.size + 1 + 1, 3, none⟩ (.bool f4)).drew.cell? ⟨T, 0, none⟩ = some (.int .i64 a) ∧ ((((WW.setCell ⟨w.heap.size + 1 + 1, 0, none⟩ (.int .i64 c)).setCell ⟨w.heap.size + 1 + 1, 1, none⟩ (.int .i64 d)).setCell ⟨w.heap.size + 1 + 1, 2, none⟩ (.bool f3)).setCell ⟨w.heap.size + 1 + 1, 3, none⟩ (.bool f4)).drew.cell? ⟨T, 1, none⟩ = some (.int .i64 b) ∧ ((((WW.setCell ⟨w.heap.size + 1 + 1, 0, none⟩ (.int .i64 c)).setCell ⟨w.heap.size + 1 + 1, 1, none⟩ (.int .i64 d)).setCell ⟨w.heap.size + 1 + 1, 2, none⟩ (.bool f3)).setCell ⟨w.heap.size + 1 + 1, 3, none⟩ (.bool f4)).drew.cell? ⟨T, 2, none⟩ = some (.bool f1) ∧ ((((WW.setCell ⟨w.heap.size + 1 + 1, 0, none⟩ (.int .i64 c)).setCell ⟨w.heap.size + 1 + 1, 1, none⟩ (.int .i64 d)).setCell ⟨w.heap.size + 1 + 1, 2, none⟩ (.bool f3)).setCell ⟨w.heap.size + 1 + 1, 3, none⟩ (.bool f4)).drew.cell? ⟨T, 3, none⟩ = some (.bool f2)) := hide ⟨(cells4 (cells_drew (cells_far4 (unhide K).f n3 (.int .i64 c) (.int .i64 d) (.bool f3) (.bool f4)))).1, (cells4 (cells_drew (cells_far4 (unhide K).f n3 (.int .i64 c) (.int .i64 d) (.bool f3) (.bool f4)))).2.1, (cells4 (cells_drew (cells_far4 (unhide K).f n3 (.int .i64 c) (.int .i64 d) (.bool f3) (.bool f4)))).2.2.1, (cells4 (cells_drew (cells_far4 (unhide K).f n3 (.int .i64 c) (.int .i64 d) (.bool f3) (.bool f4)))).2.2.2, (cells4 (cells_drew (cells_far4 (unhide K).t n7 (.int .i64 c) (.int .i64 d) (.bool f3) (.bool f4)))).1, (cells4 (cells_drew (cells_far4 (unhide K).t n7 (.int .i64 c) (.int .i64 d) (.bool f3) (.bool f4)))).2.1, (cells4 (cells_drew (cells_far4 (unhide K).t n7 (.int .i64 c) (.int .i64 d) (.bool f3) (.bool f4)))).2.2.1, (cells4 (cells_drew (cells_far4 (unhide K).t n7 (.int .i64 c) (.int .i64 d) (.bool f3) (.bool f4)))).2.2.2⟩
        have S2 : Hid (((((((((WW.setCell ⟨w.heap.size + 1 + 1, 0, none⟩ (.int .i64 c)).setCell ⟨w.heap.size + 1 + 1, 1, none⟩ (.int .i64 d)).setCell ⟨w.heap.size + 1 + 1, 2, none⟩ (.bool f3)).setCell ⟨w.heap.size + 1 + 1, 3, none⟩ (.bool f4)).setCell ⟨w.heap.size + 1 + 1 + 1, 0, none⟩ (.int .i64 a)).setCell ⟨w.heap.size + 1 + 1 + 1, 1, none⟩ (.int .i64 b)).setCell ⟨w.heap.size + 1 + 1 + 1, 2, none⟩ (.bool f1)).setCell ⟨w.heap.size + 1 + 1 + 1, 3, none⟩ (.bool f2)).drew.cell? ⟨F, 0, none⟩ = some (.int .i64 c) ∧ ((((((((WW.setCell ⟨w.heap.size + 1 + 1, 0, none⟩ (.int .i64 c)).setCell ⟨w.heap.size + 1 + 1, 1, none⟩ (.int .i64 d)).setCell ⟨w.heap.size + 1 + 1, 2, none⟩ (.bool f3)).setCell ⟨w.heap.size + 1 + 1, 3, none⟩ (.bool f4)).setCell ⟨w.heap.size + 1 + 1 + 1, 0, none⟩ (.int .i64 a)).setCell ⟨w.heap.size + 1 + 1 + 1, 1, none⟩ (.int .i64 b)).setCell ⟨w.heap.size + 1 + 1 + 1, 2, none⟩ (.bool f1)).setCell ⟨w.heap.size + 1 + 1 + 1, 3, none⟩ (.bool f2)).drew.cell? ⟨F, 1, none⟩ = some (.int .i64 d) ∧ ((((((((WW.setCell ⟨w.heap.size + 1 + 1, 0, none⟩ (.int .i64 c)).setCell ⟨w.heap.size + 1 + 1, 1, none⟩ (.int .i64 d)).setCell ⟨w.heap.size + 1 + 1, 2, none⟩ (.bool f3)).setCell ⟨w.heap.size + 1 + 1, 3, none⟩ (.bool f4)).setCell ⟨w.heap.size + 1 + 1 + 1, 0, none⟩ (.int .i64 a)).setCell ⟨w.heap.size + 1 + 1 + 1, 1, none⟩ (.int .i64 b)).setCell ⟨w.heap.size + 1 + 1 + 1, 2, none⟩ (.bool f1)).setCell ⟨w.heap.size + 1 + 1 + 1, 3, none⟩ (.bool f2)).drew.cell? ⟨F, 2, none⟩ = some (.bool f3) ∧ ((((((((WW.setCell ⟨w.heap.size + 1 + 1, 0, none⟩ (.int .i64 c)).setCell ⟨w.heap.size + 1 + 1, 1, none⟩ (.int .i64 d)).setCell ⟨w.heap.size + 1 + 1, 2, none⟩ (.bool f3)).setCell ⟨w.heap.size + 1 + 1, 3, none⟩ (.bool f4)).setCell ⟨w.heap.size + 1 + 1 + 1, 0, none⟩ (.int .i64 a)).setCell ⟨w.heap.size + 1 + 1 + 1, 1, none⟩ (.int .i64 b)).setCell ⟨w.heap.size + 1 + 1 + 1, 2, none⟩ (.bool f1)).setCell ⟨w.heap.size + 1 + 1 + 1, 3, none⟩ (.bool f2)).drew.cell? ⟨F, 3, none⟩ = some (.bool f4) ∧ ((((((((WW.setCell ⟨w.heap.size + 1 + 1, 0, none⟩ (.int .i64 c)).setCell ⟨w.heap.size + 1 + 1, 1, none⟩ (.int .i64 d)).setCell ⟨w.heap.size + 1 + 1, 2, none⟩ (.bool f3)).setCell ⟨w.heap.size + 1 + 1, 3, none⟩ (.bool f4)).setCell ⟨w.heap.size + 1 + 1 + 1, 0, none⟩ (.int .i64 a)).setCell ⟨w.heap.size + 1 + 1 + 1, 1, none⟩ (.int .i64 b)).setCell ⟨w.heap.size + 1 + 1 + 1, 2, none⟩ (.bool f1)).setCell ⟨w.heap.size + 1 + 1 + 1, 3, none⟩ (.bool f2)).drew.cell? ⟨T, 0, none⟩ = some (.int .i64 a) ∧ ((((((((WW.setCell ⟨w.heap.size + 1 + 1, 0, none⟩ (.int .i64 c)).setCell ⟨w.heap.size + 1 + 1, 1, none⟩ (.int .i64 d)).setCell ⟨w.heap.size + 1 + 1, 2, none⟩ (.bool f3)).setCell ⟨w.heap.size + 1 + 1, 3, none⟩ (.bool f4)).setCell ⟨w.heap.size + 1 + 1 + 1, 0, none⟩ (.int .i64 a)).setCell ⟨w.heap.size + 1 + 1 + 1, 1, none⟩ (.int .i64 b)).setCell ⟨w.heap.size + 1 + 1 + 1, 2, none⟩ (.bool f1)).setCell ⟨w.heap.size + 1 + 1 + 1, 3, none⟩ (.bool f2)).drew.cell? ⟨T, 1, none⟩ = some (.int .i64 b) ∧ ((((((((WW.setCell ⟨w.heap.size + 1 + 1, 0, none⟩ (.int .i64 c)).setCell ⟨w.heap.size + 1 + 1, 1, none⟩ (.int .i64 d)).setCell ⟨w.heap.size + 1 + 1, 2, none⟩ (.bool f3)).setCell ⟨w.heap.size + 1 + 1, 3, none⟩ (.bool f4)).setCell ⟨w.heap.size + 1 + 1 + 1, 0, none⟩ (.int .i64 a)).setCell ⟨w.heap.size + 1 + 1 + 1, 1, none⟩ (.int .i64 b)).setCell ⟨w.heap.size + 1 + 1 + 1, 2, none⟩ (.bool f1)).setCell ⟨w.heap.size + 1 + 1 + 1, 3, none⟩ (.bool f2)).drew.cell? ⟨T, 2, none⟩ = some (.bool f1) ∧ ((((((((WW.setCell ⟨w.heap.size + 1 + 1, 0, none⟩ (.int .i64 c)).setCell ⟨w.heap.size + 1 + 1, 1, none⟩ (.int .i64 d)).setCell ⟨w.heap.size + 1 + 1, 2, none⟩ (.bool f3)).setCell ⟨w.heap.size + 1 + 1, 3, none⟩ (.bool f4)).setCell ⟨w.heap.size + 1 + 1 + 1, 0, none⟩ (.int .i64 a)).setCell ⟨w.heap.size + 1 + 1 + 1, 1, none⟩ (.int .i64 b)).setCell ⟨w.heap.size + 1 + 1 + 1, 2, none⟩ (.bool f1)).setCell ⟨w.heap.size + 1 + 1 + 1, 3, none⟩ (.bool f2)).drew.cell? ⟨T, 3, none⟩ = some (.bool f2)) := hide ⟨(cells4 (cells_drew (cells_far4 (cells_far4 (unhide K).f n3 (.int .i64 c) (.int .i64 d) (.bool f3) (.bool f4)) n4 (.int .i64 a) (.int .i64 b) (.bool f1) (.bool f2)))).1, (cells4 (cells_drew (cells_far4 (cells_far4 (unhide K).f n3 (.int .i64 c) (.int .i64 d) (.bool f3) (.bool f4)) n4 (.int .i64 a) (.int .i64 b) (.bool f1) (.bool f2)))).2.1, (cells4 (cells_drew (cells_far4 (cells_far4 (unhide K).f n3 (.int .i64 c) (.int .i64 d) (.bool f3) (.bool f4)) n4 (.int .i64 a) (.int .i64 b) (.bool f1) (.bool f2)))).2.2.1, (cells4 (cells_drew (cells_far4 (cells_far4 (unhide K).f n3 (.int .i64 c) (.int .i64 d) (.bool f3) (.bool f4)) n4 (.int .i64 a) (.int .i64 b) (.bool f1) (.bool f2)))).2.2.2, (cells4 (cells_drew (cells_far4 (cells_far4 (unhide K).t n7 (.int .i64 c) (.int .i64 d) (.bool f3) (.bool f4)) n8 (.int .i64 a) (.int .i64 b) (.bool f1) (.bool f2)))).1, (cells4 (cells_drew (cells_far4 (cells_far4 (unhide K).t n7 (.int .i64 c) (.int .i64 d) (.bool f3) (.bool f4)) n8 (.int .i64 a) (.int .i64 b) (.bool f1) (.bool f2)))).2.1, (cells4 (cells_drew (cells_far4 (cells_far4 (unhide K).t n7 (.int .i64 c) (.int .i64 d) (.bool f3) (.bool f4)) n8 (.int .i64 a) (.int .i64 b) (.bool f1) (.bool f2)))).2.2.1, (cells4 (cells_drew (cells_far4 (cells_far4 (unhide K).t n7 (.int .i64 c) (.int .i64 d) (.bool f3) (.bool f4)) n8 (.int .i64 a) (.int .i64 b) (.bool f1) (.bool f2)))).2.2.2⟩
        go_region_held3 (fun w' => w'.cell? ⟨F, 0, none⟩ = some (.int .i64 c) ∧ w'.cell? ⟨F, 1, none⟩ = some (.int .i64 d) ∧ w'.cell? ⟨F, 2, none⟩ = some (.bool f3) ∧ w'.cell? ⟨F, 3, none⟩ = some (.bool f4) ∧ w'.cell? ⟨T, 0, none⟩ = some (.int .i64 a) ∧ w'.cell? ⟨T, 1, none⟩ = some (.int .i64 b) ∧ w'.cell? ⟨T, 2, none⟩ = some (.bool f1) ∧ w'.cell? ⟨T, 3, none⟩ = some (.bool f2)) (first | with_reducible exact unhide S0 | with_reducible exact unhide S1 | with_reducible exact unhide S2) (fail)
        go_wp2
        refine bodyPost_ret (results_c2 rfl _ _ _ _ _ _ _ _ _ _ rfl (cells_drew (cells_far4 (cells_set4 (unhide K).r0 _ _ _ _) (by omega) _ _ _ _)) Tryd.underlying29 rfl (by exact infoR) rfl (cells_drew (cells_set4 (cells_far4 (unhide K).r1 (by omega) _ _ _ _) _ _ _ _)) Tryd.underlying29 rfl (by exact infoR)) rfl ?_
        exact ⟨by rw [← (unhide HR).1, ← (unhide HR).2]; unfold cornA cornB Rf.cells; simp only [if_pos (unhide HE).1, if_pos (unhide HE).2] <;> rfl, (below_set4 (below_set4 (unhide K).hb (by omega) _ _ _ _) (by omega) _ _ _ _).drew⟩
      · replace hd : b ≤ d := by omega
        have HE := hide (And.intro hc hd)
        obtain ⟨p_0, p_1, p_2, p_3⟩ := cells4 (unhide K).p
        obtain ⟨q_0, q_1, q_2, q_3⟩ := cells4 (unhide K).q
        go_upto_region 3 with fail
        clear p_0 p_1 p_2 p_3 q_0 q_1 q_2 q_3
        obtain ⟨p_0, p_1, p_2, p_3⟩ := cells4 (unhide K).p
        obtain ⟨q_0, q_1, q_2, q_3⟩ := cells4 (unhide K).q
        have hf := cells_f (unhide K).f 0
        have ht := cells_f (unhide K).t 0
        obtain ⟨a_0, a_1, a_2, a_3⟩ := cells4 (unhide K).f
        obtain ⟨b_0, b_1, b_2, b_3⟩ := cells4 (unhide K).t
        have S0 := hide (And.intro (cells4 (cells_drew (unhide K).p)).1 (cells4 (cells_drew (unhide K).q)).1)
        have S1 := hide (And.intro (cells4 (cells_drew (cells_set_far (unhide K).p (Ne.symm n1) 0 (.int .i64 c)))).1 (cells4 (cells_drew (cells_set_far (unhide K).q (Ne.symm n2) 0 (.int .i64 c)))).1)
        have S2 := hide (And.intro (cells4 (cells_drew (cells_set_far (cells_set_far (unhide K).p (Ne.symm n1) 0 (.int .i64 c)) (Ne.symm n5) 0 (.int .i64 a)))).1 (cells4 (cells_drew (cells_set_far (cells_set_far (unhide K).q (Ne.symm n2) 0 (.int .i64 c)) (Ne.symm n6) 0 (.int .i64 a)))).1)
        go_region_held3 (fun w' => w'.cell? ⟨w.heap.size, 0, none⟩ = some (.int .i64 a) ∧ w'.cell? ⟨w.heap.size + 1, 0, none⟩ = some (.int .i64 c)) (first | with_reducible exact unhide S0 | with_reducible exact unhide S1 | with_reducible exact unhide S2) (fail)
        clear p_0 p_1 p_2 p_3 q_0 q_1 q_2 q_3 hf ht a_0 a_1 a_2 a_3 b_0 b_1 b_2 b_3 S0 S1 S2
        replace K := hide ((unhide K).set 0 (.int .i64 c) (.int .i64 a)).drew
        go_upto_region 4 with fail
        generalize hW : ((wc.setCell ⟨F, 0, none⟩ (.int .i64 c)).setCell ⟨T, 0, none⟩ (.int .i64 a)).drew = WW at K ⊢
        clear hW
        obtain ⟨p_0, p_1, p_2, p_3⟩ := cells4 (unhide K).p
        obtain ⟨q_0, q_1, q_2, q_3⟩ := cells4 (unhide K).q
        have hf := cells_f (unhide K).f 2
        have ht := cells_f (unhide K).t 2
        obtain ⟨a_0, a_1, a_2, a_3⟩ := cells4 (unhide K).f
        obtain ⟨b_0, b_1, b_2, b_3⟩ := cells4 (unhide K).t
        have S0 := hide (And.intro (cells4 (cells_drew (unhide K).p)).2.2.1 (cells4 (cells_drew (unhide K).q)).2.2.1)
        have S1 := hide (And.intro (cells4 (cells_drew (cells_set_far (unhide K).p (Ne.symm n1) 2 (.bool f3)))).2.2.1 (cells4 (cells_drew (cells_set_far (unhide K).q (Ne.symm n2) 2 (.bool f3)))).2.2.1)
        have S2 := hide (And.intro (cells4 (cells_drew (cells_set_far (cells_set_far (unhide K).p (Ne.symm n1) 2 (.bool f3)) (Ne.symm n5) 2 (.bool f1)))).2.2.1 (cells4 (cells_drew (cells_set_far (cells_set_far (unhide K).q (Ne.symm n2) 2 (.bool f3)) (Ne.symm n6) 2 (.bool f1)))).2.2.1)
        go_region_held3 (fun w' => w'.cell? ⟨w.heap.size, 2, none⟩ = some (.bool f1) ∧ w'.cell? ⟨w.heap.size + 1, 2, none⟩ = some (.bool f3)) (first | with_reducible exact unhide S0 | with_reducible exact unhide S1 | with_reducible exact unhide S2) (fail)
        clear p_0 p_1 p_2 p_3 q_0 q_1 q_2 q_3 hf ht a_0 a_1 a_2 a_3 b_0 b_1 b_2 b_3 S0 S1 S2
        replace K := hide ((unhide K).set 2 (.bool f3) (.bool f1)).drew
        go_upto_region 5 with fail
        generalize hW : ((WW.setCell ⟨F, 2, none⟩ (.bool f3)).setCell ⟨T, 2, none⟩ (.bool f1)).drew = WW at K ⊢
        clear hW
        obtain ⟨p_0, p_1, p_2, p_3⟩ := cells4 (unhide K).p
        obtain ⟨q_0, q_1, q_2, q_3⟩ := cells4 (unhide K).q
        go_upto_region 8 with fail
        clear p_0 p_1 p_2 p_3 q_0 q_1 q_2 q_3
        obtain ⟨f_0, f_1, f_2, f_3⟩ := cells4 (unhide K).f
        obtain ⟨t_0, t_1, t_2, t_3⟩ := cells4 (unhide K).t
        obtain ⟨x_0, x_1, x_2, x_3⟩ := cells4 (unhide K).r0
        obtain ⟨y_0, y_1, y_2, y_3⟩ := cells4 (unhide K).r1
        have hx0 := cells_f (unhide K).r0 0
        have hy0 := cells_f (unhide K).r1 0
        have hx1 := cells_f (unhide K).r0 1
        have hy1 := cells_f (unhide K).r1 1
        have hx2 := cells_f (unhide K).r0 2
        have hy2 := cells_f (unhide K).r1 2
        have hx3 := cells_f (unhide K).r0 3
        have hy3 := cells_f (unhide K).r1 3
        have S0 : Hid (WW.drew.cell? ⟨F, 0, none⟩ = some (.int .i64 c) ∧ WW.drew.cell? ⟨F, 1, none⟩ = some (.int .i64 b) ∧ WW.drew.cell? ⟨F, 2, none⟩ = some (.bool f3) ∧ WW.drew.cell? ⟨F, 3, none⟩ = some (.bool f2) ∧ WW.drew.cell? ⟨T, 0, none⟩ = some (.int .i64 a) ∧ WW.drew.cell? ⟨T, 1, none⟩ = some (.int .i64 d) ∧ WW.drew.cell? ⟨T, 2, none⟩ = some (.bool f1) ∧ WW.drew.cell? ⟨T, 3, none⟩ = some (.bool f4)) := hide ⟨(cells4 (cells_drew ((unhide K).f))).1, (cells4 (cells_drew ((unhide K).f))).2.1, (cells4 (cells_drew ((unhide K).f))).2.2.1, (cells4 (cells_drew ((unhide K).f))).2.2.2, (cells4 (cells_drew ((unhide K).t))).1, (cells4 (cells_drew ((unhide K).t))).2.1, (cells4 (cells_drew ((unhide K).t))).2.2.1, (cells4 (cells_drew ((unhide K).t))).2.2.2⟩
        have S1 : Hid (((((WW.setCell ⟨w.heap.size + 1 + 1, 0, none⟩ (.int .i64 c)).setCell ⟨w.heap.size + 1 + 1, 1, none⟩ (.int .i64 b)).setCell ⟨w.heap.size + 1 + 1, 2, none⟩ (.bool f3)).setCell ⟨w.heap.size + 1 + 1, 3, none⟩ (.bool f2)).drew.cell? ⟨F, 0, none⟩ = some (.int .i64 c) ∧ ((((WW.setCell ⟨w.heap.size + 1 + 1, 0, none⟩ (.int .i64 c)).setCell ⟨w.heap.size + 1 + 1, 1, none⟩ (.int .i64 b)).setCell ⟨w.heap.size + 1 + 1, 2, none⟩ (.bool f3)).setCell ⟨w.heap.size + 1 + 1, 3, none⟩ (.bool f2)).drew.cell? ⟨F, 1, none⟩ = some (.int .i64 b) ∧ ((((WW.setCell ⟨w.heap.size + 1 + 1, 0, none⟩ (.int .i64 c)).setCell ⟨w.heap.size + 1 + 1, 1, none⟩ (.int .i64 b)).setCell ⟨w.heap.size + 1 + 1, 2, none⟩ (.bool f3)).setCell ⟨w.heap.size + 1 + 1, 3, none⟩ (.bool f2)).drew.cell? ⟨F, 2, none⟩ = some (.bool f3) ∧ ((((WW.setCell ⟨w.heap.size + 1 + 1, 0, none⟩ (.int .i64 c)).setCell ⟨w.heap.size + 1 + 1, 1, none⟩ (.int .i64 b)).setCell ⟨w.heap.size + 1 + 1, 2, none⟩ (.bool f3)).setCell ⟨w.heap.size + 1 + 1, 3, none⟩ (.bool f2)).drew.cell? ⟨F, 3, none⟩ = some (.bool f2) ∧ ((((WW.setCell ⟨w.heap.size + 1 + 1, 0, none⟩ (.int .i64 c)).setCell ⟨w.heap.size + 1 + 1, 1, none⟩ (.int .i64 b)).setCell ⟨w.heap.size + 1 + 1, 2, none⟩ (.bool f3)).setCell ⟨w.heap.size + 1 + 1, 3, none⟩ (.bool f2)).drew.cell? ⟨T, 0, none⟩ = some (.int .i64 a) ∧ ((((WW.setCell ⟨w.heap.size + 1 + 1, 0, none⟩ (.int .i64 c)).setCell ⟨w.heap.size + 1 + 1, 1, none⟩ (.int .i64 b)).setCell ⟨w.heap.size + 1 + 1, 2, none⟩ (.bool f3)).setCell ⟨w.heap.size + 1 + 1, 3, none⟩ (.bool f2)).drew.cell? ⟨T, 1, none⟩ = some (.int .i64 d) ∧ ((((WW.setCell ⟨w.heap.size + 1 + 1, 0, none⟩ (.int .i64 c)).setCell ⟨w.heap.size + 1 + 1, 1, none⟩ (.int .i64 b)).setCell ⟨w.heap.size + 1 + 1, 2, none⟩ (.bool f3)).setCell ⟨w.heap.size + 1 + 1, 3, none⟩ (.bool f2)).drew.cell? ⟨T, 2, none⟩ = some (.bool f1) ∧ ((((WW.setCell ⟨w.heap.size + 1 + 1, 0, none⟩ (.int .i64 c)).setCell ⟨w.heap.size + 1 + 1, 1, none⟩ (.int .i64 b)).setCell ⟨w.heap.size + 1 + 1, 2, none⟩ (.bool f3)).setCell ⟨w.heap.size + 1 + 1, 3, none⟩ (.bool f2)).drew.cell? ⟨T, 3, none⟩ = some (.bool f4)) := hide ⟨(cells4 (cells_drew (cells_far4 (unhide K).f n3 (.int .i64 c) (.int .i64 b) (.bool f3) (.bool f2)))).1, (cells4 (cells_drew (cells_far4 (unhide K).f n3 (.int .i64 c) (.int .i64 b) (.bool f3) (.bool f2)))).2.1, (cells4 (cells_drew (cells_far4 (unhide K).f n3 (.int .i64 c) (.int .i64 b) (.bool f3) (.bool f2)))).2.2.1, (cells4 (cells_drew (cells_far4 (unhide K).f n3 (.int .i64 c) (.int .i64 b) (.bool f3) (.bool f2)))).2.2.2, (cells4 (cells_drew (cells_far4 (unhide K).t n7 (.int .i64 c) (.int .i64 b) (.bool f3) (.bool f2)))).1, (cells4 (cells_drew (cells_far4 (unhide K).t n7 (.int .i64 c) (.int .i64 b) (.bool f3) (.bool f2)))).2.1, (cells4 (cells_drew (cells_far4 (unhide K).t n7 (.int .i64 c) (.int .i64 b) (.bool f3) (.bool f2)))).2.2.1, (cells4 (cells_drew (cells_far4 (unhide K).t n7 (.int .i64 c) (.int .i64 b) (.bool f3) (.bool f2)))).2.2.2⟩
        have S2 : Hid (((((((((WW.setCell ⟨w.heap.size + 1 + 1, 0, none⟩ (.int .i64 c)).setCell ⟨w.heap.size + 1 + 1, 1, none⟩ (.int .i64 b)).setCell ⟨w.heap.size + 1 + 1, 2, none⟩ (.bool f3)).setCell ⟨w.heap.size + 1 + 1, 3, none⟩ (.bool f2)).setCell ⟨w.heap.size + 1 + 1 + 1, 0, none⟩ (.int .i64 a)).setCell ⟨w.heap.size + 1 + 1 + 1, 1, none⟩ (.int .i64 d)).setCell ⟨w.heap.size + 1 + 1 + 1, 2, none⟩ (.bool f1)).setCell ⟨w.heap.size + 1 + 1 + 1, 3, none⟩ (.bool f4)).drew.cell? ⟨F, 0, none⟩ = some (.int .i64 c) ∧ ((((((((WW.setCell ⟨w.heap.size + 1 + 1, 0, none⟩ (.int .i64 c)).setCell ⟨w.heap.size + 1 + 1, 1, none⟩ (.int .i64 b)).setCell ⟨w.heap.size + 1 + 1, 2, none⟩ (.bool f3)).setCell ⟨w.heap.size + 1 + 1, 3, none⟩ (.bool f2)).setCell ⟨w.heap.size + 1 + 1 + 1, 0, none⟩ (.int .i64 a)).setCell ⟨w.heap.size + 1 + 1 + 1, 1, none⟩ (.int .i64 d)).setCell ⟨w.heap.size + 1 + 1 + 1, 2, none⟩ (.bool f1)).setCell ⟨w.heap.size + 1 + 1 + 1, 3, none⟩ (.bool f4)).drew.cell? ⟨F, 1, none⟩ = some (.int .i64 b) ∧ ((((((((WW.setCell ⟨w.heap.size + 1 + 1, 0, none⟩ (.int .i64 c)).setCell ⟨w.heap.size + 1 + 1, 1, none⟩ (.int .i64 b)).setCell ⟨w.heap.size + 1 + 1, 2, none⟩ (.bool f3)).setCell ⟨w.heap.size + 1 + 1, 3, none⟩ (.bool f2)).setCell ⟨w.heap.size + 1 + 1 + 1, 0, none⟩ (.int .i64 a)).setCell ⟨w.heap.size + 1 + 1 + 1, 1, none⟩ (.int .i64 d)).setCell ⟨w.heap.size + 1 + 1 + 1, 2, none⟩ (.bool f1)).setCell ⟨w.heap.size + 1 + 1 + 1, 3, none⟩ (.bool f4)).drew.cell? ⟨F, 2, none⟩ = some (.bool f3) ∧ ((((((((WW.setCell ⟨w.heap.size + 1 + 1, 0, none⟩ (.int .i64 c)).setCell ⟨w.heap.size + 1 + 1, 1, none⟩ (.int .i64 b)).setCell ⟨w.heap.size + 1 + 1, 2, none⟩ (.bool f3)).setCell ⟨w.heap.size + 1 + 1, 3, none⟩ (.bool f2)).setCell ⟨w.heap.size + 1 + 1 + 1, 0, none⟩ (.int .i64 a)).setCell ⟨w.heap.size + 1 + 1 + 1, 1, none⟩ (.int .i64 d)).setCell ⟨w.heap.size + 1 + 1 + 1, 2, none⟩ (.bool f1)).setCell ⟨w.heap.size + 1 + 1 + 1, 3, none⟩ (.bool f4)).drew.cell? ⟨F, 3, none⟩ = some (.bool f2) ∧ ((((((((WW.setCell ⟨w.heap.size + 1 + 1, 0, none⟩ (.int .i64 c)).setCell ⟨w.heap.size + 1 + 1, 1, none⟩ (.int .i64 b)).setCell ⟨w.heap.size + 1 + 1, 2, none⟩ (.bool f3)).setCell ⟨w.heap.size + 1 + 1, 3, none⟩ (.bool f2)).setCell ⟨w.heap.size + 1 + 1 + 1, 0, none⟩ (.int .i64 a)).setCell ⟨w.heap.size + 1 + 1 + 1, 1, none⟩ (.int .i64 d)).setCell ⟨w.heap.size + 1 + 1 + 1, 2, none⟩ (.bool f1)).setCell ⟨w.heap.size + 1 + 1 + 1, 3, none⟩ (.bool f4)).drew.cell? ⟨T, 0, none⟩ = some (.int .i64 a) ∧ ((((((((WW.setCell ⟨w.heap.size + 1 + 1, 0, none⟩ (.int .i64 c)).setCell ⟨w.heap.size + 1 + 1, 1, none⟩ (.int .i64 b)).setCell ⟨w.heap.size + 1 + 1, 2, none⟩ (.bool f3)).setCell ⟨w.heap.size + 1 + 1, 3, none⟩ (.bool f2)).setCell ⟨w.heap.size + 1 + 1 + 1, 0, none⟩ (.int .i64 a)).setCell ⟨w.heap.size + 1 + 1 + 1, 1, none⟩ (.int .i64 d)).setCell ⟨w.heap.size + 1 + 1 + 1, 2, none⟩ (.bool f1)).setCell ⟨w.heap.size + 1 + 1 + 1, 3, none⟩ (.bool f4)).drew.cell? ⟨T, 1, none⟩ = some (.int .i64 d) ∧ ((((((((WW.setCell ⟨w.heap.size + 1 + 1, 0, none⟩ (.int .i64 c)).setCell ⟨w.heap.size + 1 + 1, 1, none⟩ (.int .i64 b)).setCell ⟨w.heap.size + 1 + 1, 2, none⟩ (.bool f3)).setCell ⟨w.heap.size + 1 + 1, 3, none⟩ (.bool f2)).setCell ⟨w.heap.size + 1 + 1 + 1, 0, none⟩ (.int .i64 a)).setCell ⟨w.heap.size + 1 + 1 + 1, 1, none⟩ (.int .i64 d)).setCell ⟨w.heap.size + 1 + 1 + 1, 2, none⟩ (.bool f1)).setCell ⟨w.heap.size + 1 + 1 + 1, 3, none⟩ (.bool f4)).drew.cell? ⟨T, 2, none⟩ = some (.bool f1) ∧ ((((((((WW.setCell ⟨w.heap.size + 1 + 1, 0, none⟩ (.int .i64 c)).setCell ⟨w.heap.size + 1 + 1, 1, none⟩ (.int .i64 b)).setCell ⟨w.heap.size + 1 + 1, 2, none⟩ (.bool f3)).setCell ⟨w.heap.size + 1 + 1, 3, none⟩ (.bool f2)).setCell ⟨w.heap.size + 1 + 1 + 1, 0, none⟩ (.int .i64 a)).setCell ⟨w.heap.size + 1 + 1 + 1, 1, none⟩ (.int .i64 d)).setCell ⟨w.heap.size + 1 + 1 + 1, 2, none⟩ (.bool f1)).setCell ⟨w.heap.size + 1 + 1 + 1, 3, none⟩ (.bool f4)).drew.cell? ⟨T, 3, none⟩ = some (.bool f4)) := hide ⟨(cells4 (cells_drew (cells_far4 (cells_far4 (unhide K).f n3 (.int .i64 c) (.int .i64 b) (.bool f3) (.bool f2)) n4 (.int .i64 a) (.int .i64 d) (.bool f1) (.bool f4)))).1, (cells4 (cells_drew (cells_far4 (cells_far4 (unhide K).f n3 (.int .i64 c) (.int .i64 b) (.bool f3) (.bool f2)) n4 (.int .i64 a) (.int .i64 d) (.bool f1) (.bool f4)))).2.1, (cells4 (cells_drew (cells_far4 (cells_far4 (unhide K).f n3 (.int .i64 c) (.int .i64 b) (.bool f3) (.bool f2)) n4 (.int .i64 a) (.int .i64 d) (.bool f1) (.bool f4)))).2.2.1, (cells4 (cells_drew (cells_far4 (cells_far4 (unhide K).f n3 (.int .i64 c) (.int .i64 b) (.bool f3) (.bool f2)) n4 (.int .i64 a) (.int .i64 d) (.bool f1) (.bool f4)))).2.2.2, (cells4 (cells_drew (cells_far4 (cells_far4 (unhide K).t n7 (.int .i64 c) (.int .i64 b) (.bool f3) (.bool f2)) n8 (.int .i64 a) (.int .i64 d) (.bool f1) (.bool f4)))).1, (cells4 (cells_drew (cells_far4 (cells_far4 (unhide K).t n7 (.int .i64 c) (.int .i64 b) (.bool f3) (.bool f2)) n8 (.int .i64 a) (.int .i64 d) (.bool f1) (.bool f4)))).2.1, (cells4 (cells_drew (cells_far4 (cells_far4 (unhide K).t n7 (.int .i64 c) (.int .i64 b) (.bool f3) (.bool f2)) n8 (.int .i64 a) (.int .i64 d) (.bool f1) (.bool f4)))).2.2.1, (cells4 (cells_drew (cells_far4 (cells_far4 (unhide K).t n7 (.int .i64 c) (.int .i64 b) (.bool f3) (.bool f2)) n8 (.int .i64 a) (.int .i64 d) (.bool f1) (.bool f4)))).2.2.2⟩
        go_region_held3 (fun w' => w'.cell? ⟨F, 0, none⟩ = some (.int .i64 c) ∧ w'.cell? ⟨F, 1, none⟩ = some (.int .i64 b) ∧ w'.cell? ⟨F, 2, none⟩ = some (.bool f3) ∧ w'.cell? ⟨F, 3, none⟩ = some (.bool f2) ∧ w'.cell? ⟨T, 0, none⟩ = some (.int .i64 a) ∧ w'.cell? ⟨T, 1, none⟩ = some (.int .i64 d) ∧ w'.cell? ⟨T, 2, none⟩ = some (.bool f1) ∧ w'.cell? ⟨T, 3, none⟩ = some (.bool f4)) (first | with_reducible exact unhide S0 | with_reducible exact unhide S1 | with_reducible exact unhide S2) (fail)
        go_wp2
        refine bodyPost_ret (results_c2 rfl _ _ _ _ _ _ _ _ _ _ rfl (cells_drew (cells_far4 (cells_set4 (unhide K).r0 _ _ _ _) (by omega) _ _ _ _)) Tryd.underlying29 rfl (by exact infoR) rfl (cells_drew (cells_set4 (cells_far4 (unhide K).r1 (by omega) _ _ _ _) _ _ _ _)) Tryd.underlying29 rfl (by exact infoR)) rfl ?_
        exact ⟨by rw [← (unhide HR).1, ← (unhide HR).2]; unfold cornA cornB Rf.cells; simp only [if_pos (unhide HE).1, if_neg (Int.not_lt.2 (unhide HE).2)] <;> rfl, (below_set4 (below_set4 (unhide K).hb (by omega) _ _ _ _) (by omega) _ _ _ _).drew⟩
    · by_cases hd : d < b
      · replace hc : a ≤ c := by omega
        have HE := hide (And.intro hc hd)
        obtain ⟨p_0, p_1, p_2, p_3⟩ := cells4 (unhide K).p
        obtain ⟨q_0, q_1, q_2, q_3⟩ := cells4 (unhide K).q
        go_upto_region 5 with fail
        clear p_0 p_1 p_2 p_3 q_0 q_1 q_2 q_3
        obtain ⟨p_0, p_1, p_2, p_3⟩ := cells4 (unhide K).p
        obtain ⟨q_0, q_1, q_2, q_3⟩ := cells4 (unhide K).q
        go_upto_region 6 with fail
        clear p_0 p_1 p_2 p_3 q_0 q_1 q_2 q_3
        obtain ⟨p_0, p_1, p_2, p_3⟩ := cells4 (unhide K).p
        obtain ⟨q_0, q_1, q_2, q_3⟩ := cells4 (unhide K).q
        have hf := cells_f (unhide K).f 1
        have ht := cells_f (unhide K).t 1
        obtain ⟨a_0, a_1, a_2, a_3⟩ := cells4 (unhide K).f
        obtain ⟨b_0, b_1, b_2, b_3⟩ := cells4 (unhide K).t
        have S0 := hide (And.intro (cells4 (cells_drew (unhide K).p)).2.1 (cells4 (cells_drew (unhide K).q)).2.1)
        have S1 := hide (And.intro (cells4 (cells_drew (cells_set_far (unhide K).p (Ne.symm n1) 1 (.int .i64 d)))).2.1 (cells4 (cells_drew (cells_set_far (unhide K).q (Ne.symm n2) 1 (.int .i64 d)))).2.1)
        have S2 := hide (And.intro (cells4 (cells_drew (cells_set_far (cells_set_far (unhide K).p (Ne.symm n1) 1 (.int .i64 d)) (Ne.symm n5) 1 (.int .i64 b)))).2.1 (cells4 (cells_drew (cells_set_far (cells_set_far (unhide K).q (Ne.symm n2) 1 (.int .i64 d)) (Ne.symm n6) 1 (.int .i64 b)))).2.1)
        go_region_held3 (fun w' => w'.cell? ⟨w.heap.size, 1, none⟩ = some (.int .i64 b) ∧ w'.cell? ⟨w.heap.size + 1, 1, none⟩ = some (.int .i64 d)) (first | with_reducible exact unhide S0 | with_reducible exact unhide S1 | with_reducible exact unhide S2) (fail)
        clear p_0 p_1 p_2 p_3 q_0 q_1 q_2 q_3 hf ht a_0 a_1 a_2 a_3 b_0 b_1 b_2 b_3 S0 S1 S2
        replace K := hide ((unhide K).set 1 (.int .i64 d) (.int .i64 b)).drew
        go_upto_region 7 with fail
        generalize hW : ((wc.setCell ⟨F, 1, none⟩ (.int .i64 d)).setCell ⟨T, 1, none⟩ (.int .i64 b)).drew = WW at K ⊢
        clear hW
        obtain ⟨p_0, p_1, p_2, p_3⟩ := cells4 (unhide K).p
        obtain ⟨q_0, q_1, q_2, q_3⟩ := cells4 (unhide K).q
        have hf := cells_f (unhide K).f 3
        have ht := cells_f (unhide K).t 3
        obtain ⟨a_0, a_1, a_2, a_3⟩ := cells4 (unhide K).f
        obtain ⟨b_0, b_1, b_2, b_3⟩ := cells4 (unhide K).t
        have S0 := hide (And.intro (cells4 (cells_drew (unhide K).p)).2.2.2 (cells4 (cells_drew (unhide K).q)).2.2.2)
        have S1 := hide (And.intro (cells4 (cells_drew (cells_set_far (unhide K).p (Ne.symm n1) 3 (.bool f4)))).2.2.2 (cells4 (cells_drew (cells_set_far (unhide K).q (Ne.symm n2) 3 (.bool f4)))).2.2.2)
        have S2 := hide (And.intro (cells4 (cells_drew (cells_set_far (cells_set_far (unhide K).p (Ne.symm n1) 3 (.bool f4)) (Ne.symm n5) 3 (.bool f2)))).2.2.2 (cells4 (cells_drew (cells_set_far (cells_set_far (unhide K).q (Ne.symm n2) 3 (.bool f4)) (Ne.symm n6) 3 (.bool f2)))).2.2.2)
        go_region_held3 (fun w' => w'.cell? ⟨w.heap.size, 3, none⟩ = some (.bool f2) ∧ w'.cell? ⟨w.heap.size + 1, 3, none⟩ = some (.bool f4)) (first | with_reducible exact unhide S0 | with_reducible exact unhide S1 | with_reducible exact unhide S2) (fail)
        clear p_0 p_1 p_2 p_3 q_0 q_1 q_2 q_3 hf ht a_0 a_1 a_2 a_3 b_0 b_1 b_2 b_3 S0 S1 S2
        replace K := hide ((unhide K).set 3 (.bool f4) (.bool f2)).drew
        go_upto_region 8 with fail
        generalize hW : ((WW.setCell ⟨F, 3, none⟩ (.bool f4)).setCell ⟨T, 3, none⟩ (.bool f2)).drew = WW at K ⊢
        clear hW
        obtain ⟨f_0, f_1, f_2, f_3⟩ := cells4 (unhide K).f
        obtain ⟨t_0, t_1, t_2, t_3⟩ := cells4 (unhide K).t
        obtain ⟨x_0, x_1, x_2, x_3⟩ := cells4 (unhide K).r0
        obtain ⟨y_0, y_1, y_2, y_3⟩ := cells4 (unhide K).r1
        have hx0 := cells_f (unhide K).r0 0
        have hy0 := cells_f (unhide K).r1 0
        have hx1 := cells_f (unhide K).r0 1
        have hy1 := cells_f (unhide K).r1 1
        have hx2 := cells_f (unhide K).r0 2
        have hy2 := cells_f (unhide K).r1 2
        have hx3 := cells_f (unhide K).r0 3
        have hy3 := cells_f (unhide K).r1 3
        have S0 : Hid (WW.drew.cell? ⟨F, 0, none⟩ = some (.int .i64 a) ∧ WW.drew.cell? ⟨F, 1, none⟩ = some (.int .i64 d) ∧ WW.drew.cell? ⟨F, 2, none⟩ = some (.bool f1) ∧ WW.drew.cell? ⟨F, 3, none⟩ = some (.bool f4) ∧ WW.drew.cell? ⟨T, 0, none⟩ = some (.int .i64 c) ∧ WW.drew.cell? ⟨T, 1, none⟩ = some (.int .i64 b) ∧ WW.drew.cell? ⟨T, 2, none⟩ = some (.bool f3) ∧ WW.drew.cell? ⟨T, 3, none⟩ = some (.bool f2)) := hide ⟨(cells4 (cells_drew ((unhide K).f))).1, (cells4 (cells_drew ((unhide K).f))).2.1, (cells4 (cells_drew ((unhide K).f))).2.2.1, (cells4 (cells_drew ((unhide K).f))).2.2.2, (cells4 (cells_drew ((unhide K).t))).1, (cells4 (cells_drew ((unhide K).t))).2.1, (cells4 (cells_drew ((unhide K).t))).2.2.1, (cells4 (cells_drew ((unhide K).t))).2.2.2⟩
        have S1 : Hid (((((WW.setCell ⟨w.heap.size + 1 + 1, 0, none⟩ (.int .i64 a)).setCell ⟨w.heap.size + 1 + 1, 1, none⟩ (.int .i64 d)).setCell ⟨w.heap.size + 1 + 1, 2, none⟩ (.bool f1)).setCell ⟨w.heap.size + 1 + 1, 3, none⟩ (.bool f4)).drew.cell? ⟨F, 0, none⟩ = some (.int .i64 a) ∧ ((((WW.setCell ⟨w.heap.size + 1 + 1, 0, none⟩ (.int .i64 a)).setCell ⟨w.heap.size + 1 + 1, 1, none⟩ (.int .i64 d)).setCell ⟨w.heap.size + 1 + 1, 2, none⟩ (.bool f1)).setCell ⟨w.heap.size + 1 + 1, 3, none⟩ (.bool f4)).drew.cell? ⟨F, 1, none⟩ = some (.int .i64 d) ∧ ((((WW.setCell ⟨w.heap.size + 1 + 1, 0, none⟩ (.int .i64 a)).setCell ⟨w.heap.size + 1 + 1, 1, none⟩ (.int .i64 d)).setCell ⟨w.heap.size + 1 + 1, 2, none⟩ (.bool f1)).setCell ⟨w.heap.size + 1 + 1, 3, none⟩ (.bool f4)).drew.cell? ⟨F, 2, none⟩ = some (.bool f1) ∧ ((((WW.setCell ⟨w.heap.size + 1 + 1, 0, none⟩ (.int .i64 a)).setCell ⟨w.heap.size + 1 + 1, 1, none⟩ (.int .i64 d)).setCell ⟨w.heap.size + 1 + 1, 2, none⟩ (.bool f1)).setCell ⟨w.heap.size + 1 + 1, 3, none⟩ (.bool f4)).drew.cell? ⟨F, 3, none⟩ = some (.bool f4) ∧ ((((WW.setCell ⟨w.heap.size + 1 + 1, 0, none⟩ (.int .i64 a)).setCell ⟨w.heap.size + 1 + 1, 1, none⟩ (.int .i64 d)).setCell ⟨w.heap.size + 1 + 1, 2, none⟩ (.bool f1)).setCell ⟨w.heap.size + 1 + 1, 3, none⟩ (.bool f4)).drew.cell? ⟨T, 0, none⟩ = some (.int .i64 c) ∧ ((((WW.setCell ⟨w.heap.size + 1 + 1, 0, none⟩ (.int .i64 a)).setCell ⟨w.heap.size + 1 + 1, 1, none⟩ (.int .i64 d)).setCell ⟨w.heap.size + 1 + 1, 2, none⟩ (.bool f1)).setCell ⟨w.heap.size + 1 + 1, 3, none⟩ (.bool f4)).drew.cell? ⟨T, 1, none⟩ = some (.int .i64 b) ∧ ((((WW.setCell ⟨w.heap.size + 1 + 1, 0, none⟩ (.int .i64 a)).setCell ⟨w.heap.size + 1 + 1, 1, none⟩ (.int .i64 d)).setCell ⟨w.heap.size + 1 + 1, 2, none⟩ (.bool f1)).setCell ⟨w.heap.size + 1 + 1, 3, none⟩ (.bool f4)).drew.cell? ⟨T, 2, none⟩ = some (.bool f3) ∧ ((((WW.setCell ⟨w.heap.size + 1 + 1, 0, none⟩ (.int .i64 a)).setCell ⟨w.heap.size + 1 + 1, 1, none⟩ (.int .i64 d)).setCell ⟨w.heap.size + 1 + 1, 2, none⟩ (.bool f1)).setCell ⟨w.heap.size + 1 + 1, 3, none⟩ (.bool f4)).drew.cell? ⟨T, 3, none⟩ = some (.bool f2)) := hide ⟨(cells4 (cells_drew (cells_far4 (unhide K).f n3 (.int .i64 a) (.int .i64 d) (.bool f1) (.bool f4)))).1, (cells4 (cells_drew (cells_far4 (unhide K).f n3 (.int .i64 a) (.int .i64 d) (.bool f1) (.bool f4)))).2.1, (cells4 (cells_drew (cells_far4 (unhide K).f n3 (.int .i64 a) (.int .i64 d) (.bool f1) (.bool f4)))).2.2.1, (cells4 (cells_drew (cells_far4 (unhide K).f n3 (.int .i64 a) (.int .i64 d) (.bool f1) (.bool f4)))).2.2.2, (cells4 (cells_drew (cells_far4 (unhide K).t n7 (.int .i64 a) (.int .i64 d) (.bool f1) (.bool f4)))).1, (cells4 (cells_drew (cells_far4 (unhide K).t n7 (.int .i64 a) (.int .i64 d) (.bool f1) (.bool f4)))).2.1, (cells4 (cells_drew (cells_far4 (unhide K).t n7 (.int .i64 a) (.int .i64 d) (.bool f1) (.bool f4)))).2.2.1, (cells4 (cells_drew (cells_far4 (unhide K).t n7 (.int .i64 a) (.int .i64 d) (.bool f1) (.bool f4)))).2.2.2⟩
        have S2 : Hid (((((((((WW.setCell ⟨w.heap.size + 1 + 1, 0, none⟩ (.int .i64 a)).setCell ⟨w.heap.size + 1 + 1, 1, none⟩ (.int .i64 d)).setCell ⟨w.heap.size + 1 + 1, 2, none⟩ (.bool f1)).setCell ⟨w.heap.size + 1 + 1, 3, none⟩ (.bool f4)).setCell ⟨w.heap.size + 1 + 1 + 1, 0, none⟩ (.int .i64 c)).setCell ⟨w.heap.size + 1 + 1 + 1, 1, none⟩ (.int .i64 b)).setCell ⟨w.heap.size + 1 + 1 + 1, 2, none⟩ (.bool f3)).setCell ⟨w.heap.size + 1 + 1 + 1, 3, none⟩ (.bool f2)).drew.cell? ⟨F, 0, none⟩ = some (.int .i64 a) ∧ ((((((((WW.setCell ⟨w.heap.size + 1 + 1, 0, none⟩ (.int .i64 a)).setCell ⟨w.heap.size + 1 + 1, 1, none⟩ (.int .i64 d)).setCell ⟨w.heap.size + 1 + 1, 2, none⟩ (.bool f1)).setCell ⟨w.heap.size + 1 + 1, 3, none⟩ (.bool f4)).setCell ⟨w.heap.size + 1 + 1 + 1, 0, none⟩ (.int .i64 c)).setCell ⟨w.heap.size + 1 + 1 + 1, 1, none⟩ (.int .i64 b)).setCell ⟨w.heap.size + 1 + 1 + 1, 2, none⟩ (.bool f3)).setCell ⟨w.heap.size + 1 + 1 + 1, 3, none⟩ (.bool f2)).drew.cell? ⟨F, 1, none⟩ = some (.int .i64 d) ∧ ((((((((WW.setCell ⟨w.heap.size + 1 + 1, 0, none⟩ (.int .i64 a)).setCell ⟨w.heap.size + 1 + 1, 1, none⟩ (.int .i64 d)).setCell ⟨w.heap.size + 1 + 1, 2, none⟩ (.bool f1)).setCell ⟨w.heap.size + 1 + 1, 3, none⟩ (.bool f4)).setCell ⟨w.heap.size + 1 + 1 + 1, 0, none⟩ (.int .i64 c)).setCell ⟨w.heap.size + 1 + 1 + 1, 1, none⟩ (.int .i64 b)).setCell ⟨w.heap.size + 1 + 1 + 1, 2, none⟩ (.bool f3)).setCell ⟨w.heap.size + 1 + 1 + 1, 3, none⟩ (.bool f2)).drew.cell? ⟨F, 2, none⟩ = some (.bool f1) ∧ ((((((((WW.setCell ⟨w.heap.size + 1 + 1, 0, none⟩ (.int .i64 a)).setCell ⟨w.heap.size + 1 + 1, 1, none⟩ (.int .i64 d)).setCell ⟨w.heap.size + 1 + 1, 2, none⟩ (.bool f1)).setCell ⟨w.heap.size + 1 + 1, 3, none⟩ (.bool f4)).setCell ⟨w.heap.size + 1 + 1 + 1, 0, none⟩ (.int .i64 c)).setCell ⟨w.heap.size + 1 + 1 + 1, 1, none⟩ (.int .i64 b)).setCell ⟨w.heap.size + 1 + 1 + 1, 2, none⟩ (.bool f3)).setCell ⟨w.heap.size + 1 + 1 + 1, 3, none⟩ (.bool f2)).drew.cell? ⟨F, 3, none⟩ = some (.bool f4) ∧ ((((((((WW.setCell ⟨w.heap.size + 1 + 1, 0, none⟩ (.int .i64 a)).setCell ⟨w.heap.size + 1 + 1, 1, none⟩ (.int .i64 d)).setCell ⟨w.heap.size + 1 + 1, 2, none⟩ (.bool f1)).setCell ⟨w.heap.size + 1 + 1, 3, none⟩ (.bool f4)).setCell ⟨w.heap.size + 1 + 1 + 1, 0, none⟩ (.int .i64 c)).setCell ⟨w.heap.size + 1 + 1 + 1, 1, none⟩ (.int .i64 b)).setCell ⟨w.heap.size + 1 + 1 + 1, 2, none⟩ (.bool f3)).setCell ⟨w.heap.size + 1 + 1 + 1, 3, none⟩ (.bool f2)).drew.cell? ⟨T, 0, none⟩ = some (.int .i64 c) ∧ ((((((((WW.setCell ⟨w.heap.size + 1 + 1, 0, none⟩ (.int .i64 a)).setCell ⟨w.heap.size + 1 + 1, 1, none⟩ (.int .i64 d)).setCell ⟨w.heap.size + 1 + 1, 2, none⟩ (.bool f1)).setCell ⟨w.heap.size + 1 + 1, 3, none⟩ (.bool f4)).setCell ⟨w.heap.size + 1 + 1 + 1, 0, none⟩ (.int .i64 c)).setCell ⟨w.heap.size + 1 + 1 + 1, 1, none⟩ (.int .i64 b)).setCell ⟨w.heap.size + 1 + 1 + 1, 2, none⟩ (.bool f3)).setCell ⟨w.heap.size + 1 + 1 + 1, 3, none⟩ (.bool f2)).drew.cell? ⟨T, 1, none⟩ = some (.int .i64 b) ∧ ((((((((WW.setCell ⟨w.heap.size + 1 + 1, 0, none⟩ (.int .i64 a)).setCell ⟨w.heap.size + 1 + 1, 1, none⟩ (.int .i64 d)).setCell ⟨w.heap.size + 1 + 1, 2, none⟩ (.bool f1)).setCell ⟨w.heap.size + 1 + 1, 3, none⟩ (.bool f4)).setCell ⟨w.heap.size + 1 + 1 + 1, 0, none⟩ (.int .i64 c)).setCell ⟨w.heap.size + 1 + 1 + 1, 1, none⟩ (.int .i64 b)).setCell ⟨w.heap.size + 1 + 1 + 1, 2, none⟩ (.bool f3)).setCell ⟨w.heap.size + 1 + 1 + 1, 3, none⟩ (.bool f2)).drew.cell? ⟨T, 2, none⟩ = some (.bool f3) ∧ ((((((((WW.setCell ⟨w.heap.size + 1 + 1, 0, none⟩ (.int .i64 a)).setCell ⟨w.heap.size + 1 + 1, 1, none⟩ (.int .i64 d)).setCell ⟨w.heap.size + 1 + 1, 2, none⟩ (.bool f1)).setCell ⟨w.heap.size + 1 + 1, 3, none⟩ (.bool f4)).setCell ⟨w.heap.size + 1 + 1 + 1, 0, none⟩ (.int .i64 c)).setCell ⟨w.heap.size + 1 + 1 + 1, 1, none⟩ (.int .i64 b)).setCell ⟨w.heap.size + 1 + 1 + 1, 2, none⟩ (.bool f3)).setCell ⟨w.heap.size + 1 + 1 + 1, 3, none⟩ (.bool f2)).drew.cell? ⟨T, 3, none⟩ = some (.bool f2)) := hide ⟨(cells4 (cells_drew (cells_far4 (cells_far4 (unhide K).f n3 (.int .i64 a) (.int .i64 d) (.bool f1) (.bool f4)) n4 (.int .i64 c) (.int .i64 b) (.bool f3) (.bool f2)))).1, (cells4 (cells_drew (cells_far4 (cells_far4 (unhide K).f n3 (.int .i64 a) (.int .i64 d) (.bool f1) (.bool f4)) n4 (.int .i64 c) (.int .i64 b) (.bool f3) (.bool f2)))).2.1, (cells4 (cells_drew (cells_far4 (cells_far4 (unhide K).f n3 (.int .i64 a) (.int .i64 d) (.bool f1) (.bool f4)) n4 (.int .i64 c) (.int .i64 b) (.bool f3) (.bool f2)))).2.2.1, (cells4 (cells_drew (cells_far4 (cells_far4 (unhide K).f n3 (.int .i64 a) (.int .i64 d) (.bool f1) (.bool f4)) n4 (.int .i64 c) (.int .i64 b) (.bool f3) (.bool f2)))).2.2.2, (cells4 (cells_drew (cells_far4 (cells_far4 (unhide K).t n7 (.int .i64 a) (.int .i64 d) (.bool f1) (.bool f4)) n8 (.int .i64 c) (.int .i64 b) (.bool f3) (.bool f2)))).1, (cells4 (cells_drew (cells_far4 (cells_far4 (unhide K).t n7 (.int .i64 a) (.int .i64 d) (.bool f1) (.bool f4)) n8 (.int .i64 c) (.int .i64 b) (.bool f3) (.bool f2)))).2.1, (cells4 (cells_drew (cells_far4 (cells_far4 (unhide K).t n7 (.int .i64 a) (.int .i64 d) (.bool f1) (.bool f4)) n8 (.int .i64 c) (.int .i64 b) (.bool f3) (.bool f2)))).2.2.1, (cells4 (cells_drew (cells_far4 (cells_far4 (unhide K).t n7 (.int .i64 a) (.int .i64 d) (.bool f1) (.bool f4)) n8 (.int .i64 c) (.int .i64 b) (.bool f3) (.bool f2)))).2.2.2⟩
        go_region_held3 (fun w' => w'.cell? ⟨F, 0, none⟩ = some (.int .i64 a) ∧ w'.cell? ⟨F, 1, none⟩ = some (.int .i64 d) ∧ w'.cell? ⟨F, 2, none⟩ = some (.bool f1) ∧ w'.cell? ⟨F, 3, none⟩ = some (.bool f4) ∧ w'.cell? ⟨T, 0, none⟩ = some (.int .i64 c) ∧ w'.cell? ⟨T, 1, none⟩ = some (.int .i64 b) ∧ w'.cell? ⟨T, 2, none⟩ = some (.bool f3) ∧ w'.cell? ⟨T, 3, none⟩ = some (.bool f2)) (first | with_reducible exact unhide S0 | with_reducible exact unhide S1 | with_reducible exact unhide S2) (fail)
        go_wp2
        refine bodyPost_ret (results_c2 rfl _ _ _ _ _ _ _ _ _ _ rfl (cells_drew (cells_far4 (cells_set4 (unhide K).r0 _ _ _ _) (by omega) _ _ _ _)) Tryd.underlying29 rfl (by exact infoR) rfl (cells_drew (cells_set4 (cells_far4 (unhide K).r1 (by omega) _ _ _ _) _ _ _ _)) Tryd.underlying29 rfl (by exact infoR)) rfl ?_
        exact ⟨by rw [← (unhide HR).1, ← (unhide HR).2]; unfold cornA cornB Rf.cells; simp only [if_neg (Int.not_lt.2 (unhide HE).1), if_pos (unhide HE).2] <;> rfl, (below_set4 (below_set4 (unhide K).hb (by omega) _ _ _ _) (by omega) _ _ _ _).drew⟩
      · replace hc : a ≤ c := by omega
        replace hd : b ≤ d := by omega
        have HE := hide (And.intro hc hd)
        obtain ⟨p_0, p_1, p_2, p_3⟩ := cells4 (unhide K).p
        obtain ⟨q_0, q_1, q_2, q_3⟩ := cells4 (unhide K).q
        go_upto_region 5 with fail
        clear p_0 p_1 p_2 p_3 q_0 q_1 q_2 q_3
        obtain ⟨p_0, p_1, p_2, p_3⟩ := cells4 (unhide K).p
        obtain ⟨q_0, q_1, q_2, q_3⟩ := cells4 (unhide K).q
        go_upto_region 8 with fail
        clear p_0 p_1 p_2 p_3 q_0 q_1 q_2 q_3
        obtain ⟨f_0, f_1, f_2, f_3⟩ := cells4 (unhide K).f
        obtain ⟨t_0, t_1, t_2, t_3⟩ := cells4 (unhide K).t
        obtain ⟨x_0, x_1, x_2, x_3⟩ := cells4 (unhide K).r0
        obtain ⟨y_0, y_1, y_2, y_3⟩ := cells4 (unhide K).r1
        have hx0 := cells_f (unhide K).r0 0
        have hy0 := cells_f (unhide K).r1 0
        have hx1 := cells_f (unhide K).r0 1
        have hy1 := cells_f (unhide K).r1 1
        have hx2 := cells_f (unhide K).r0 2
        have hy2 := cells_f (unhide K).r1 2
        have hx3 := cells_f (unhide K).r0 3
        have hy3 := cells_f (unhide K).r1 3
        have S0 : Hid (wc.drew.cell? ⟨F, 0, none⟩ = some (.int .i64 a) ∧ wc.drew.cell? ⟨F, 1, none⟩ = some (.int .i64 b) ∧ wc.drew.cell? ⟨F, 2, none⟩ = some (.bool f1) ∧ wc.drew.cell? ⟨F, 3, none⟩ = some (.bool f2) ∧ wc.drew.cell? ⟨T, 0, none⟩ = some (.int .i64 c) ∧ wc.drew.cell? ⟨T, 1, none⟩ = some (.int .i64 d) ∧ wc.drew.cell? ⟨T, 2, none⟩ = some (.bool f3) ∧ wc.drew.cell? ⟨T, 3, none⟩ = some (.bool f4)) := hide ⟨(cells4 (cells_drew ((unhide K).f))).1, (cells4 (cells_drew ((unhide K).f))).2.1, (cells4 (cells_drew ((unhide K).f))).2.2.1, (cells4 (cells_drew ((unhide K).f))).2.2.2, (cells4 (cells_drew ((unhide K).t))).1, (cells4 (cells_drew ((unhide K).t))).2.1, (cells4 (cells_drew ((unhide K).t))).2.2.1, (cells4 (cells_drew ((unhide K).t))).2.2.2⟩
        have S1 : Hid (((((wc.setCell ⟨w.heap.size + 1 + 1, 0, none⟩ (.int .i64 a)).setCell ⟨w.heap.size + 1 + 1, 1, none⟩ (.int .i64 b)).setCell ⟨w.heap.size + 1 + 1, 2, none⟩ (.bool f1)).setCell ⟨w.heap.size + 1 + 1, 3, none⟩ (.bool f2)).drew.cell? ⟨F, 0, none⟩ = some (.int .i64 a) ∧ ((((wc.setCell ⟨w.heap.size + 1 + 1, 0, none⟩ (.int .i64 a)).setCell ⟨w.heap.size + 1 + 1, 1, none⟩ (.int .i64 b)).setCell ⟨w.heap.size + 1 + 1, 2, none⟩ (.bool f1)).setCell ⟨w.heap.size + 1 + 1, 3, none⟩ (.bool f2)).drew.cell? ⟨F, 1, none⟩ = some (.int .i64 b) ∧ ((((wc.setCell ⟨w.heap.size + 1 + 1, 0, none⟩ (.int .i64 a)).setCell ⟨w.heap.size + 1 + 1, 1, none⟩ (.int .i64 b)).setCell ⟨w.heap.size + 1 + 1, 2, none⟩ (.bool f1)).setCell ⟨w.heap.size + 1 + 1, 3, none⟩ (.bool f2)).drew.cell? ⟨F, 2, none⟩ = some (.bool f1) ∧ ((((wc.setCell ⟨w.heap.size + 1 + 1, 0, none⟩ (.int .i64 a)).setCell ⟨w.heap.size + 1 + 1, 1, none⟩ (.int .i64 b)).setCell ⟨w.heap.size + 1 + 1, 2, none⟩ (.bool f1)).setCell ⟨w.heap.size + 1 + 1, 3, none⟩ (.bool f2)).drew.cell? ⟨F, 3, none⟩ = some (.bool f2) ∧ ((((wc.setCell ⟨w.heap.size + 1 + 1, 0, none⟩ (.int .i64 a)).setCell ⟨w.heap.size + 1 + 1, 1, none⟩ (.int .i64 b)).setCell ⟨w.heap.size + 1 + 1, 2, none⟩ (.bool f1)).setCell ⟨w.heap.size + 1 + 1, 3, none⟩ (.bool f2)).drew.cell? ⟨T, 0, none⟩ = some (.int .i64 c) ∧ ((((wc.setCell ⟨w.heap.size + 1 + 1, 0, none⟩ (.int .i64 a)).setCell ⟨w.heap.size + 1 + 1, 1, none⟩ (.int .i64 b)).setCell ⟨w.heap.size + 1 + 1, 2, none⟩ (.bool f1)).setCell ⟨w.heap.size + 1 + 1, 3, none⟩ (.bool f2)).drew.cell? ⟨T, 1, none⟩ = some (.int .i64 d) ∧ ((((wc.setCell ⟨w.heap.size + 1 + 1, 0, none⟩ (.int .i64 a)).setCell ⟨w.heap.size + 1 + 1, 1, none⟩ (.int .i64 b)).setCell ⟨w.heap.size + 1 + 1, 2, none⟩ (.bool f1)).setCell ⟨w.heap.size + 1 + 1, 3, none⟩ (.bool f2)).drew.cell? ⟨T, 2, none⟩ = some (.bool f3) ∧ ((((wc.setCell ⟨w.heap.size + 1 + 1, 0, none⟩ (.int .i64 a)).setCell ⟨w.heap.size + 1 + 1, 1, none⟩ (.int .i64 b)).setCell ⟨w.heap.size + 1 + 1, 2, none⟩ (.bool f1)).setCell ⟨w.heap.size + 1 + 1, 3, none⟩ (.bool f2)).drew.cell? ⟨T, 3, none⟩ = some (.bool f4)) := hide ⟨(cells4 (cells_drew (cells_far4 (unhide K).f n3 (.int .i64 a) (.int .i64 b) (.bool f1) (.bool f2)))).1, (cells4 (cells_drew (cells_far4 (unhide K).f n3 (.int .i64 a) (.int .i64 b) (.bool f1) (.bool f2)))).2.1, (cells4 (cells_drew (cells_far4 (unhide K).f n3 (.int .i64 a) (.int .i64 b) (.bool f1) (.bool f2)))).2.2.1, (cells4 (cells_drew (cells_far4 (unhide K).f n3 (.int .i64 a) (.int .i64 b) (.bool f1) (.bool f2)))).2.2.2, (cells4 (cells_drew (cells_far4 (unhide K).t n7 (.int .i64 a) (.int .i64 b) (.bool f1) (.bool f2)))).1, (cells4 (cells_drew (cells_far4 (unhide K).t n7 (.int .i64 a) (.int .i64 b) (.bool f1) (.bool f2)))).2.1, (cells4 (cells_drew (cells_far4 (unhide K).t n7 (.int .i64 a) (.int .i64 b) (.bool f1) (.bool f2)))).2.2.1, (cells4 (cells_drew (cells_far4 (unhide K).t n7 (.int .i64 a) (.int .i64 b) (.bool f1) (.bool f2)))).2.2.2⟩
        have S2 : Hid (((((((((wc.setCell ⟨w.heap.size + 1 + 1, 0, none⟩ (.int .i64 a)).setCell ⟨w.heap.size + 1 + 1, 1, none⟩ (.int .i64 b)).setCell ⟨w.heap.size + 1 + 1, 2, none⟩ (.bool f1)).setCell ⟨w.heap.size + 1 + 1, 3, none⟩ (.bool f2)).setCell ⟨w.heap.size + 1 + 1 + 1, 0, none⟩ (.int .i64 c)).setCell ⟨w.heap.size + 1 + 1 + 1, 1, none⟩ (.int .i64 d)).setCell ⟨w.heap.size + 1 + 1 + 1, 2, none⟩ (.bool f3)).setCell ⟨w.heap.size + 1 + 1 + 1, 3, none⟩ (.bool f4)).drew.cell? ⟨F, 0, none⟩ = some (.int .i64 a) ∧ ((((((((wc.setCell ⟨w.heap.size + 1 + 1, 0, none⟩ (.int .i64 a)).setCell ⟨w.heap.size + 1 + 1, 1, none⟩ (.int .i64 b)).setCell ⟨w.heap.size + 1 + 1, 2, none⟩ (.bool f1)).setCell ⟨w.heap.size + 1 + 1, 3, none⟩ (.bool f2)).setCell ⟨w.heap.size + 1 + 1 + 1, 0, none⟩ (.int .i64 c)).setCell ⟨w.heap.size + 1 + 1 + 1, 1, none⟩ (.int .i64 d)).setCell ⟨w.heap.size + 1 + 1 + 1, 2, none⟩ (.bool f3)).setCell ⟨w.heap.size + 1 + 1 + 1, 3, none⟩ (.bool f4)).drew.cell? ⟨F, 1, none⟩ = some (.int .i64 b) ∧ ((((((((wc.setCell ⟨w.heap.size + 1 + 1, 0, none⟩ (.int .i64 a)).setCell ⟨w.heap.size + 1 + 1, 1, none⟩ (.int .i64 b)).setCell ⟨w.heap.size + 1 + 1, 2, none⟩ (.bool f1)).setCell ⟨w.heap.size + 1 + 1, 3, none⟩ (.bool f2)).setCell ⟨w.heap.size + 1 + 1 + 1, 0, none⟩ (.int .i64 c)).setCell ⟨w.heap.size + 1 + 1 + 1, 1, none⟩ (.int .i64 d)).setCell ⟨w.heap.size + 1 + 1 + 1, 2, none⟩ (.bool f3)).setCell ⟨w.heap.size + 1 + 1 + 1, 3, none⟩ (.bool f4)).drew.cell? ⟨F, 2, none⟩ = some (.bool f1) ∧ ((((((((wc.setCell ⟨w.heap.size + 1 + 1, 0, none⟩ (.int .i64 a)).setCell ⟨w.heap.size + 1 + 1, 1, none⟩ (.int .i64 b)).setCell ⟨w.heap.size + 1 + 1, 2, none⟩ (.bool f1)).setCell ⟨w.heap.size + 1 + 1, 3, none⟩ (.bool f2)).setCell ⟨w.heap.size + 1 + 1 + 1, 0, none⟩ (.int .i64 c)).setCell ⟨w.heap.size + 1 + 1 + 1, 1, none⟩ (.int .i64 d)).setCell ⟨w.heap.size + 1 + 1 + 1, 2, none⟩ (.bool f3)).setCell ⟨w.heap.size + 1 + 1 + 1, 3, none⟩ (.bool f4)).drew.cell? ⟨F, 3, none⟩ = some (.bool f2) ∧ ((((((((wc.setCell ⟨w.heap.size + 1 + 1, 0, none⟩ (.int .i64 a)).setCell ⟨w.heap.size + 1 + 1, 1, none⟩ (.int .i64 b)).setCell ⟨w.heap.size + 1 + 1, 2, none⟩ (.bool f1)).setCell ⟨w.heap.size + 1 + 1, 3, none⟩ (.bool f2)).setCell ⟨w.heap.size + 1 + 1 + 1, 0, none⟩ (.int .i64 c)).setCell ⟨w.heap.size + 1 + 1 + 1, 1, none⟩ (.int .i64 d)).setCell ⟨w.heap.size + 1 + 1 + 1, 2, none⟩ (.bool f3)).setCell ⟨w.heap.size + 1 + 1 + 1, 3, none⟩ (.bool f4)).drew.cell? ⟨T, 0, none⟩ = some (.int .i64 c) ∧ ((((((((wc.setCell ⟨w.heap.size + 1 + 1, 0, none⟩ (.int .i64 a)).setCell ⟨w.heap.size + 1 + 1, 1, none⟩ (.int .i64 b)).setCell ⟨w.heap.size + 1 + 1, 2, none⟩ (.bool f1)).setCell ⟨w.heap.size + 1 + 1, 3, none⟩ (.bool f2)).setCell ⟨w.heap.size + 1 + 1 + 1, 0, none⟩ (.int .i64 c)).setCell ⟨w.heap.size + 1 + 1 + 1, 1, none⟩ (.int .i64 d)).setCell ⟨w.heap.size + 1 + 1 + 1, 2, none⟩ (.bool f3)).setCell ⟨w.heap.size + 1 + 1 + 1, 3, none⟩ (.bool f4)).drew.cell? ⟨T, 1, none⟩ = some (.int .i64 d) ∧ ((((((((wc.setCell ⟨w.heap.size + 1 + 1, 0, none⟩ (.int .i64 a)).setCell ⟨w.heap.size + 1 + 1, 1, none⟩ (.int .i64 b)).setCell ⟨w.heap.size + 1 + 1, 2, none⟩ (.bool f1)).setCell ⟨w.heap.size + 1 + 1, 3, none⟩ (.bool f2)).setCell ⟨w.heap.size + 1 + 1 + 1, 0, none⟩ (.int .i64 c)).setCell ⟨w.heap.size + 1 + 1 + 1, 1, none⟩ (.int .i64 d)).setCell ⟨w.heap.size + 1 + 1 + 1, 2, none⟩ (.bool f3)).setCell ⟨w.heap.size + 1 + 1 + 1, 3, none⟩ (.bool f4)).drew.cell? ⟨T, 2, none⟩ = some (.bool f3) ∧ ((((((((wc.setCell ⟨w.heap.size + 1 + 1, 0, none⟩ (.int .i64 a)).setCell ⟨w.heap.size + 1 + 1, 1, none⟩ (.int .i64 b)).setCell ⟨w.heap.size + 1 + 1, 2, none⟩ (.bool f1)).setCell ⟨w.heap.size + 1 + 1, 3, none⟩ (.bool f2)).setCell ⟨w.heap.size + 1 + 1 + 1, 0, none⟩ (.int .i64 c)).setCell ⟨w.heap.size + 1 + 1 + 1, 1, none⟩ (.int .i64 d)).setCell ⟨w.heap.size + 1 + 1 + 1, 2, none⟩ (.bool f3)).setCell ⟨w.heap.size + 1 + 1 + 1, 3, none⟩ (.bool f4)).drew.cell? ⟨T, 3, none⟩ = some (.bool f4)) := hide ⟨(cells4 (cells_drew (cells_far4 (cells_far4 (unhide K).f n3 (.int .i64 a) (.int .i64 b) (.bool f1) (.bool f2)) n4 (.int .i64 c) (.int .i64 d) (.bool f3) (.bool f4)))).1, (cells4 (cells_drew (cells_far4 (cells_far4 (unhide K).f n3 (.int .i64 a) (.int .i64 b) (.bool f1) (.bool f2)) n4 (.int .i64 c) (.int .i64 d) (.bool f3) (.bool f4)))).2.1, (cells4 (cells_drew (cells_far4 (cells_far4 (unhide K).f n3 (.int .i64 a) (.int .i64 b) (.bool f1) (.bool f2)) n4 (.int .i64 c) (.int .i64 d) (.bool f3) (.bool f4)))).2.2.1, (cells4 (cells_drew (cells_far4 (cells_far4 (unhide K).f n3 (.int .i64 a) (.int .i64 b) (.bool f1) (.bool f2)) n4 (.int .i64 c) (.int .i64 d) (.bool f3) (.bool f4)))).2.2.2, (cells4 (cells_drew (cells_far4 (cells_far4 (unhide K).t n7 (.int .i64 a) (.int .i64 b) (.bool f1) (.bool f2)) n8 (.int .i64 c) (.int .i64 d) (.bool f3) (.bool f4)))).1, (cells4 (cells_drew (cells_far4 (cells_far4 (unhide K).t n7 (.int .i64 a) (.int .i64 b) (.bool f1) (.bool f2)) n8 (.int .i64 c) (.int .i64 d) (.bool f3) (.bool f4)))).2.1, (cells4 (cells_drew (cells_far4 (cells_far4 (unhide K).t n7 (.int .i64 a) (.int .i64 b) (.bool f1) (.bool f2)) n8 (.int .i64 c) (.int .i64 d) (.bool f3) (.bool f4)))).2.2.1, (cells4 (cells_drew (cells_far4 (cells_far4 (unhide K).t n7 (.int .i64 a) (.int .i64 b) (.bool f1) (.bool f2)) n8 (.int .i64 c) (.int .i64 d) (.bool f3) (.bool f4)))).2.2.2⟩
        go_region_held3 (fun w' => w'.cell? ⟨F, 0, none⟩ = some (.int .i64 a) ∧ w'.cell? ⟨F, 1, none⟩ = some (.int .i64 b) ∧ w'.cell? ⟨F, 2, none⟩ = some (.bool f1) ∧ w'.cell? ⟨F, 3, none⟩ = some (.bool f2) ∧ w'.cell? ⟨T, 0, none⟩ = some (.int .i64 c) ∧ w'.cell? ⟨T, 1, none⟩ = some (.int .i64 d) ∧ w'.cell? ⟨T, 2, none⟩ = some (.bool f3) ∧ w'.cell? ⟨T, 3, none⟩ = some (.bool f4)) (first | with_reducible exact unhide S0 | with_reducible exact unhide S1 | with_reducible exact unhide S2) (fail)
        go_wp2
        refine bodyPost_ret (results_c2 rfl _ _ _ _ _ _ _ _ _ _ rfl (cells_drew (cells_far4 (cells_set4 (unhide K).r0 _ _ _ _) (by omega) _ _ _ _)) Tryd.underlying29 rfl (by exact infoR) rfl (cells_drew (cells_set4 (cells_far4 (unhide K).r1 (by omega) _ _ _ _) _ _ _ _)) Tryd.underlying29 rfl (by exact infoR)) rfl ?_
        exact ⟨by rw [← (unhide HR).1, ← (unhide HR).2]; unfold cornA cornB Rf.cells; simp only [if_neg (Int.not_lt.2 (unhide HE).1), if_neg (Int.not_lt.2 (unhide HE).2)] <;> rfl, (below_set4 (below_set4 (unhide K).hb (by omega) _ _ _ _) (by omega) _ _ _ _).drew⟩
end Go.Proofs.YtlgmpoofcdkaeaaDoor
