/- The walk of ValueBytes. -/
import Derived.Deep.RegionHeld3
import Derived.Deep.CutRange
import Derived.Test.YteaodfeaidjcnaaGreatDoorVpV
import Derived.Test.YteaodfeaidjcnaaGreatDoorVwG0
import Derived.Test.YteaodfeaidjcnaaGreatDoorVrV
import Derived.Test.YteaodfeaidjcnaaGreatDoorVrX
namespace Go.Proofs.YteaodfeaidjcnaaGreatDoor
open Go.RowKit

set_option maxHeartbeats 2000000 in
theorem same_law (u : Vl) (w : World) :
    Calls Tryz.prog 17 #[.agg u.cells, .agg u.cells] w fun e w' => e = .returned (.bool true) ∧ Below w.heap.size w w' := by
  unfold Vl.cells
  go_enter Tryz.func17, Tryz.ntmps17
  go_wp2
  go_ret
  exact ⟨rfl, below_al2 _ _ _⟩
/-- Two cells of one block. -/
def TwoAt (w : World) (B : Nat) (t : TypeId) (a b : Value) : Prop := w.heap[B]? = some (.cells #[a, b] t (0, 0))
theorem two_lt {w : World} {B : Nat} {t : TypeId} {a b : Value} (h : TwoAt w B t a b) : B < w.heap.size := by
  rcases Nat.lt_or_ge B w.heap.size with h' | h'
  · exact h'
  · unfold TwoAt at h; rw [Array.getElem?_eq_none h'] at h; cases h
theorem two_below {w w' : World} {B N : Nat} {t : TypeId} {a b : Value} (h : TwoAt w B t a b) (hb : Below N w w') (hB : B < N) : TwoAt w' B t a b := by
  unfold TwoAt
  rw [hb.block B hB]; exact h
theorem two_new (w : World) (t : TypeId) (a b : Value) : TwoAt (w.alloc (.cells #[a, b] t)) w.heap.size t a b := heap_alloc_new _ _
theorem two_drew {w : World} {B : Nat} {t : TypeId} {a b : Value} (h : TwoAt w B t a b) : TwoAt w.drew B t a b := h
theorem two_cells {w : World} {B : Nat} {t : TypeId} {a b : Value} (h : TwoAt w B t a b) : w.cell? ⟨B, 0, none⟩ = some a ∧ w.cell? ⟨B, 1, none⟩ = some b := by
  unfold TwoAt at h
  simp [World.cell?, h]
theorem mid_size (t q : ByteArray) (ht : t.size ≤ 400) (hq : q.size ≤ 300) : (t.extract 0 (t.size / 2) ++ q ++ t.extract (t.size / 2) t.size).size ≤ 1100 := by
  show (t.extract 0 (t.size / 2) ++ q ++ t.extract (t.size / 2) t.size).data.toList.length ≤ 1100
  rw [app_list, app_list, List.length_append, List.length_append]
  have h1 := ext_size t 0 (t.size / 2)
  have h2 := ext_size t (t.size / 2) t.size
  have e1 : (t.extract 0 (t.size / 2)).data.toList.length = (t.extract 0 (t.size / 2)).size := rfl
  have e2 : (t.extract (t.size / 2) t.size).data.toList.length = (t.extract (t.size / 2) t.size).size := rfl
  have e3 : q.data.toList.length = q.size := rfl
  omega
theorem cut400 (s : ByteArray) : (s.extract 0 (min (s.size : Int) 400).toNat).size ≤ 400 := by
  rw [ByteArray.size_extract]; omega
theorem put_small (X : Vl) (hg : vGood X = true) : (putL X).length ≤ 300 := by
  rcases good_form X hg with rfl | ⟨n, hn, rfl⟩ | ⟨s, hs, rfl⟩ | ⟨b, rfl⟩ | ⟨f, h1, h8, rfl⟩
  · decide
  · show (be8 (u64N n)).length + 1 ≤ 300
    show 8 + 1 ≤ 300
    decide
  · show s.data.toList.length + 1 + 1 ≤ 300
    have : s.data.toList.length = s.size := rfl
    omega
  · cases b <;> decide
  · show 0 + 1 + 1 ≤ 300
    decide
theorem putV_small (X : Vl) : (putV X).1.size ≤ 300 := by
  unfold putV
  cases hg : vGood X
  · rw [if_neg (by decide)]; decide
  · rw [if_pos rfl]; exact put_small X hg

set_option maxRecDepth 100000 in
set_option maxHeartbeats 8000000 in
theorem bytes_law (x : Vl) (s : ByteArray) (k : Int) (w : World) (hx : x.text.size ≤ maxLen) (_hs : s.size ≤ maxLen) (_hk : (Lit.int .i64 k).wf = true) (he : Env3 w) :
    Calls Tryz.prog 4 #[.agg x.cells, .string s, .int .i64 k] w fun e w' => e = .returned (.bool true) ∧ Below w.heap.size w w' := by
  have HE := hide he
  clear he
  have HVX := hide (fun w => values_law x w hx)
  clear hx
  have SX : Hid ((cutV x).text.size ≤ 300) := hide (cutT_size x.text)
  obtain ⟨X, eX⟩ : ∃ X, cutV x = X := ⟨_, rfl⟩
  rw [eX] at HVX SX
  clear eX
  have HWK := hide wakes_val
  have HP1 := hide (fun w => put_val X w (by have := unhide SX; omega))
  have HP2 := hide (fun w => put_ref X w (by have := unhide SX; omega))
  have ZQ := hide (putV_small X)
  obtain ⟨r, er⟩ : ∃ r, putV X = r := ⟨_, rfl⟩
  rw [er] at HP1 HP2 ZQ
  clear er
  obtain ⟨q, pe⟩ := r
  simp only [] at HP1 HP2 ZQ
  unfold Vl.cells at HVX HP1 HP2 ⊢
  go_enter Tryz.func4, Tryz.ntmps4
  go_upto_region 2 with fail
  have ZT := hide (cut400 s)
  clear _hs _hk
  generalize s.extract 0 (min (s.size : Int) 400).toNat = t at ZT ⊢
  have PX := hide (five_new w 23 (.int .i64 x.kind) (.int .i64 x.num) (.string x.text) (.bool x.tr) (.int .i64 x.fail))
  have HB := hide (below_al w (.cells #[.int .i64 x.kind, .int .i64 x.num, .string x.text, .bool x.tr, .int .i64 x.fail] 23))
  generalize hW : w.alloc (.cells #[.int .i64 x.kind, .int .i64 x.num, .string x.text, .bool x.tr, .int .i64 x.fail] 23) = W0 at PX HB ⊢
  clear hW
  have HR1 := hide (fun w (he : Env3 w) => read_val t w (by have := unhide ZT; omega) he)
  have HR2 := hide (fun w => read_ref t w (by have := unhide ZT; omega))
  have HR3 := hide (fun w => same_law (readV t) w)
  obtain ⟨cR, ecR⟩ : ∃ c, (readV t).cells = c := ⟨_, rfl⟩
  rw [ecR] at HR1 HR2 HR3
  clear ecR
  obtain ⟨px_0, px_1, px_2, px_3, px_4⟩ := five_cells (unhide PX)
  go_wp2_with fail
  refine (unhide HVX _).mono ?_
  rintro e w1 ⟨rfl, b1⟩
  replace PX := hide (five_below (unhide PX) b1 (five_lt (unhide PX)))
  replace HB := hide (below_nx (unhide HB) b1)
  clear b1 px_0 px_1 px_2 px_3 px_4
  have A := hide (five_old w1 28 (.int .i64 X.kind) (.int .i64 X.num) (.string X.text) (.bool X.tr) (.int .i64 X.fail) (.cells #[.int .i64 X.kind, .int .i64 X.num, .string X.text, .bool X.tr, .int .i64 X.fail] 29))
  have RA := hide (five_new2 w1 (.cells #[.int .i64 X.kind, .int .i64 X.num, .string X.text, .bool X.tr, .int .i64 X.fail] 28) 29 (.int .i64 X.kind) (.int .i64 X.num) (.string X.text) (.bool X.tr) (.int .i64 X.fail))
  have bb := below_al2 w1 (.cells #[.int .i64 X.kind, .int .i64 X.num, .string X.text, .bool X.tr, .int .i64 X.fail] 28) (.cells #[.int .i64 X.kind, .int .i64 X.num, .string X.text, .bool X.tr, .int .i64 X.fail] 29)
  replace PX := hide (five_below (unhide PX) bb (five_lt (unhide PX)))
  replace HB := hide (below_nx (unhide HB) bb)
  clear bb
  go_upto_region 3 with fail
  generalize hW : (w1.alloc (.cells #[.int .i64 X.kind, .int .i64 X.num, .string X.text, .bool X.tr, .int .i64 X.fail] 28)).alloc (.cells #[.int .i64 X.kind, .int .i64 X.num, .string X.text, .bool X.tr, .int .i64 X.fail] 29) = W1 at A RA HB PX ⊢
  clear hW
  clear PX
  obtain ⟨a_0, a_1, a_2, a_3, a_4⟩ := five_cells (unhide A)
  go_wp2_with fail
  refine (unhide HP1 _).mono ?_
  rintro e w2 ⟨rfl, b2⟩
  replace A := hide (five_below (unhide A) b2 (five_lt (unhide A)))
  replace RA := hide (five_below (unhide RA) b2 (five_lt (unhide RA)))
  replace HB := hide (below_nx (unhide HB) b2)
  clear b2 a_0 a_1 a_2 a_3 a_4
  obtain ⟨ra_0, ra_1, ra_2, ra_3, ra_4⟩ := five_cells (unhide RA)
  go_wp2_with fail
  refine (unhide HP2 _).mono ?_
  rintro e w3 ⟨rfl, b3⟩
  replace A := hide (five_below (unhide A) b3 (five_lt (unhide A)))
  replace RA := hide (five_below (unhide RA) b3 (five_lt (unhide RA)))
  replace HB := hide (below_nx (unhide HB) b3)
  clear b3 ra_0 ra_1 ra_2 ra_3 ra_4
  clear A
  clear RA
  go_wp2_with fail
  refine (unhide HR1 _ ((unhide HE).below (unhide HB))).mono ?_
  rintro e w4 ⟨rfl, b4⟩
  replace HB := hide (below_nx (unhide HB) b4)
  clear b4
  go_wp2_with fail
  refine (unhide HR2 _).mono ?_
  rintro e w5 ⟨rfl, b5⟩
  replace HB := hide (below_nx (unhide HB) b5)
  clear b5
  go_wp2_with fail
  refine (unhide HR3 _).mono ?_
  rintro e w6 ⟨rfl, b6⟩
  replace HB := hide (below_nx (unhide HB) b6)
  clear b6
  have HU : Hid (∃ u : ByteArray, t.extract 0 (t.size / 2) ++ q ++ t.extract (t.size / 2) t.size = u ∧ u.size ≤ 1100) := hide ⟨_, rfl, mid_size t q (unhide ZT) (unhide ZQ)⟩
  obtain ⟨u, hu, zu⟩ := unhide HU
  clear HU
  have HU := hide hu
  have ZU := hide zu
  clear hu zu HVX HP1 HP2 HR1 HR2 HR3
  go_upto_region 7 with fail
  go_cut [73, 74, 75] from 59 to 75 (fun v1 v2 v3 wx => v1 = .slice (some ⟨w6.heap.size, 0, none⟩) 2 2 ∧ v2 = .int .i64 2 ∧ v3 = .int .i64 0 ∧ wx = (w6.alloc (.cells #[.string t, .string u] 9)).drew)
  case first =>
    have zt := unhide ZT
    have zq := unhide ZQ
    go_region
    all_goals (try go_wp2_with fail)
    all_goals go_meet
    all_goals exact ⟨rfl, rfl, rfl, by rw [unhide HU]⟩
  case rest =>
    obtain ⟨rfl, rfl, rfl, rfl⟩ := hcut
    have GS := hide (two_drew (two_new w6 9 (.string t) (.string u)))
    replace HB := hide (below_nx (unhide HB) (below_al w6 (.cells #[.string t, .string u] 9))).drew
    generalize (w6.alloc (.cells #[.string t, .string u] 9)).drew = W7 at GS HB ⊢
    clear HU
    go_wp2
    go_loopw [75] (fun v wr => ∃ i : Nat, v = .int .i64 (i : Int) ∧ i ≤ 2 ∧ Hid (TwoAt wr w6.heap.size 9 (.string t) (.string u)) ∧ Hid (Below w.heap.size w wr)) (fun v _ => (2 - intOf v).toNat)
    case atStart => exact ⟨0, rfl, by omega, GS, HB⟩
    case round =>
      clear GS HB
      obtain ⟨i, rfl, hi, GS, HB⟩ := hrel
      have h2 : i = 0 ∨ i = 1 ∨ i = 2 := by omega
      clear hi
      rcases h2 with rfl | rfl | rfl
      · obtain ⟨s0, s1⟩ := two_cells (unhide GS)
        have zt := unhide ZT
        go_upto_region 10 with fail
        clear s0 s1
        go_upto_region 11 with fail
        have GI := hide (two_new wr 3 (.int .i64 k) (.int .i64 ((t.size : Int) / 2)))
        have bb := below_al wr (.cells #[.int .i64 k, .int .i64 ((t.size : Int) / 2)] 3)
        replace GS := hide (two_below (unhide GS) bb (two_lt (unhide GS)))
        replace HB := hide (below_nx (unhide HB) bb)
        clear bb zt
        generalize hW : wr.alloc (.cells #[.int .i64 k, .int .i64 ((t.size : Int) / 2)] 3) = W8 at GI GS HB ⊢
        clear hW
        go_loopw [85] (fun v wz => ∃ j : Nat, v = .int .i64 (j : Int) ∧ j ≤ 2 ∧ Hid (TwoAt wz wr.heap.size 3 (.int .i64 k) (.int .i64 ((t.size : Int) / 2))) ∧ Hid (TwoAt wz w6.heap.size 9 (.string t) (.string u)) ∧ Hid (Below w.heap.size w wz)) (fun v _ => (2 - intOf v).toNat)
        case atStart => exact ⟨0, rfl, by omega, GI, GS, HB⟩
        case round =>
          clear GI GS HB
          obtain ⟨j, rfl, hj, GI, GS, HB⟩ := hrel
          have h2 : j = 0 ∨ j = 1 ∨ j = 2 := by omega
          clear hj
          rcases h2 with rfl | rfl | rfl
          · have H1 := hide (fun w => get_val t k w (by have := unhide ZT; omega))
            have H2 := hide (fun w => get_ref t k w (by have := unhide ZT; omega))
            rw [getP_eq] at H1
            obtain ⟨r, er⟩ : ∃ r, getV t k = r := ⟨_, rfl⟩
            rw [er] at H1 H2
            clear er
            obtain ⟨R, n, g⟩ := r
            have H3 := hide (fun w => same_law R w)
            unfold GetPost at H1 H2
            simp only [] at H1 H2
            unfold Vl.cells at H1 H2 H3
            obtain ⟨i0, i1⟩ := two_cells (unhide GI)
            go_wp2_with fail
            refine (unhide H1 _).mono ?_
            rintro e y1 ⟨rfl, b1⟩
            clear i0 i1
            replace GS := hide (two_below (unhide GS) b1 (two_lt (unhide GS)))
            replace GI := hide (two_below (unhide GI) b1 (two_lt (unhide GI)))
            replace HB := hide (below_nx (unhide HB) b1)
            clear b1
            have RV := hide (five_new y1 28 (.int .i64 R.kind) (.int .i64 R.num) (.string R.text) (.bool R.tr) (.int .i64 R.fail))
            have bb := below_al y1 (.cells #[.int .i64 R.kind, .int .i64 R.num, .string R.text, .bool R.tr, .int .i64 R.fail] 28)
            replace GS := hide (two_below (unhide GS) bb (two_lt (unhide GS)))
            replace GI := hide (two_below (unhide GI) bb (two_lt (unhide GI)))
            replace HB := hide (below_nx (unhide HB) bb)
            clear bb
            go_upto_region 14 with fail
            generalize hW : y1.alloc (.cells #[.int .i64 R.kind, .int .i64 R.num, .string R.text, .bool R.tr, .int .i64 R.fail] 28) = Y1 at RV GS GI HB ⊢
            clear hW
            go_wp2_with fail
            refine (unhide H2 _).mono ?_
            rintro e y2 ⟨rfl, b2⟩
            replace GS := hide (two_below (unhide GS) b2 (two_lt (unhide GS)))
            replace GI := hide (two_below (unhide GI) b2 (two_lt (unhide GI)))
            replace RV := hide (five_below (unhide RV) b2 (five_lt (unhide RV)))
            replace HB := hide (below_nx (unhide HB) b2)
            clear b2
            have RW := hide (five_new y2 29 (.int .i64 R.kind) (.int .i64 R.num) (.string R.text) (.bool R.tr) (.int .i64 R.fail))
            have bb := below_al y2 (.cells #[.int .i64 R.kind, .int .i64 R.num, .string R.text, .bool R.tr, .int .i64 R.fail] 29)
            replace GS := hide (two_below (unhide GS) bb (two_lt (unhide GS)))
            replace GI := hide (two_below (unhide GI) bb (two_lt (unhide GI)))
            replace RV := hide (five_below (unhide RV) bb (five_lt (unhide RV)))
            replace HB := hide (below_nx (unhide HB) bb)
            clear bb
            go_upto_region 15 with fail
            generalize hW : y2.alloc (.cells #[.int .i64 R.kind, .int .i64 R.num, .string R.text, .bool R.tr, .int .i64 R.fail] 29) = Y2 at RV RW GS GI HB ⊢
            clear hW
            obtain ⟨c0, c1, c2, c3, c4⟩ := five_cells (unhide RV)
            obtain ⟨d0, d1, d2, d3, d4⟩ := five_cells (unhide RW)
            go_wp2_with fail
            refine (unhide H3 _).mono ?_
            rintro e y3 ⟨rfl, b3⟩
            clear c0 c1 c2 c3 c4 d0 d1 d2 d3 d4 RV RW H1 H2 H3
            replace GS := hide (two_below (unhide GS) b3 (two_lt (unhide GS)))
            replace GI := hide (two_below (unhide GI) b3 (two_lt (unhide GI)))
            replace HB := hide (below_nx (unhide HB) b3)
            clear b3
            go_wp2
            go_roundw
            case rel =>
              first
                | exact ⟨1, rfl, by omega, GI, GS, HB⟩
                | ((repeat apply Exists.intro); exact ⟨⟨1, rfl, by omega, GI, GS, HB⟩, rfl⟩)
            case measure => simp [intOf]
          · have H1 := hide (fun w => get_val t ((t.size : Int) / 2) w (by have := unhide ZT; omega))
            have H2 := hide (fun w => get_ref t ((t.size : Int) / 2) w (by have := unhide ZT; omega))
            rw [getP_eq] at H1
            obtain ⟨r, er⟩ : ∃ r, getV t ((t.size : Int) / 2) = r := ⟨_, rfl⟩
            rw [er] at H1 H2
            clear er
            obtain ⟨R, n, g⟩ := r
            have H3 := hide (fun w => same_law R w)
            unfold GetPost at H1 H2
            simp only [] at H1 H2
            unfold Vl.cells at H1 H2 H3
            obtain ⟨i0, i1⟩ := two_cells (unhide GI)
            go_wp2_with fail
            refine (unhide H1 _).mono ?_
            rintro e y1 ⟨rfl, b1⟩
            clear i0 i1
            replace GS := hide (two_below (unhide GS) b1 (two_lt (unhide GS)))
            replace GI := hide (two_below (unhide GI) b1 (two_lt (unhide GI)))
            replace HB := hide (below_nx (unhide HB) b1)
            clear b1
            have RV := hide (five_new y1 28 (.int .i64 R.kind) (.int .i64 R.num) (.string R.text) (.bool R.tr) (.int .i64 R.fail))
            have bb := below_al y1 (.cells #[.int .i64 R.kind, .int .i64 R.num, .string R.text, .bool R.tr, .int .i64 R.fail] 28)
            replace GS := hide (two_below (unhide GS) bb (two_lt (unhide GS)))
            replace GI := hide (two_below (unhide GI) bb (two_lt (unhide GI)))
            replace HB := hide (below_nx (unhide HB) bb)
            clear bb
            go_upto_region 14 with fail
            generalize hW : y1.alloc (.cells #[.int .i64 R.kind, .int .i64 R.num, .string R.text, .bool R.tr, .int .i64 R.fail] 28) = Y1 at RV GS GI HB ⊢
            clear hW
            go_wp2_with fail
            refine (unhide H2 _).mono ?_
            rintro e y2 ⟨rfl, b2⟩
            replace GS := hide (two_below (unhide GS) b2 (two_lt (unhide GS)))
            replace GI := hide (two_below (unhide GI) b2 (two_lt (unhide GI)))
            replace RV := hide (five_below (unhide RV) b2 (five_lt (unhide RV)))
            replace HB := hide (below_nx (unhide HB) b2)
            clear b2
            have RW := hide (five_new y2 29 (.int .i64 R.kind) (.int .i64 R.num) (.string R.text) (.bool R.tr) (.int .i64 R.fail))
            have bb := below_al y2 (.cells #[.int .i64 R.kind, .int .i64 R.num, .string R.text, .bool R.tr, .int .i64 R.fail] 29)
            replace GS := hide (two_below (unhide GS) bb (two_lt (unhide GS)))
            replace GI := hide (two_below (unhide GI) bb (two_lt (unhide GI)))
            replace RV := hide (five_below (unhide RV) bb (five_lt (unhide RV)))
            replace HB := hide (below_nx (unhide HB) bb)
            clear bb
            go_upto_region 15 with fail
            generalize hW : y2.alloc (.cells #[.int .i64 R.kind, .int .i64 R.num, .string R.text, .bool R.tr, .int .i64 R.fail] 29) = Y2 at RV RW GS GI HB ⊢
            clear hW
            obtain ⟨c0, c1, c2, c3, c4⟩ := five_cells (unhide RV)
            obtain ⟨d0, d1, d2, d3, d4⟩ := five_cells (unhide RW)
            go_wp2_with fail
            refine (unhide H3 _).mono ?_
            rintro e y3 ⟨rfl, b3⟩
            clear c0 c1 c2 c3 c4 d0 d1 d2 d3 d4 RV RW H1 H2 H3
            replace GS := hide (two_below (unhide GS) b3 (two_lt (unhide GS)))
            replace GI := hide (two_below (unhide GI) b3 (two_lt (unhide GI)))
            replace HB := hide (below_nx (unhide HB) b3)
            clear b3
            go_wp2
            go_roundw
            case rel =>
              first
                | exact ⟨2, rfl, by omega, GI, GS, HB⟩
                | ((repeat apply Exists.intro); exact ⟨⟨2, rfl, by omega, GI, GS, HB⟩, rfl⟩)
            case measure => simp [intOf]
          · go_wp2
            go_roundw
            case rel =>
              first
                | exact ⟨1, rfl, by omega, GS, HB⟩
                | ((repeat apply Exists.intro); exact ⟨⟨1, rfl, by omega, GS, HB⟩, rfl⟩)
            case measure => simp [intOf]
      · obtain ⟨s0, s1⟩ := two_cells (unhide GS)
        have zt := unhide ZT
        go_upto_region 10 with fail
        clear s0 s1
        go_upto_region 11 with fail
        have GI := hide (two_new wr 3 (.int .i64 k) (.int .i64 ((t.size : Int) / 2)))
        have bb := below_al wr (.cells #[.int .i64 k, .int .i64 ((t.size : Int) / 2)] 3)
        replace GS := hide (two_below (unhide GS) bb (two_lt (unhide GS)))
        replace HB := hide (below_nx (unhide HB) bb)
        clear bb zt
        generalize hW : wr.alloc (.cells #[.int .i64 k, .int .i64 ((t.size : Int) / 2)] 3) = W8 at GI GS HB ⊢
        clear hW
        go_loopw [85] (fun v wz => ∃ j : Nat, v = .int .i64 (j : Int) ∧ j ≤ 2 ∧ Hid (TwoAt wz wr.heap.size 3 (.int .i64 k) (.int .i64 ((t.size : Int) / 2))) ∧ Hid (TwoAt wz w6.heap.size 9 (.string t) (.string u)) ∧ Hid (Below w.heap.size w wz)) (fun v _ => (2 - intOf v).toNat)
        case atStart => exact ⟨0, rfl, by omega, GI, GS, HB⟩
        case round =>
          clear GI GS HB
          obtain ⟨j, rfl, hj, GI, GS, HB⟩ := hrel
          have h2 : j = 0 ∨ j = 1 ∨ j = 2 := by omega
          clear hj
          rcases h2 with rfl | rfl | rfl
          · have H1 := hide (fun w => get_val u k w (by have := unhide ZU; omega))
            have H2 := hide (fun w => get_ref u k w (by have := unhide ZU; omega))
            rw [getP_eq] at H1
            obtain ⟨r, er⟩ : ∃ r, getV u k = r := ⟨_, rfl⟩
            rw [er] at H1 H2
            clear er
            obtain ⟨R, n, g⟩ := r
            have H3 := hide (fun w => same_law R w)
            unfold GetPost at H1 H2
            simp only [] at H1 H2
            unfold Vl.cells at H1 H2 H3
            obtain ⟨i0, i1⟩ := two_cells (unhide GI)
            go_wp2_with fail
            refine (unhide H1 _).mono ?_
            rintro e y1 ⟨rfl, b1⟩
            clear i0 i1
            replace GS := hide (two_below (unhide GS) b1 (two_lt (unhide GS)))
            replace GI := hide (two_below (unhide GI) b1 (two_lt (unhide GI)))
            replace HB := hide (below_nx (unhide HB) b1)
            clear b1
            have RV := hide (five_new y1 28 (.int .i64 R.kind) (.int .i64 R.num) (.string R.text) (.bool R.tr) (.int .i64 R.fail))
            have bb := below_al y1 (.cells #[.int .i64 R.kind, .int .i64 R.num, .string R.text, .bool R.tr, .int .i64 R.fail] 28)
            replace GS := hide (two_below (unhide GS) bb (two_lt (unhide GS)))
            replace GI := hide (two_below (unhide GI) bb (two_lt (unhide GI)))
            replace HB := hide (below_nx (unhide HB) bb)
            clear bb
            go_upto_region 14 with fail
            generalize hW : y1.alloc (.cells #[.int .i64 R.kind, .int .i64 R.num, .string R.text, .bool R.tr, .int .i64 R.fail] 28) = Y1 at RV GS GI HB ⊢
            clear hW
            go_wp2_with fail
            refine (unhide H2 _).mono ?_
            rintro e y2 ⟨rfl, b2⟩
            replace GS := hide (two_below (unhide GS) b2 (two_lt (unhide GS)))
            replace GI := hide (two_below (unhide GI) b2 (two_lt (unhide GI)))
            replace RV := hide (five_below (unhide RV) b2 (five_lt (unhide RV)))
            replace HB := hide (below_nx (unhide HB) b2)
            clear b2
            have RW := hide (five_new y2 29 (.int .i64 R.kind) (.int .i64 R.num) (.string R.text) (.bool R.tr) (.int .i64 R.fail))
            have bb := below_al y2 (.cells #[.int .i64 R.kind, .int .i64 R.num, .string R.text, .bool R.tr, .int .i64 R.fail] 29)
            replace GS := hide (two_below (unhide GS) bb (two_lt (unhide GS)))
            replace GI := hide (two_below (unhide GI) bb (two_lt (unhide GI)))
            replace RV := hide (five_below (unhide RV) bb (five_lt (unhide RV)))
            replace HB := hide (below_nx (unhide HB) bb)
            clear bb
            go_upto_region 15 with fail
            generalize hW : y2.alloc (.cells #[.int .i64 R.kind, .int .i64 R.num, .string R.text, .bool R.tr, .int .i64 R.fail] 29) = Y2 at RV RW GS GI HB ⊢
            clear hW
            obtain ⟨c0, c1, c2, c3, c4⟩ := five_cells (unhide RV)
            obtain ⟨d0, d1, d2, d3, d4⟩ := five_cells (unhide RW)
            go_wp2_with fail
            refine (unhide H3 _).mono ?_
            rintro e y3 ⟨rfl, b3⟩
            clear c0 c1 c2 c3 c4 d0 d1 d2 d3 d4 RV RW H1 H2 H3
            replace GS := hide (two_below (unhide GS) b3 (two_lt (unhide GS)))
            replace GI := hide (two_below (unhide GI) b3 (two_lt (unhide GI)))
            replace HB := hide (below_nx (unhide HB) b3)
            clear b3
            go_wp2
            go_roundw
            case rel =>
              first
                | exact ⟨1, rfl, by omega, GI, GS, HB⟩
                | ((repeat apply Exists.intro); exact ⟨⟨1, rfl, by omega, GI, GS, HB⟩, rfl⟩)
            case measure => simp [intOf]
          · have H1 := hide (fun w => get_val u ((t.size : Int) / 2) w (by have := unhide ZU; omega))
            have H2 := hide (fun w => get_ref u ((t.size : Int) / 2) w (by have := unhide ZU; omega))
            rw [getP_eq] at H1
            obtain ⟨r, er⟩ : ∃ r, getV u ((t.size : Int) / 2) = r := ⟨_, rfl⟩
            rw [er] at H1 H2
            clear er
            obtain ⟨R, n, g⟩ := r
            have H3 := hide (fun w => same_law R w)
            unfold GetPost at H1 H2
            simp only [] at H1 H2
            unfold Vl.cells at H1 H2 H3
            obtain ⟨i0, i1⟩ := two_cells (unhide GI)
            go_wp2_with fail
            refine (unhide H1 _).mono ?_
            rintro e y1 ⟨rfl, b1⟩
            clear i0 i1
            replace GS := hide (two_below (unhide GS) b1 (two_lt (unhide GS)))
            replace GI := hide (two_below (unhide GI) b1 (two_lt (unhide GI)))
            replace HB := hide (below_nx (unhide HB) b1)
            clear b1
            have RV := hide (five_new y1 28 (.int .i64 R.kind) (.int .i64 R.num) (.string R.text) (.bool R.tr) (.int .i64 R.fail))
            have bb := below_al y1 (.cells #[.int .i64 R.kind, .int .i64 R.num, .string R.text, .bool R.tr, .int .i64 R.fail] 28)
            replace GS := hide (two_below (unhide GS) bb (two_lt (unhide GS)))
            replace GI := hide (two_below (unhide GI) bb (two_lt (unhide GI)))
            replace HB := hide (below_nx (unhide HB) bb)
            clear bb
            go_upto_region 14 with fail
            generalize hW : y1.alloc (.cells #[.int .i64 R.kind, .int .i64 R.num, .string R.text, .bool R.tr, .int .i64 R.fail] 28) = Y1 at RV GS GI HB ⊢
            clear hW
            go_wp2_with fail
            refine (unhide H2 _).mono ?_
            rintro e y2 ⟨rfl, b2⟩
            replace GS := hide (two_below (unhide GS) b2 (two_lt (unhide GS)))
            replace GI := hide (two_below (unhide GI) b2 (two_lt (unhide GI)))
            replace RV := hide (five_below (unhide RV) b2 (five_lt (unhide RV)))
            replace HB := hide (below_nx (unhide HB) b2)
            clear b2
            have RW := hide (five_new y2 29 (.int .i64 R.kind) (.int .i64 R.num) (.string R.text) (.bool R.tr) (.int .i64 R.fail))
            have bb := below_al y2 (.cells #[.int .i64 R.kind, .int .i64 R.num, .string R.text, .bool R.tr, .int .i64 R.fail] 29)
            replace GS := hide (two_below (unhide GS) bb (two_lt (unhide GS)))
            replace GI := hide (two_below (unhide GI) bb (two_lt (unhide GI)))
            replace RV := hide (five_below (unhide RV) bb (five_lt (unhide RV)))
            replace HB := hide (below_nx (unhide HB) bb)
            clear bb
            go_upto_region 15 with fail
            generalize hW : y2.alloc (.cells #[.int .i64 R.kind, .int .i64 R.num, .string R.text, .bool R.tr, .int .i64 R.fail] 29) = Y2 at RV RW GS GI HB ⊢
            clear hW
            obtain ⟨c0, c1, c2, c3, c4⟩ := five_cells (unhide RV)
            obtain ⟨d0, d1, d2, d3, d4⟩ := five_cells (unhide RW)
            go_wp2_with fail
            refine (unhide H3 _).mono ?_
            rintro e y3 ⟨rfl, b3⟩
            clear c0 c1 c2 c3 c4 d0 d1 d2 d3 d4 RV RW H1 H2 H3
            replace GS := hide (two_below (unhide GS) b3 (two_lt (unhide GS)))
            replace GI := hide (two_below (unhide GI) b3 (two_lt (unhide GI)))
            replace HB := hide (below_nx (unhide HB) b3)
            clear b3
            go_wp2
            go_roundw
            case rel =>
              first
                | exact ⟨2, rfl, by omega, GI, GS, HB⟩
                | ((repeat apply Exists.intro); exact ⟨⟨2, rfl, by omega, GI, GS, HB⟩, rfl⟩)
            case measure => simp [intOf]
          · go_wp2
            go_roundw
            case rel =>
              first
                | exact ⟨2, rfl, by omega, GS, HB⟩
                | ((repeat apply Exists.intro); exact ⟨⟨2, rfl, by omega, GS, HB⟩, rfl⟩)
            case measure => simp [intOf]
      · go_wp2_with fail
        refine (unhide HWK _ ((unhide HE).below (unhide HB))).mono ?_
        rintro e y9 ⟨rfl, b9⟩
        replace HB := hide (below_nx (unhide HB) b9)
        clear b9
        go_wp2
        go_ret
        exact ⟨rfl, unhide HB⟩
end Go.Proofs.YteaodfeaidjcnaaGreatDoor
