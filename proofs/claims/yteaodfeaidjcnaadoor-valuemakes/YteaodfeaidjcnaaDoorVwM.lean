/- The walk of ValueMakes. -/
import Derived.Deep.RegionHeld3
import Derived.Test.YteaodfeaidjcnaaDoorVpV
import Derived.Test.YteaodfeaidjcnaaDoorVpW
namespace Go.Proofs.YteaodfeaidjcnaaDoor
open Go.RowKit

set_option maxHeartbeats 2000000 in
theorem same_law (u : Vl) (w : World) :
    Calls Tryd.prog 11 #[.agg u.cells, .agg u.cells] w fun e w' => e = .returned (.bool true) ∧ Below w.heap.size w w' := by
  unfold Vl.cells
  go_enter Tryd.func11, Tryd.ntmps11
  go_wp2
  go_ret
  exact ⟨rfl, below_al2 _ _ _⟩
theorem cut_size (s : ByteArray) : (s.extract 0 (min (s.size : Int) 300).toNat).size ≤ 300 := by
  rw [ByteArray.size_extract]; omega

set_option maxRecDepth 100000 in
set_option maxHeartbeats 8000000 in
theorem makes_law (x : Vl) (s : ByteArray) (n : Int) (w : World) (hx : x.text.size ≤ maxLen) (_hs : s.size ≤ maxLen) (_hn : (Lit.int .i64 n).wf = true) (he : Env3 w) :
    Calls Tryd.prog 3 #[.agg x.cells, .string s, .int .i64 n] w fun e w' => e = .returned (.bool true) ∧ Below w.heap.size w w' := by
  have HE := hide he
  clear he
  have HVX := hide (fun w => values_law x w hx)
  clear hx
  have SX : Hid ((cutV x).text.size ≤ 300) := hide (cutT_size x.text)
  obtain ⟨X, eX⟩ : ∃ X, cutV x = X := ⟨_, rfl⟩
  rw [eX] at HVX SX
  clear eX
  have HWK := hide wakes_val
  have HG1 := hide (fun w => good3_val X w (by have := unhide SX; omega))
  have HG2 := hide (fun w => good3_ref X w (by have := unhide SX; omega))
  obtain ⟨G, eG⟩ : ∃ G, vGood X = G := ⟨_, rfl⟩
  rw [eG] at HG1 HG2
  clear eG
  have HN1 := hide (fun w => n_val n w)
  have HN2 := hide (fun w => n_ref n w)
  have HN3 := hide (fun w => same_law (vN n) w)
  obtain ⟨cN, ecN⟩ : ∃ c, (vN n).cells = c := ⟨_, rfl⟩
  rw [ecN] at HN1 HN2 HN3
  clear ecN
  have HC1 := hide (fun w => b_val x.tr w)
  have HC2 := hide (fun w => b_ref x.tr w)
  have HC3 := hide (fun w => same_law (vB x.tr) w)
  obtain ⟨cB, ecB⟩ : ∃ c, (vB x.tr).cells = c := ⟨_, rfl⟩
  rw [ecB] at HC1 HC2 HC3
  clear ecB
  unfold Vl.cells at HVX HG1 HG2 ⊢
  go_enter Tryd.func3, Tryd.ntmps3
  go_upto_region 1 with fail
  have PX := hide (five_new w 23 (.int .i64 x.kind) (.int .i64 x.num) (.string x.text) (.bool x.tr) (.int .i64 x.fail))
  have HB := hide (below_al w (.cells #[.int .i64 x.kind, .int .i64 x.num, .string x.text, .bool x.tr, .int .i64 x.fail] 23))
  generalize hW : w.alloc (.cells #[.int .i64 x.kind, .int .i64 x.num, .string x.text, .bool x.tr, .int .i64 x.fail] 23) = W0 at PX HB ⊢
  clear hW
  obtain ⟨px_0, px_1, px_2, px_3, px_4⟩ := five_cells (unhide PX)
  go_wp2_with fail
  refine (unhide HVX _).mono ?_
  rintro e w1 ⟨rfl, b1⟩
  replace PX := hide (five_below (unhide PX) b1 (five_lt (unhide PX)))
  replace HB := hide (below_nx (unhide HB) b1)
  clear b1 px_0 px_1 px_2 px_3 px_4
  have A := hide (five_old w1 28 (.int .i64 X.kind) (.int .i64 X.num) (.string X.text) (.bool X.tr) (.int .i64 X.fail) (.cells #[.int .i64 X.kind, .int .i64 X.num, .string X.text, .bool X.tr, .int .i64 X.fail] 29))
  have RA := hide (five_new2 w1 (.cells #[.int .i64 X.kind, .int .i64 X.num, .string X.text, .bool X.tr, .int .i64 X.fail] 28) 29 (.int .i64 X.kind) (.int .i64 X.num) (.string X.text) (.bool X.tr) (.int .i64 X.fail))
  have bb := below_al2 w1 (.cells #[.int .i64 X.kind, .int .i64 X.num, .string X.text, .bool X.tr, .int .i64 X.fail] 28) (.cells #[.int .i64 X.kind, .int .i64 X.num, .string X.text, .bool X.tr, .int .i64 X.fail] 29)
  replace PX := hide (five_below (unhide PX) bb (five_lt (unhide PX)))
  replace HB := hide (below_nx (unhide HB) bb)
  clear bb
  go_upto_region 2 with fail
  generalize hW : (w1.alloc (.cells #[.int .i64 X.kind, .int .i64 X.num, .string X.text, .bool X.tr, .int .i64 X.fail] 28)).alloc (.cells #[.int .i64 X.kind, .int .i64 X.num, .string X.text, .bool X.tr, .int .i64 X.fail] 29) = W1 at A RA HB PX ⊢
  clear hW
  go_upto_region 4 with fail
  have ST := hide (cut_size s)
  clear _hs _hn
  generalize s.extract 0 (min (s.size : Int) 300).toNat = t at ST ⊢
  generalize Int.tmod n 20 = m
  have HT1 := hide (fun w => t_val t w (by have := unhide ST; omega))
  have HT2 := hide (fun w => t_ref t w (by have := unhide ST; omega))
  have HT3 := hide (fun w => same_law (vT t) w)
  obtain ⟨cT, ecT⟩ : ∃ c, (vT t).cells = c := ⟨_, rfl⟩
  rw [ecT] at HT1 HT2 HT3
  clear ecT
  have HF1 := hide (fun w => e_val m w)
  have HF2 := hide (fun w => e_ref m w)
  have HF3 := hide (fun w => same_law (vE m) w)
  obtain ⟨cE, ecE⟩ : ∃ c, (vE m).cells = c := ⟨_, rfl⟩
  rw [ecE] at HF1 HF2 HF3
  clear ecE
  have HX1 := hide (fun w (he : Env3 w) => sign_b m w he)
  have HX2 := hide (fun w => signs_ref m w)
  obtain ⟨sg, esg⟩ : ∃ sg, signV m = sg := ⟨_, rfl⟩
  rw [esg] at HX1 HX2
  clear esg
  have HL1 := hide (fun w => lower_val t w (by have := unhide ST; omega))
  have HL2 := hide (fun w => lower_ref t w (by have := unhide ST; omega))
  obtain ⟨lw, elw⟩ : ∃ lw, mapB lowC t = lw := ⟨_, rfl⟩
  rw [elw] at HL1 HL2
  clear elw
  have HU1 := hide (fun w => upper_val t w (by have := unhide ST; omega))
  have HU2 := hide (fun w => upper_ref t w (by have := unhide ST; omega))
  obtain ⟨up, eup⟩ : ∃ up, mapB upC t = up := ⟨_, rfl⟩
  rw [eup] at HU1 HU2
  clear eup
  replace PX := hide (five_drew (unhide PX))
  replace A := hide (five_drew (unhide A))
  replace RA := hide (five_drew (unhide RA))
  replace HB := hide (unhide HB).drew
  obtain ⟨a_0, a_1, a_2, a_3, a_4⟩ := five_cells (unhide A)
  obtain ⟨ra_0, ra_1, ra_2, ra_3, ra_4⟩ := five_cells (unhide RA)
  obtain ⟨px_0, px_1, px_2, px_3, px_4⟩ := five_cells (unhide PX)
  go_region_held3 (fun w' => w'.cell? ⟨w1.heap.size, 0, none⟩ = some (.int .i64 X.kind) ∧ w'.cell? ⟨w1.heap.size, 1, none⟩ = some (.int .i64 X.num) ∧ w'.cell? ⟨w1.heap.size, 2, none⟩ = some (.string X.text) ∧ w'.cell? ⟨w1.heap.size, 3, none⟩ = some (.bool X.tr) ∧ w'.cell? ⟨w1.heap.size, 4, none⟩ = some (.int .i64 X.fail) ∧ w'.cell? ⟨w1.heap.size + 1, 0, none⟩ = some (.int .i64 X.kind) ∧ w'.cell? ⟨w1.heap.size + 1, 1, none⟩ = some (.int .i64 X.num) ∧ w'.cell? ⟨w1.heap.size + 1, 2, none⟩ = some (.string X.text) ∧ w'.cell? ⟨w1.heap.size + 1, 3, none⟩ = some (.bool X.tr) ∧ w'.cell? ⟨w1.heap.size + 1, 4, none⟩ = some (.int .i64 X.fail) ∧ w'.cell? ⟨w.heap.size, 3, none⟩ = some (.bool x.tr)) (first | exact ⟨a_0, a_1, a_2, a_3, a_4, ra_0, ra_1, ra_2, ra_3, ra_4, px_3⟩ | go_keep)
    (first
      | (go_at_call 8; refine (unhide HWK _ ((unhide HE).below (unhide HB))).mono ?_; rintro e yy ⟨rfl, zz⟩; replace PX := hide (five_below (unhide PX) zz (five_lt (unhide PX))); replace A := hide (five_below (unhide A) zz (five_lt (unhide A))); replace RA := hide (five_below (unhide RA) zz (five_lt (unhide RA))); replace HB := hide (below_nx (unhide HB) zz); clear zz a_0 a_1 a_2 a_3 a_4 ra_0 ra_1 ra_2 ra_3 ra_4 px_0 px_1 px_2 px_3 px_4; obtain ⟨a_0, a_1, a_2, a_3, a_4⟩ := five_cells (unhide A); obtain ⟨ra_0, ra_1, ra_2, ra_3, ra_4⟩ := five_cells (unhide RA); obtain ⟨px_0, px_1, px_2, px_3, px_4⟩ := five_cells (unhide PX))
      | (go_at_call 9; refine (unhide HG1 _).mono ?_; rintro e yy ⟨rfl, zz⟩; replace PX := hide (five_below (unhide PX) zz (five_lt (unhide PX))); replace A := hide (five_below (unhide A) zz (five_lt (unhide A))); replace RA := hide (five_below (unhide RA) zz (five_lt (unhide RA))); replace HB := hide (below_nx (unhide HB) zz); clear zz a_0 a_1 a_2 a_3 a_4 ra_0 ra_1 ra_2 ra_3 ra_4 px_0 px_1 px_2 px_3 px_4; obtain ⟨a_0, a_1, a_2, a_3, a_4⟩ := five_cells (unhide A); obtain ⟨ra_0, ra_1, ra_2, ra_3, ra_4⟩ := five_cells (unhide RA); obtain ⟨px_0, px_1, px_2, px_3, px_4⟩ := five_cells (unhide PX))
      | (go_at_call 10; refine (unhide HG2 _).mono ?_; rintro e yy ⟨rfl, zz⟩; replace PX := hide (five_below (unhide PX) zz (five_lt (unhide PX))); replace A := hide (five_below (unhide A) zz (five_lt (unhide A))); replace RA := hide (five_below (unhide RA) zz (five_lt (unhide RA))); replace HB := hide (below_nx (unhide HB) zz); clear zz a_0 a_1 a_2 a_3 a_4 ra_0 ra_1 ra_2 ra_3 ra_4 px_0 px_1 px_2 px_3 px_4; obtain ⟨a_0, a_1, a_2, a_3, a_4⟩ := five_cells (unhide A); obtain ⟨ra_0, ra_1, ra_2, ra_3, ra_4⟩ := five_cells (unhide RA); obtain ⟨px_0, px_1, px_2, px_3, px_4⟩ := five_cells (unhide PX))
      | (go_at_call 12; refine (unhide HN1 _).mono ?_; rintro e yy ⟨rfl, zz⟩; replace PX := hide (five_below (unhide PX) zz (five_lt (unhide PX))); replace A := hide (five_below (unhide A) zz (five_lt (unhide A))); replace RA := hide (five_below (unhide RA) zz (five_lt (unhide RA))); replace HB := hide (below_nx (unhide HB) zz); clear zz a_0 a_1 a_2 a_3 a_4 ra_0 ra_1 ra_2 ra_3 ra_4 px_0 px_1 px_2 px_3 px_4; obtain ⟨a_0, a_1, a_2, a_3, a_4⟩ := five_cells (unhide A); obtain ⟨ra_0, ra_1, ra_2, ra_3, ra_4⟩ := five_cells (unhide RA); obtain ⟨px_0, px_1, px_2, px_3, px_4⟩ := five_cells (unhide PX))
      | (go_at_call 13; refine (unhide HN2 _).mono ?_; rintro e yy ⟨rfl, zz⟩; replace PX := hide (five_below (unhide PX) zz (five_lt (unhide PX))); replace A := hide (five_below (unhide A) zz (five_lt (unhide A))); replace RA := hide (five_below (unhide RA) zz (five_lt (unhide RA))); replace HB := hide (below_nx (unhide HB) zz); clear zz a_0 a_1 a_2 a_3 a_4 ra_0 ra_1 ra_2 ra_3 ra_4 px_0 px_1 px_2 px_3 px_4; obtain ⟨a_0, a_1, a_2, a_3, a_4⟩ := five_cells (unhide A); obtain ⟨ra_0, ra_1, ra_2, ra_3, ra_4⟩ := five_cells (unhide RA); obtain ⟨px_0, px_1, px_2, px_3, px_4⟩ := five_cells (unhide PX))
      | (go_at_call_of 11 cN; refine (unhide HN3 _).mono ?_; rintro e yy ⟨rfl, zz⟩; replace PX := hide (five_below (unhide PX) zz (five_lt (unhide PX))); replace A := hide (five_below (unhide A) zz (five_lt (unhide A))); replace RA := hide (five_below (unhide RA) zz (five_lt (unhide RA))); replace HB := hide (below_nx (unhide HB) zz); clear zz a_0 a_1 a_2 a_3 a_4 ra_0 ra_1 ra_2 ra_3 ra_4 px_0 px_1 px_2 px_3 px_4; obtain ⟨a_0, a_1, a_2, a_3, a_4⟩ := five_cells (unhide A); obtain ⟨ra_0, ra_1, ra_2, ra_3, ra_4⟩ := five_cells (unhide RA); obtain ⟨px_0, px_1, px_2, px_3, px_4⟩ := five_cells (unhide PX))
      | (go_at_call 14; refine (unhide HT1 _).mono ?_; rintro e yy ⟨rfl, zz⟩; replace PX := hide (five_below (unhide PX) zz (five_lt (unhide PX))); replace A := hide (five_below (unhide A) zz (five_lt (unhide A))); replace RA := hide (five_below (unhide RA) zz (five_lt (unhide RA))); replace HB := hide (below_nx (unhide HB) zz); clear zz a_0 a_1 a_2 a_3 a_4 ra_0 ra_1 ra_2 ra_3 ra_4 px_0 px_1 px_2 px_3 px_4; obtain ⟨a_0, a_1, a_2, a_3, a_4⟩ := five_cells (unhide A); obtain ⟨ra_0, ra_1, ra_2, ra_3, ra_4⟩ := five_cells (unhide RA); obtain ⟨px_0, px_1, px_2, px_3, px_4⟩ := five_cells (unhide PX))
      | (go_at_call 15; refine (unhide HT2 _).mono ?_; rintro e yy ⟨rfl, zz⟩; replace PX := hide (five_below (unhide PX) zz (five_lt (unhide PX))); replace A := hide (five_below (unhide A) zz (five_lt (unhide A))); replace RA := hide (five_below (unhide RA) zz (five_lt (unhide RA))); replace HB := hide (below_nx (unhide HB) zz); clear zz a_0 a_1 a_2 a_3 a_4 ra_0 ra_1 ra_2 ra_3 ra_4 px_0 px_1 px_2 px_3 px_4; obtain ⟨a_0, a_1, a_2, a_3, a_4⟩ := five_cells (unhide A); obtain ⟨ra_0, ra_1, ra_2, ra_3, ra_4⟩ := five_cells (unhide RA); obtain ⟨px_0, px_1, px_2, px_3, px_4⟩ := five_cells (unhide PX))
      | (go_at_call_of 11 cT; refine (unhide HT3 _).mono ?_; rintro e yy ⟨rfl, zz⟩; replace PX := hide (five_below (unhide PX) zz (five_lt (unhide PX))); replace A := hide (five_below (unhide A) zz (five_lt (unhide A))); replace RA := hide (five_below (unhide RA) zz (five_lt (unhide RA))); replace HB := hide (below_nx (unhide HB) zz); clear zz a_0 a_1 a_2 a_3 a_4 ra_0 ra_1 ra_2 ra_3 ra_4 px_0 px_1 px_2 px_3 px_4; obtain ⟨a_0, a_1, a_2, a_3, a_4⟩ := five_cells (unhide A); obtain ⟨ra_0, ra_1, ra_2, ra_3, ra_4⟩ := five_cells (unhide RA); obtain ⟨px_0, px_1, px_2, px_3, px_4⟩ := five_cells (unhide PX))
      | (go_at_call 16; refine (unhide HF1 _).mono ?_; rintro e yy ⟨rfl, zz⟩; replace PX := hide (five_below (unhide PX) zz (five_lt (unhide PX))); replace A := hide (five_below (unhide A) zz (five_lt (unhide A))); replace RA := hide (five_below (unhide RA) zz (five_lt (unhide RA))); replace HB := hide (below_nx (unhide HB) zz); clear zz a_0 a_1 a_2 a_3 a_4 ra_0 ra_1 ra_2 ra_3 ra_4 px_0 px_1 px_2 px_3 px_4; obtain ⟨a_0, a_1, a_2, a_3, a_4⟩ := five_cells (unhide A); obtain ⟨ra_0, ra_1, ra_2, ra_3, ra_4⟩ := five_cells (unhide RA); obtain ⟨px_0, px_1, px_2, px_3, px_4⟩ := five_cells (unhide PX))
      | (go_at_call 17; refine (unhide HF2 _).mono ?_; rintro e yy ⟨rfl, zz⟩; replace PX := hide (five_below (unhide PX) zz (five_lt (unhide PX))); replace A := hide (five_below (unhide A) zz (five_lt (unhide A))); replace RA := hide (five_below (unhide RA) zz (five_lt (unhide RA))); replace HB := hide (below_nx (unhide HB) zz); clear zz a_0 a_1 a_2 a_3 a_4 ra_0 ra_1 ra_2 ra_3 ra_4 px_0 px_1 px_2 px_3 px_4; obtain ⟨a_0, a_1, a_2, a_3, a_4⟩ := five_cells (unhide A); obtain ⟨ra_0, ra_1, ra_2, ra_3, ra_4⟩ := five_cells (unhide RA); obtain ⟨px_0, px_1, px_2, px_3, px_4⟩ := five_cells (unhide PX))
      | (go_at_call_of 11 cE; refine (unhide HF3 _).mono ?_; rintro e yy ⟨rfl, zz⟩; replace PX := hide (five_below (unhide PX) zz (five_lt (unhide PX))); replace A := hide (five_below (unhide A) zz (five_lt (unhide A))); replace RA := hide (five_below (unhide RA) zz (five_lt (unhide RA))); replace HB := hide (below_nx (unhide HB) zz); clear zz a_0 a_1 a_2 a_3 a_4 ra_0 ra_1 ra_2 ra_3 ra_4 px_0 px_1 px_2 px_3 px_4; obtain ⟨a_0, a_1, a_2, a_3, a_4⟩ := five_cells (unhide A); obtain ⟨ra_0, ra_1, ra_2, ra_3, ra_4⟩ := five_cells (unhide RA); obtain ⟨px_0, px_1, px_2, px_3, px_4⟩ := five_cells (unhide PX))
      | (go_at_call 18; refine (unhide HX1 _ ((unhide HE).below (unhide HB))).mono ?_; rintro e yy ⟨rfl, zz⟩; replace PX := hide (five_below (unhide PX) zz (five_lt (unhide PX))); replace A := hide (five_below (unhide A) zz (five_lt (unhide A))); replace RA := hide (five_below (unhide RA) zz (five_lt (unhide RA))); replace HB := hide (below_nx (unhide HB) zz); clear zz a_0 a_1 a_2 a_3 a_4 ra_0 ra_1 ra_2 ra_3 ra_4 px_0 px_1 px_2 px_3 px_4; obtain ⟨a_0, a_1, a_2, a_3, a_4⟩ := five_cells (unhide A); obtain ⟨ra_0, ra_1, ra_2, ra_3, ra_4⟩ := five_cells (unhide RA); obtain ⟨px_0, px_1, px_2, px_3, px_4⟩ := five_cells (unhide PX))
      | (go_at_call 19; refine (unhide HX2 _).mono ?_; rintro e yy ⟨rfl, zz⟩; replace PX := hide (five_below (unhide PX) zz (five_lt (unhide PX))); replace A := hide (five_below (unhide A) zz (five_lt (unhide A))); replace RA := hide (five_below (unhide RA) zz (five_lt (unhide RA))); replace HB := hide (below_nx (unhide HB) zz); clear zz a_0 a_1 a_2 a_3 a_4 ra_0 ra_1 ra_2 ra_3 ra_4 px_0 px_1 px_2 px_3 px_4; obtain ⟨a_0, a_1, a_2, a_3, a_4⟩ := five_cells (unhide A); obtain ⟨ra_0, ra_1, ra_2, ra_3, ra_4⟩ := five_cells (unhide RA); obtain ⟨px_0, px_1, px_2, px_3, px_4⟩ := five_cells (unhide PX))
      | (go_at_call 20; refine (unhide HC1 _).mono ?_; rintro e yy ⟨rfl, zz⟩; replace PX := hide (five_below (unhide PX) zz (five_lt (unhide PX))); replace A := hide (five_below (unhide A) zz (five_lt (unhide A))); replace RA := hide (five_below (unhide RA) zz (five_lt (unhide RA))); replace HB := hide (below_nx (unhide HB) zz); clear zz a_0 a_1 a_2 a_3 a_4 ra_0 ra_1 ra_2 ra_3 ra_4 px_0 px_1 px_2 px_3 px_4; obtain ⟨a_0, a_1, a_2, a_3, a_4⟩ := five_cells (unhide A); obtain ⟨ra_0, ra_1, ra_2, ra_3, ra_4⟩ := five_cells (unhide RA); obtain ⟨px_0, px_1, px_2, px_3, px_4⟩ := five_cells (unhide PX))
      | (go_at_call 21; refine (unhide HC2 _).mono ?_; rintro e yy ⟨rfl, zz⟩; replace PX := hide (five_below (unhide PX) zz (five_lt (unhide PX))); replace A := hide (five_below (unhide A) zz (five_lt (unhide A))); replace RA := hide (five_below (unhide RA) zz (five_lt (unhide RA))); replace HB := hide (below_nx (unhide HB) zz); clear zz a_0 a_1 a_2 a_3 a_4 ra_0 ra_1 ra_2 ra_3 ra_4 px_0 px_1 px_2 px_3 px_4; obtain ⟨a_0, a_1, a_2, a_3, a_4⟩ := five_cells (unhide A); obtain ⟨ra_0, ra_1, ra_2, ra_3, ra_4⟩ := five_cells (unhide RA); obtain ⟨px_0, px_1, px_2, px_3, px_4⟩ := five_cells (unhide PX))
      | (go_at_call_of 11 cB; refine (unhide HC3 _).mono ?_; rintro e yy ⟨rfl, zz⟩; replace PX := hide (five_below (unhide PX) zz (five_lt (unhide PX))); replace A := hide (five_below (unhide A) zz (five_lt (unhide A))); replace RA := hide (five_below (unhide RA) zz (five_lt (unhide RA))); replace HB := hide (below_nx (unhide HB) zz); clear zz a_0 a_1 a_2 a_3 a_4 ra_0 ra_1 ra_2 ra_3 ra_4 px_0 px_1 px_2 px_3 px_4; obtain ⟨a_0, a_1, a_2, a_3, a_4⟩ := five_cells (unhide A); obtain ⟨ra_0, ra_1, ra_2, ra_3, ra_4⟩ := five_cells (unhide RA); obtain ⟨px_0, px_1, px_2, px_3, px_4⟩ := five_cells (unhide PX))
      | (go_at_call 22; refine (unhide HL1 _).mono ?_; rintro e yy ⟨rfl, zz⟩; replace PX := hide (five_below (unhide PX) zz (five_lt (unhide PX))); replace A := hide (five_below (unhide A) zz (five_lt (unhide A))); replace RA := hide (five_below (unhide RA) zz (five_lt (unhide RA))); replace HB := hide (below_nx (unhide HB) zz); clear zz a_0 a_1 a_2 a_3 a_4 ra_0 ra_1 ra_2 ra_3 ra_4 px_0 px_1 px_2 px_3 px_4; obtain ⟨a_0, a_1, a_2, a_3, a_4⟩ := five_cells (unhide A); obtain ⟨ra_0, ra_1, ra_2, ra_3, ra_4⟩ := five_cells (unhide RA); obtain ⟨px_0, px_1, px_2, px_3, px_4⟩ := five_cells (unhide PX))
      | (go_at_call 23; refine (unhide HL2 _).mono ?_; rintro e yy ⟨rfl, zz⟩; replace PX := hide (five_below (unhide PX) zz (five_lt (unhide PX))); replace A := hide (five_below (unhide A) zz (five_lt (unhide A))); replace RA := hide (five_below (unhide RA) zz (five_lt (unhide RA))); replace HB := hide (below_nx (unhide HB) zz); clear zz a_0 a_1 a_2 a_3 a_4 ra_0 ra_1 ra_2 ra_3 ra_4 px_0 px_1 px_2 px_3 px_4; obtain ⟨a_0, a_1, a_2, a_3, a_4⟩ := five_cells (unhide A); obtain ⟨ra_0, ra_1, ra_2, ra_3, ra_4⟩ := five_cells (unhide RA); obtain ⟨px_0, px_1, px_2, px_3, px_4⟩ := five_cells (unhide PX))
      | (go_at_call 24; refine (unhide HU1 _).mono ?_; rintro e yy ⟨rfl, zz⟩; replace PX := hide (five_below (unhide PX) zz (five_lt (unhide PX))); replace A := hide (five_below (unhide A) zz (five_lt (unhide A))); replace RA := hide (five_below (unhide RA) zz (five_lt (unhide RA))); replace HB := hide (below_nx (unhide HB) zz); clear zz a_0 a_1 a_2 a_3 a_4 ra_0 ra_1 ra_2 ra_3 ra_4 px_0 px_1 px_2 px_3 px_4; obtain ⟨a_0, a_1, a_2, a_3, a_4⟩ := five_cells (unhide A); obtain ⟨ra_0, ra_1, ra_2, ra_3, ra_4⟩ := five_cells (unhide RA); obtain ⟨px_0, px_1, px_2, px_3, px_4⟩ := five_cells (unhide PX))
      | (go_at_call 25; refine (unhide HU2 _).mono ?_; rintro e yy ⟨rfl, zz⟩; replace PX := hide (five_below (unhide PX) zz (five_lt (unhide PX))); replace A := hide (five_below (unhide A) zz (five_lt (unhide A))); replace RA := hide (five_below (unhide RA) zz (five_lt (unhide RA))); replace HB := hide (below_nx (unhide HB) zz); clear zz a_0 a_1 a_2 a_3 a_4 ra_0 ra_1 ra_2 ra_3 ra_4 px_0 px_1 px_2 px_3 px_4; obtain ⟨a_0, a_1, a_2, a_3, a_4⟩ := five_cells (unhide A); obtain ⟨ra_0, ra_1, ra_2, ra_3, ra_4⟩ := five_cells (unhide RA); obtain ⟨px_0, px_1, px_2, px_3, px_4⟩ := five_cells (unhide PX)))
  all_goals (try go_wp2_with fail)
  all_goals go_ret
  all_goals exact ⟨rfl, unhide HB⟩
end Go.Proofs.YteaodfeaidjcnaaDoor
