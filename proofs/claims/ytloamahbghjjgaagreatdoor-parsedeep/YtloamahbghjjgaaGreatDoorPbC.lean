/- The contracts of the program's binding and literal, of layer 6. -/
import Derived.Test.YtloamahbghjjgaaGreatDoorPbB
import Derived.Test.YtloamahbghjjgaaGreatDoorVpA
namespace Go.Proofs.YtloamahbghjjgaaGreatDoor
open Go.RowKit

theorem eq_true_of {s : ByteArray} {l : List UInt8} (h : s.toList = l) : (s.toList == l) = true := by rw [h]; simp
theorem eq_false_of {s : ByteArray} {l : List UInt8} (h : s.toList ≠ l) : (s.toList == l) = false := by simpa using h
set_option maxHeartbeats 4000000 in
theorem binding_val (s : ByteArray) (w : World) : Calls Tryz.prog 119 #[.string s] w fun e w' => e = .returned (.int .i64 (bindL s.data.toList : Nat)) ∧ w' = w := by
  rw [← ByteArray.toList_eq]
  by_cases h0 : s.toList = [61]
  · have hb : bindL s.toList = 1 := by rw [h0]; decide
    have e0 : (s.toList == [61]) = true := by rw [h0]; decide
    rw [hb]
    clear hb h0
    go_enter Tryz.func119, Tryz.ntmps119
    go_wp2
    go_ret
    exact ⟨rfl, rfl⟩
  by_cases h1 : s.toList = [60, 62]
  · have hb : bindL s.toList = 1 := by rw [h1]; decide
    have e0 : (s.toList == [61]) = false := by rw [h1]; decide
    have e1 : (s.toList == [60, 62]) = true := by rw [h1]; decide
    rw [hb]
    clear hb h0 h1
    go_enter Tryz.func119, Tryz.ntmps119
    go_wp2
    go_ret
    exact ⟨rfl, rfl⟩
  by_cases h2 : s.toList = [60]
  · have hb : bindL s.toList = 1 := by rw [h2]; decide
    have e0 : (s.toList == [61]) = false := by rw [h2]; decide
    have e1 : (s.toList == [60, 62]) = false := by rw [h2]; decide
    have e2 : (s.toList == [60]) = true := by rw [h2]; decide
    rw [hb]
    clear hb h0 h1 h2
    go_enter Tryz.func119, Tryz.ntmps119
    go_wp2
    go_ret
    exact ⟨rfl, rfl⟩
  by_cases h3 : s.toList = [60, 61]
  · have hb : bindL s.toList = 1 := by rw [h3]; decide
    have e0 : (s.toList == [61]) = false := by rw [h3]; decide
    have e1 : (s.toList == [60, 62]) = false := by rw [h3]; decide
    have e2 : (s.toList == [60]) = false := by rw [h3]; decide
    have e3 : (s.toList == [60, 61]) = true := by rw [h3]; decide
    rw [hb]
    clear hb h0 h1 h2 h3
    go_enter Tryz.func119, Tryz.ntmps119
    go_wp2
    go_ret
    exact ⟨rfl, rfl⟩
  by_cases h4 : s.toList = [62]
  · have hb : bindL s.toList = 1 := by rw [h4]; decide
    have e0 : (s.toList == [61]) = false := by rw [h4]; decide
    have e1 : (s.toList == [60, 62]) = false := by rw [h4]; decide
    have e2 : (s.toList == [60]) = false := by rw [h4]; decide
    have e3 : (s.toList == [60, 61]) = false := by rw [h4]; decide
    have e4 : (s.toList == [62]) = true := by rw [h4]; decide
    rw [hb]
    clear hb h0 h1 h2 h3 h4
    go_enter Tryz.func119, Tryz.ntmps119
    go_wp2
    go_ret
    exact ⟨rfl, rfl⟩
  by_cases h5 : s.toList = [62, 61]
  · have hb : bindL s.toList = 1 := by rw [h5]; decide
    have e0 : (s.toList == [61]) = false := by rw [h5]; decide
    have e1 : (s.toList == [60, 62]) = false := by rw [h5]; decide
    have e2 : (s.toList == [60]) = false := by rw [h5]; decide
    have e3 : (s.toList == [60, 61]) = false := by rw [h5]; decide
    have e4 : (s.toList == [62]) = false := by rw [h5]; decide
    have e5 : (s.toList == [62, 61]) = true := by rw [h5]; decide
    rw [hb]
    clear hb h0 h1 h2 h3 h4 h5
    go_enter Tryz.func119, Tryz.ntmps119
    go_wp2
    go_ret
    exact ⟨rfl, rfl⟩
  by_cases h6 : s.toList = [38]
  · have hb : bindL s.toList = 2 := by rw [h6]; decide
    have e0 : (s.toList == [61]) = false := by rw [h6]; decide
    have e1 : (s.toList == [60, 62]) = false := by rw [h6]; decide
    have e2 : (s.toList == [60]) = false := by rw [h6]; decide
    have e3 : (s.toList == [60, 61]) = false := by rw [h6]; decide
    have e4 : (s.toList == [62]) = false := by rw [h6]; decide
    have e5 : (s.toList == [62, 61]) = false := by rw [h6]; decide
    have e6 : (s.toList == [38]) = true := by rw [h6]; decide
    rw [hb]
    clear hb h0 h1 h2 h3 h4 h5 h6
    go_enter Tryz.func119, Tryz.ntmps119
    go_wp2
    go_ret
    exact ⟨rfl, rfl⟩
  by_cases h7 : s.toList = [43]
  · have hb : bindL s.toList = 3 := by rw [h7]; decide
    have e0 : (s.toList == [61]) = false := by rw [h7]; decide
    have e1 : (s.toList == [60, 62]) = false := by rw [h7]; decide
    have e2 : (s.toList == [60]) = false := by rw [h7]; decide
    have e3 : (s.toList == [60, 61]) = false := by rw [h7]; decide
    have e4 : (s.toList == [62]) = false := by rw [h7]; decide
    have e5 : (s.toList == [62, 61]) = false := by rw [h7]; decide
    have e6 : (s.toList == [38]) = false := by rw [h7]; decide
    have e7 : (s.toList == [43]) = true := by rw [h7]; decide
    rw [hb]
    clear hb h0 h1 h2 h3 h4 h5 h6 h7
    go_enter Tryz.func119, Tryz.ntmps119
    go_wp2
    go_ret
    exact ⟨rfl, rfl⟩
  by_cases h8 : s.toList = [45]
  · have hb : bindL s.toList = 3 := by rw [h8]; decide
    have e0 : (s.toList == [61]) = false := by rw [h8]; decide
    have e1 : (s.toList == [60, 62]) = false := by rw [h8]; decide
    have e2 : (s.toList == [60]) = false := by rw [h8]; decide
    have e3 : (s.toList == [60, 61]) = false := by rw [h8]; decide
    have e4 : (s.toList == [62]) = false := by rw [h8]; decide
    have e5 : (s.toList == [62, 61]) = false := by rw [h8]; decide
    have e6 : (s.toList == [38]) = false := by rw [h8]; decide
    have e7 : (s.toList == [43]) = false := by rw [h8]; decide
    have e8 : (s.toList == [45]) = true := by rw [h8]; decide
    rw [hb]
    clear hb h0 h1 h2 h3 h4 h5 h6 h7 h8
    go_enter Tryz.func119, Tryz.ntmps119
    go_wp2
    go_ret
    exact ⟨rfl, rfl⟩
  by_cases h9 : s.toList = [42]
  · have hb : bindL s.toList = 4 := by rw [h9]; decide
    have e0 : (s.toList == [61]) = false := by rw [h9]; decide
    have e1 : (s.toList == [60, 62]) = false := by rw [h9]; decide
    have e2 : (s.toList == [60]) = false := by rw [h9]; decide
    have e3 : (s.toList == [60, 61]) = false := by rw [h9]; decide
    have e4 : (s.toList == [62]) = false := by rw [h9]; decide
    have e5 : (s.toList == [62, 61]) = false := by rw [h9]; decide
    have e6 : (s.toList == [38]) = false := by rw [h9]; decide
    have e7 : (s.toList == [43]) = false := by rw [h9]; decide
    have e8 : (s.toList == [45]) = false := by rw [h9]; decide
    have e9 : (s.toList == [42]) = true := by rw [h9]; decide
    rw [hb]
    clear hb h0 h1 h2 h3 h4 h5 h6 h7 h8 h9
    go_enter Tryz.func119, Tryz.ntmps119
    go_wp2
    go_ret
    exact ⟨rfl, rfl⟩
  by_cases h10 : s.toList = [47]
  · have hb : bindL s.toList = 4 := by rw [h10]; decide
    have e0 : (s.toList == [61]) = false := by rw [h10]; decide
    have e1 : (s.toList == [60, 62]) = false := by rw [h10]; decide
    have e2 : (s.toList == [60]) = false := by rw [h10]; decide
    have e3 : (s.toList == [60, 61]) = false := by rw [h10]; decide
    have e4 : (s.toList == [62]) = false := by rw [h10]; decide
    have e5 : (s.toList == [62, 61]) = false := by rw [h10]; decide
    have e6 : (s.toList == [38]) = false := by rw [h10]; decide
    have e7 : (s.toList == [43]) = false := by rw [h10]; decide
    have e8 : (s.toList == [45]) = false := by rw [h10]; decide
    have e9 : (s.toList == [42]) = false := by rw [h10]; decide
    have e10 : (s.toList == [47]) = true := by rw [h10]; decide
    rw [hb]
    clear hb h0 h1 h2 h3 h4 h5 h6 h7 h8 h9 h10
    go_enter Tryz.func119, Tryz.ntmps119
    go_wp2
    go_ret
    exact ⟨rfl, rfl⟩
  by_cases h11 : s.toList = [94]
  · have hb : bindL s.toList = 5 := by rw [h11]; decide
    have e0 : (s.toList == [61]) = false := by rw [h11]; decide
    have e1 : (s.toList == [60, 62]) = false := by rw [h11]; decide
    have e2 : (s.toList == [60]) = false := by rw [h11]; decide
    have e3 : (s.toList == [60, 61]) = false := by rw [h11]; decide
    have e4 : (s.toList == [62]) = false := by rw [h11]; decide
    have e5 : (s.toList == [62, 61]) = false := by rw [h11]; decide
    have e6 : (s.toList == [38]) = false := by rw [h11]; decide
    have e7 : (s.toList == [43]) = false := by rw [h11]; decide
    have e8 : (s.toList == [45]) = false := by rw [h11]; decide
    have e9 : (s.toList == [42]) = false := by rw [h11]; decide
    have e10 : (s.toList == [47]) = false := by rw [h11]; decide
    have e11 : (s.toList == [94]) = true := by rw [h11]; decide
    rw [hb]
    clear hb h0 h1 h2 h3 h4 h5 h6 h7 h8 h9 h10 h11
    go_enter Tryz.func119, Tryz.ntmps119
    go_wp2
    go_ret
    exact ⟨rfl, rfl⟩
  have e0 := eq_false_of h0
  have e1 := eq_false_of h1
  have e2 := eq_false_of h2
  have e3 := eq_false_of h3
  have e4 := eq_false_of h4
  have e5 := eq_false_of h5
  have e6 := eq_false_of h6
  have e7 := eq_false_of h7
  have e8 := eq_false_of h8
  have e9 := eq_false_of h9
  have e10 := eq_false_of h10
  have e11 := eq_false_of h11
  have hb : bindL s.toList = 0 := by
    unfold bindL
    rw [if_neg (by simp [h0, h1, h2, h3, h4, h5]), if_neg h6, if_neg (by simp [h7, h8]), if_neg (by simp [h9, h10]), if_neg h11]
  rw [hb]
  clear hb h0 h1 h2 h3 h4 h5 h6 h7 h8 h9 h10 h11
  go_enter Tryz.func119, Tryz.ntmps119
  go_wp2
  go_ret
  exact ⟨rfl, rfl⟩
theorem litV_word (kd : Int) (tx : ByteArray) (nm fl : Int) (rf : Fl) (pl : Int) (h0 : kd ≠ 0) (h1 : kd ≠ 1) (h2 : kd ≠ 2) :
    litV ⟨kd, tx, nm, fl, rf, pl⟩ = if tx.data.toList = [84, 82, 85, 69] then vB true else if tx.data.toList = [70, 65, 76, 83, 69] then vB false else vE 5 := by
  unfold litV
  rw [if_neg h0, if_neg h1, if_neg h2]
set_option maxRecDepth 100000 in
set_option maxHeartbeats 4000000 in
theorem literal_val (t : Tk) (w : World) (ht : t.text.size ≤ 1000000) : Calls Tryz.prog 244 #[.agg t.cells] w fun e w' => e = .returned (.agg (litV t).cells) ∧ Below w.heap.size w w' := by
  obtain ⟨kd, tx, nm, fl, ⟨bk, sh, ⟨c1, r1, f1, g1⟩, ⟨c2, r2, f2, g2⟩, wd⟩, pl⟩ := t
  simp only [Tk.cells]
  by_cases h0 : kd = 0
  · subst h0
    have hl : litV ⟨0, tx, nm, fl, ⟨bk, sh, ⟨c1, r1, f1, g1⟩, ⟨c2, r2, f2, g2⟩, wd⟩, pl⟩ = vN nm := rfl
    obtain ⟨V, hV⟩ : ∃ V, litV ⟨0, tx, nm, fl, ⟨bk, sh, ⟨c1, r1, f1, g1⟩, ⟨c2, r2, f2, g2⟩, wd⟩, pl⟩ = V := ⟨_, rfl⟩
    have HC := hide (fun w => n_val nm w)
    rw [← hl, hV] at HC
    rw [hV]
    clear hV hl
    go_enter Tryz.func244, Tryz.ntmps244
    go_wp2_with fail
    refine (unhide HC _).mono ?_
    rintro e w1 ⟨rfl, b1⟩
    have HB := hide (((below_al2 w _ _)).trans (b1.mono (by simp; omega)))
    have HF := hide (cells_nx (cells_new2 w (.cells #[.int .i64 0, .string tx, .int .i64 nm, .int .i64 fl, .string bk, .string sh, .int .i64 c1, .int .i64 r1, .bool f1, .bool g1, .int .i64 c2, .int .i64 r2, .bool f2, .bool g2, .bool wd, .int .i64 pl] tkT) 46 #[.int .i64 0, .int .i64 0, .string ⟨#[]⟩, .bool false, .int .i64 0]) b1)
    clear b1
    obtain ⟨V0, V1, V2, V3, V4⟩ := V
    unfold Vl.cells
    obtain ⟨x0, x1, x2, x3, x4⟩ := cells5 (unhide HF)
    obtain ⟨y0, y1, y2, y3, y4⟩ := cells5f (unhide HF)
    go_wp2
    refine bodyPost_ret (results_c1 rfl _ _ _ _ _ _ rfl (cells_set5 (unhide HF) _ _ _ _ _) Tryz.underlying46 rfl infoVal) rfl ?_
    exact ⟨rfl, below_five (unhide HB) (by omega) _ _ _ _ _⟩
  by_cases h1 : kd = 1
  · subst h1
    have hl : litV ⟨1, tx, nm, fl, ⟨bk, sh, ⟨c1, r1, f1, g1⟩, ⟨c2, r2, f2, g2⟩, wd⟩, pl⟩ = vT tx := rfl
    obtain ⟨V, hV⟩ : ∃ V, litV ⟨1, tx, nm, fl, ⟨bk, sh, ⟨c1, r1, f1, g1⟩, ⟨c2, r2, f2, g2⟩, wd⟩, pl⟩ = V := ⟨_, rfl⟩
    have HC := hide (fun w => t_val tx w ht)
    rw [← hl, hV] at HC
    rw [hV]
    clear hV hl h0
    go_enter Tryz.func244, Tryz.ntmps244
    go_wp2_with fail
    refine (unhide HC _).mono ?_
    rintro e w1 ⟨rfl, b1⟩
    have HB := hide (((below_al2 w _ _)).trans (b1.mono (by simp; omega)))
    have HF := hide (cells_nx (cells_new2 w (.cells #[.int .i64 1, .string tx, .int .i64 nm, .int .i64 fl, .string bk, .string sh, .int .i64 c1, .int .i64 r1, .bool f1, .bool g1, .int .i64 c2, .int .i64 r2, .bool f2, .bool g2, .bool wd, .int .i64 pl] tkT) 46 #[.int .i64 0, .int .i64 0, .string ⟨#[]⟩, .bool false, .int .i64 0]) b1)
    clear b1
    obtain ⟨V0, V1, V2, V3, V4⟩ := V
    unfold Vl.cells
    obtain ⟨x0, x1, x2, x3, x4⟩ := cells5 (unhide HF)
    obtain ⟨y0, y1, y2, y3, y4⟩ := cells5f (unhide HF)
    go_wp2
    refine bodyPost_ret (results_c1 rfl _ _ _ _ _ _ rfl (cells_set5 (unhide HF) _ _ _ _ _) Tryz.underlying46 rfl infoVal) rfl ?_
    exact ⟨rfl, below_five (unhide HB) (by omega) _ _ _ _ _⟩
  by_cases h2 : kd = 2
  · subst h2
    have hl : litV ⟨2, tx, nm, fl, ⟨bk, sh, ⟨c1, r1, f1, g1⟩, ⟨c2, r2, f2, g2⟩, wd⟩, pl⟩ = vE fl := rfl
    obtain ⟨V, hV⟩ : ∃ V, litV ⟨2, tx, nm, fl, ⟨bk, sh, ⟨c1, r1, f1, g1⟩, ⟨c2, r2, f2, g2⟩, wd⟩, pl⟩ = V := ⟨_, rfl⟩
    have HC := hide (fun w => e_val fl w)
    rw [← hl, hV] at HC
    rw [hV]
    clear hV hl h0 h1
    go_enter Tryz.func244, Tryz.ntmps244
    go_wp2_with fail
    refine (unhide HC _).mono ?_
    rintro e w1 ⟨rfl, b1⟩
    have HB := hide (((below_al2 w _ _)).trans (b1.mono (by simp; omega)))
    have HF := hide (cells_nx (cells_new2 w (.cells #[.int .i64 2, .string tx, .int .i64 nm, .int .i64 fl, .string bk, .string sh, .int .i64 c1, .int .i64 r1, .bool f1, .bool g1, .int .i64 c2, .int .i64 r2, .bool f2, .bool g2, .bool wd, .int .i64 pl] tkT) 46 #[.int .i64 0, .int .i64 0, .string ⟨#[]⟩, .bool false, .int .i64 0]) b1)
    clear b1
    obtain ⟨V0, V1, V2, V3, V4⟩ := V
    unfold Vl.cells
    obtain ⟨x0, x1, x2, x3, x4⟩ := cells5 (unhide HF)
    obtain ⟨y0, y1, y2, y3, y4⟩ := cells5f (unhide HF)
    go_wp2
    refine bodyPost_ret (results_c1 rfl _ _ _ _ _ _ rfl (cells_set5 (unhide HF) _ _ _ _ _) Tryz.underlying46 rfl infoVal) rfl ?_
    exact ⟨rfl, below_five (unhide HB) (by omega) _ _ _ _ _⟩
  have hw := litV_word kd tx nm fl ⟨bk, sh, ⟨c1, r1, f1, g1⟩, ⟨c2, r2, f2, g2⟩, wd⟩ pl h0 h1 h2
  rw [← ByteArray.toList_eq] at hw
  by_cases h3 : tx.toList = [84, 82, 85, 69]
  · rw [if_pos h3] at hw
    have e3 : (tx.toList == [84, 82, 85, 69]) = true := by rw [h3]; decide
    obtain ⟨V, hV⟩ : ∃ V, litV ⟨kd, tx, nm, fl, ⟨bk, sh, ⟨c1, r1, f1, g1⟩, ⟨c2, r2, f2, g2⟩, wd⟩, pl⟩ = V := ⟨_, rfl⟩
    have HC := hide (fun w => b_val true w)
    rw [← hw, hV] at HC
    rw [hV]
    clear hV hw
    go_enter Tryz.func244, Tryz.ntmps244
    go_wp2_with fail
    refine (unhide HC _).mono ?_
    rintro e w1 ⟨rfl, b1⟩
    have HB := hide (((below_al2 w _ _)).trans (b1.mono (by simp; omega)))
    have HF := hide (cells_nx (cells_new2 w (.cells #[.int .i64 kd, .string tx, .int .i64 nm, .int .i64 fl, .string bk, .string sh, .int .i64 c1, .int .i64 r1, .bool f1, .bool g1, .int .i64 c2, .int .i64 r2, .bool f2, .bool g2, .bool wd, .int .i64 pl] tkT) 46 #[.int .i64 0, .int .i64 0, .string ⟨#[]⟩, .bool false, .int .i64 0]) b1)
    clear b1
    obtain ⟨V0, V1, V2, V3, V4⟩ := V
    unfold Vl.cells
    obtain ⟨x0, x1, x2, x3, x4⟩ := cells5 (unhide HF)
    obtain ⟨y0, y1, y2, y3, y4⟩ := cells5f (unhide HF)
    go_wp2
    refine bodyPost_ret (results_c1 rfl _ _ _ _ _ _ rfl (cells_set5 (unhide HF) _ _ _ _ _) Tryz.underlying46 rfl infoVal) rfl ?_
    exact ⟨rfl, below_five (unhide HB) (by omega) _ _ _ _ _⟩
  by_cases h4 : tx.toList = [70, 65, 76, 83, 69]
  · rw [if_neg h3, if_pos h4] at hw
    have e3 : (tx.toList == [84, 82, 85, 69]) = false := eq_false_of h3
    have e4 : (tx.toList == [70, 65, 76, 83, 69]) = true := by rw [h4]; decide
    obtain ⟨V, hV⟩ : ∃ V, litV ⟨kd, tx, nm, fl, ⟨bk, sh, ⟨c1, r1, f1, g1⟩, ⟨c2, r2, f2, g2⟩, wd⟩, pl⟩ = V := ⟨_, rfl⟩
    have HC := hide (fun w => b_val false w)
    rw [← hw, hV] at HC
    rw [hV]
    clear hV hw
    go_enter Tryz.func244, Tryz.ntmps244
    go_wp2_with fail
    refine (unhide HC _).mono ?_
    rintro e w1 ⟨rfl, b1⟩
    have HB := hide (((below_al2 w _ _)).trans (b1.mono (by simp; omega)))
    have HF := hide (cells_nx (cells_new2 w (.cells #[.int .i64 kd, .string tx, .int .i64 nm, .int .i64 fl, .string bk, .string sh, .int .i64 c1, .int .i64 r1, .bool f1, .bool g1, .int .i64 c2, .int .i64 r2, .bool f2, .bool g2, .bool wd, .int .i64 pl] tkT) 46 #[.int .i64 0, .int .i64 0, .string ⟨#[]⟩, .bool false, .int .i64 0]) b1)
    clear b1
    obtain ⟨V0, V1, V2, V3, V4⟩ := V
    unfold Vl.cells
    obtain ⟨x0, x1, x2, x3, x4⟩ := cells5 (unhide HF)
    obtain ⟨y0, y1, y2, y3, y4⟩ := cells5f (unhide HF)
    go_wp2
    refine bodyPost_ret (results_c1 rfl _ _ _ _ _ _ rfl (cells_set5 (unhide HF) _ _ _ _ _) Tryz.underlying46 rfl infoVal) rfl ?_
    exact ⟨rfl, below_five (unhide HB) (by omega) _ _ _ _ _⟩
  rw [if_neg h3, if_neg h4] at hw
  have e3 : (tx.toList == [84, 82, 85, 69]) = false := eq_false_of h3
  have e4 : (tx.toList == [70, 65, 76, 83, 69]) = false := eq_false_of h4
  obtain ⟨V, hV⟩ : ∃ V, litV ⟨kd, tx, nm, fl, ⟨bk, sh, ⟨c1, r1, f1, g1⟩, ⟨c2, r2, f2, g2⟩, wd⟩, pl⟩ = V := ⟨_, rfl⟩
  have HC := hide (fun w => e_val 5 w)
  rw [← hw, hV] at HC
  rw [hV]
  clear hV hw
  go_enter Tryz.func244, Tryz.ntmps244
  go_wp2_with fail
  refine (unhide HC _).mono ?_
  rintro e w1 ⟨rfl, b1⟩
  have HB := hide (((below_al2 w _ _)).trans (b1.mono (by simp; omega)))
  have HF := hide (cells_nx (cells_new2 w (.cells #[.int .i64 kd, .string tx, .int .i64 nm, .int .i64 fl, .string bk, .string sh, .int .i64 c1, .int .i64 r1, .bool f1, .bool g1, .int .i64 c2, .int .i64 r2, .bool f2, .bool g2, .bool wd, .int .i64 pl] tkT) 46 #[.int .i64 0, .int .i64 0, .string ⟨#[]⟩, .bool false, .int .i64 0]) b1)
  clear b1
  obtain ⟨V0, V1, V2, V3, V4⟩ := V
  unfold Vl.cells
  obtain ⟨x0, x1, x2, x3, x4⟩ := cells5 (unhide HF)
  obtain ⟨y0, y1, y2, y3, y4⟩ := cells5f (unhide HF)
  go_wp2
  refine bodyPost_ret (results_c1 rfl _ _ _ _ _ _ rfl (cells_set5 (unhide HF) _ _ _ _ _) Tryz.underlying46 rfl infoVal) rfl ?_
  exact ⟨rfl, below_five (unhide HB) (by omega) _ _ _ _ _⟩
end Go.Proofs.YtloamahbghjjgaaGreatDoor
