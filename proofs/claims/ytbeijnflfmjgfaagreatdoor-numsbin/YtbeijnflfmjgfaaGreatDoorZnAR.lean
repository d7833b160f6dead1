/- The program's operators, and all that is asked of its layer 9. -/
import Derived.BigQuiet
import Derived.BigRegion
import Derived.Carry
import Derived.Deep.AppendLies
import Derived.Deep.CutBlock
import Derived.Deep.CutRange
import Derived.Deep.DeepFit
import Derived.Deep.DeepHandedRow
import Derived.Deep.DrawnRows
import Derived.Deep.QuietTactic
import Derived.Deep.RegionHeld3
import Derived.Deep.RegionWith
import Derived.Deep.Slices
import Derived.Deep.WholeRow
import Derived.LaidSub
import Derived.Laws.Bits64b
import Derived.Laws.BitsAllLaws
import Derived.Laws.CopyOwn
import Derived.Laws.EntriesVeiled
import Derived.Laws.FloatArith
import Derived.Laws.IdiomStrings
import Derived.Laws.Rows
import Derived.Laws.StructEq
import Derived.Laws.Tables
import Derived.Lay
import Derived.Lib.BitFns
import Derived.Lib.IndexBytes
import Derived.Lib.ItoaMem
import Derived.Lib.ItoaNum
import Derived.Lib.LaidTab
import Derived.Lib.TrimByte
import Derived.Lib.Walk
import Derived.OpenShut
import Derived.OwnWalk
import Derived.ProofKit
import Derived.SevenTiedAt
import Derived.Shelf.Abstract
import Derived.Shelf.Bits.Mul64
import Derived.Shelf.LaysM
import Derived.Shelf.Small.Bits
import Derived.Shelf.Small.Strs
import Derived.Shelf.Small.Wraps
import Derived.Shelf.Strconv.Itoa0
import Derived.Shelf.Strconv.Itoa1
import Derived.Shelf.Strconv.Itoa2
import Derived.Shelf.Strings.AsciiSet
import Derived.Shelf.Strings.Cut
import Derived.Shelf.Strings.Prefix
import Derived.Shelf.Strings.Search1
import Derived.Shelf.Strings.Search2
import Derived.Shelf.Strings.Shaped
import Derived.Shelf.Strings.Trim
import Derived.Stop.Joined
import Derived.Test.YtbeijnflfmjgfaaGreatDoorCards
import Derived.Test.YtbeijnflfmjgfaaGreatDoorProg
import Derived.Test.YtbeijnflfmjgfaaGreatDoorRows
import Derived.Test.YtbeijnflfmjgfaaGreatDoorTie
import Derived.WalkKit
import Derived.WalkLawsBesides
import Derived.WalkSmall
import Derived.WalkSpells
import Ieee.Arith
import Derived.Test.YtbeijnflfmjgfaaGreatDoorZnAA
import Derived.Test.YtbeijnflfmjgfaaGreatDoorZnAB
import Derived.Test.YtbeijnflfmjgfaaGreatDoorZnAC
import Derived.Test.YtbeijnflfmjgfaaGreatDoorZnAD
import Derived.Test.YtbeijnflfmjgfaaGreatDoorZnAE
import Derived.Test.YtbeijnflfmjgfaaGreatDoorZnAF
import Derived.Test.YtbeijnflfmjgfaaGreatDoorZnAG
import Derived.Test.YtbeijnflfmjgfaaGreatDoorZnAH
import Derived.Test.YtbeijnflfmjgfaaGreatDoorZnAI
import Derived.Test.YtbeijnflfmjgfaaGreatDoorZnAJ
import Derived.Test.YtbeijnflfmjgfaaGreatDoorZnAK
import Derived.Test.YtbeijnflfmjgfaaGreatDoorZnAL
import Derived.Test.YtbeijnflfmjgfaaGreatDoorZnAM
import Derived.Test.YtbeijnflfmjgfaaGreatDoorZnAN
import Derived.Test.YtbeijnflfmjgfaaGreatDoorZnAO
import Derived.Test.YtbeijnflfmjgfaaGreatDoorZnAP
import Derived.Test.YtbeijnflfmjgfaaGreatDoorZnAQ
namespace Go.Proofs.YtbeijnflfmjgfaaGreatDoor
open Go.RowKit

theorem of_bin (s : List UInt8) (a b : Vl) (h : 3 ≤ lineL s) : ofV 2 (arith2 s) [a, b] = binS s (vSound a) (vSound b) := by
  rw [of_pair]
  unfold binS bothV
  have h0 : ¬ lineL s = 0 := by omega
  have h1 : ¬ lineL s = 1 := by omega
  have h2 : ¬ lineL s = 2 := by omega
  rw [if_neg h0, if_neg h1, if_neg h2]
  rfl
set_option maxRecDepth 100000 in
set_option maxHeartbeats 8000000 in
theorem bin9_arith (s : ByteArray) (a b : Vl) (w : World) (ha : a.text.size ≤ 1000) (hb : b.text.size ≤ 1000) (he : Env3 w) (hl : 3 ≤ lineL s.toList) :
    Calls Tryz.prog 11 #[.string s, .agg a.cells, .agg b.cells] w fun e w' => e = .returned (.tuple #[.agg (binS s.toList (vSound a) (vSound b)).cells, .bool true]) ∧ Below w.heap.size w w' := by
  have HE := hide he
  have HAR := hide (fun w => arithmetic_val s w)
  rw [if_pos hl] at HAR
  have HL := hide hl
  have HT := hide (fun fv w h => there_val 2 fv w h (by omega))
  rw [show decide (2 ≠ 0) = true from rfl] at HT
  have HOF := hide (fun fv va w hva hf he => of_val 2 fv (arith2 s.toList) va [a, b] w (by omega) (by simp) (by
    intro x hx
    rcases List.mem_cons.1 hx with rfl | hx
    · exact ha
    · rw [List.mem_singleton.1 hx]; exact hb) hva hf he)
  rw [of_bin _ a b hl] at HOF
  generalize binS s.toList (vSound a) (vSound b) = V at HOF ⊢
  clear ha hb he hl
  unfold Vl.cells
  go_enter Tryz.func11, Tryz.ntmps11
  go_upto_region 1 with fail
  obtain ⟨HA, HB1, HX, HB⟩ := boxes3 w 28 a b
  generalize hW : ((w.alloc (.cells #[.int .i64 a.kind, .int .i64 a.num, .string a.text, .bool a.tr, .int .i64 a.fail] 28)).alloc (.cells #[.int .i64 b.kind, .int .i64 b.num, .string b.text, .bool b.tr, .int .i64 b.fail] 28)).alloc (.cells #[.int .i64 0, .int .i64 0, .string ⟨#[]⟩, .bool false, .int .i64 0] 28) = w1 at HA HB1 HX HB ⊢
  clear hW
  go_wp2_with fail
  refine (unhide HAR _).mono ?_
  rintro e w2 ⟨⟨fv, rfl, hf⟩, b2⟩
  have hf2 : FnAt w2 fv 2 (arith2 s.toList) := by
    rcases hf with h | h
    · exact absurd (unhide HL) h.1
    · exact h.2
  have hf3 := fn_below hf2 (below_al w2 (.cells #[.int .i64 (2 : Nat), fv] 63))
  obtain ⟨k, cp, rfl, hfk⟩ := hf2
  clear hfk hf
  replace HA := hide (five_below (unhide HA) b2 (five_lt (unhide HA)))
  replace HB1 := hide (five_below (unhide HB1) b2 (five_lt (unhide HB1)))
  replace HX := hide (five_below (unhide HX) b2 (five_lt (unhide HX)))
  replace HB := hide (below_nx (unhide HB) b2)
  clear b2
  go_upto_region 2 with fail
  have HFB := hide (fbox_new w2 (.int .i64 (2 : Nat)) (.func (.func k) #[] cp))
  have bb := below_al w2 (.cells #[.int .i64 (2 : Nat), (.func (.func k) #[] cp)] 63)
  replace HA := hide (five_below (unhide HA) bb (five_lt (unhide HA)))
  replace HB1 := hide (five_below (unhide HB1) bb (five_lt (unhide HB1)))
  replace HX := hide (five_below (unhide HX) bb (five_lt (unhide HX)))
  replace HB := hide (below_nx (unhide HB) bb)
  have HFN := hide hf3
  clear hf3
  clear bb
  generalize hW : w2.alloc (.cells #[.int .i64 (2 : Nat), (.func (.func k) #[] cp)] 63) = w3 at HFB HA HB1 HX HB HFN ⊢
  clear hW
  have f_0 := fbox_c0 (unhide HFB)
  have f_1 := fbox_c1 (unhide HFB)
  go_wp2_with fail
  refine (unhide HT _ _ (Or.inr ⟨_, unhide HFN⟩)).mono ?_
  rintro e w4 ⟨rfl, b4⟩
  replace HA := hide (five_below (unhide HA) b4 (five_lt (unhide HA)))
  replace HB1 := hide (five_below (unhide HB1) b4 (five_lt (unhide HB1)))
  replace HX := hide (five_below (unhide HX) b4 (five_lt (unhide HX)))
  replace HB := hide (below_nx (unhide HB) b4)
  replace HFN := hide (fn_below (unhide HFN) b4)
  replace HFB := hide (fbox_below (unhide HFB) b4)
  clear b4 f_0 f_1
  have f_0 := fbox_c0 (unhide HFB)
  have f_1 := fbox_c1 (unhide HFB)
  obtain ⟨a_0, a_1, a_2, a_3, a_4⟩ := five_cells (unhide HA)
  obtain ⟨b_0, b_1, b_2, b_3, b_4⟩ := five_cells (unhide HB1)
  go_wp2_with fail
  refine (unhide HOF _ _ _ (vals_two w4 _ a b) (fn_below (unhide HFN) (below_al _ _)) ((unhide HE).below (below_nx (unhide HB) (below_al _ _)))).mono ?_
  rintro e wz ⟨rfl, b5⟩
  have bz := below_nx (below_al _ _) b5
  have hf := five_below (unhide HX) bz (five_lt (unhide HX))
  obtain ⟨⟨⟨x0, c0⟩, ⟨x1, c1⟩, ⟨x2, c2⟩, ⟨x3, c3⟩, x4, c4⟩, f0, f1, f2, f3, f4⟩ := five_all hf
  have HF5 := hide hf
  have HB5 := hide (below_nx (unhide HB) bz)
  clear hf bz b5 f_0 f_1
  clear a_0 a_1 a_2 a_3 a_4 b_0 b_1 b_2 b_3 b_4
  unfold Vl.cells
  go_wp2
  refine bodyPost_ret (results_row1b rfl _ _ _ _ _ _ _ rfl (five_set (unhide HF5) _ _ _ _ _).1 Tryz.underlying28 rfl (by exact infoVal) _ rfl) rfl ?_
  exact ⟨rfl, below_five (unhide HB5) (by omega) _ _ _ _ _⟩

theorem fn_nil (w : World) : (binOp .neq 66 .nilFunc .nilFunc).run Tryz.prog w = .ok (.bool false) w := by kernel_rfl
theorem fn_some (k : Nat) (w : World) : (binOp .neq 66 (.func (.func k) #[] #[]) .nilFunc).run Tryz.prog w = .ok (.bool true) w := by kernel_rfl
set_option maxRecDepth 100000 in
set_option maxHeartbeats 8000000 in
theorem bin9_rest (s : ByteArray) (a b : Vl) (w : World) (ha : a.text.size ≤ 1000) (hb : b.text.size ≤ 1000) (he : Env3 w) (hl : ¬ 3 ≤ lineL s.toList) :
    Calls Tryz.prog 11 #[.string s, .agg a.cells, .agg b.cells] w fun e w' => e = .returned (.tuple #[.agg (binS s.toList (vSound a) (vSound b)).cells, .bool (binB s.toList)]) ∧ Below w.heap.size w w' := by
  have HE := hide he
  have HAR := hide (fun w => arithmetic_val s w)
  rw [if_neg hl] at HAR
  have HL := hide hl
  have HT := hide (fun fv w h => there_val 0 fv w h (by omega))
  rw [show decide (0 ≠ 0) = false from rfl] at HT
  have HCM := hide (fun w => comparison_val s w)
  have q0 := fn_nil
  have q1 := fn_some
  by_cases l1 : lineL s.toList = 1
  · have hb1 : binB s.toList = true := by unfold binB; rw [l1]; rfl
    have hs : binS s.toList (vSound a) (vSound b) = cmpR s.toList (ordV3 (vSound a) (vSound b)) := by
      unfold binS cmpR
      rw [if_neg (by omega), if_pos l1]
    rw [hb1, hs]
    have HCO := hide (fun k hk w he => compared_val s.toList k hk a b w ha hb he)
    generalize cmpR s.toList (ordV3 (vSound a) (vSound b)) = V at HCO ⊢
    have HL1 := hide l1
    clear ha hb he hl hb1 hs l1
    unfold Vl.cells at HCO ⊢
    go_enter Tryz.func11, Tryz.ntmps11
    go_upto_region 1 with fail
    obtain ⟨HA, HB1, HX, HB⟩ := boxes3 w 28 a b
    generalize hW : ((w.alloc (.cells #[.int .i64 a.kind, .int .i64 a.num, .string a.text, .bool a.tr, .int .i64 a.fail] 28)).alloc (.cells #[.int .i64 b.kind, .int .i64 b.num, .string b.text, .bool b.tr, .int .i64 b.fail] 28)).alloc (.cells #[.int .i64 0, .int .i64 0, .string ⟨#[]⟩, .bool false, .int .i64 0] 28) = w1 at HA HB1 HX HB ⊢
    clear hW
    go_wp2_with fail
    refine (unhide HAR _).mono ?_
    rintro e w2 ⟨⟨fv, rfl, hf⟩, b2⟩
    obtain rfl : fv = .nilFunc := by
      rcases hf with h | h
      · exact h.2
      · exact absurd h.1 (unhide HL)
    clear hf
    replace HA := hide (five_below (unhide HA) b2 (five_lt (unhide HA)))
    replace HB1 := hide (five_below (unhide HB1) b2 (five_lt (unhide HB1)))
    replace HX := hide (five_below (unhide HX) b2 (five_lt (unhide HX)))
    replace HB := hide (below_nx (unhide HB) b2)
    clear b2
    go_upto_region 2 with fail
    have HFB := hide (fbox_new w2 (.int .i64 (0 : Nat)) .nilFunc)
    have bb := below_al w2 (.cells #[.int .i64 (0 : Nat), .nilFunc] 63)
    replace HA := hide (five_below (unhide HA) bb (five_lt (unhide HA)))
    replace HB1 := hide (five_below (unhide HB1) bb (five_lt (unhide HB1)))
    replace HX := hide (five_below (unhide HX) bb (five_lt (unhide HX)))
    replace HB := hide (below_nx (unhide HB) bb)
    clear bb
    generalize hW : w2.alloc (.cells #[.int .i64 (0 : Nat), .nilFunc] 63) = w3 at HFB HA HB1 HX HB ⊢
    clear hW
    have f_0 := fbox_c0 (unhide HFB)
    have f_1 := fbox_c1 (unhide HFB)
    go_wp2_with fail
    refine (unhide HT _ _ (Or.inl rfl)).mono ?_
    rintro e w4 ⟨rfl, b4⟩
    replace HA := hide (five_below (unhide HA) b4 (five_lt (unhide HA)))
    replace HB1 := hide (five_below (unhide HB1) b4 (five_lt (unhide HB1)))
    replace HX := hide (five_below (unhide HX) b4 (five_lt (unhide HX)))
    replace HB := hide (below_nx (unhide HB) b4)
    clear b4 f_0 f_1 HFB
    go_wp2_with fail
    refine (unhide HCM _).mono ?_
    rintro e w5 ⟨⟨fv, rfl, hf⟩, rfl⟩
    obtain ⟨k, rfl, hk⟩ : ∃ k, fv = .func (.func k) #[] #[] ∧ Asks s.toList k := by
      rcases hf with h | h
      · exact absurd (unhide HL1) h.1
      · exact h.2
    have HK := hide hk
    clear hf hk
    obtain ⟨a_0, a_1, a_2, a_3, a_4⟩ := five_cells (unhide HA)
    obtain ⟨b_0, b_1, b_2, b_3, b_4⟩ := five_cells (unhide HB1)
    go_wp2_with fail
    refine (unhide HCO k (unhide HK) _ ((unhide HE).below (unhide HB))).mono ?_
    rintro e wz ⟨rfl, bz⟩
    have hf := five_below (unhide HX) bz (five_lt (unhide HX))
    obtain ⟨⟨⟨x0, c0⟩, ⟨x1, c1⟩, ⟨x2, c2⟩, ⟨x3, c3⟩, x4, c4⟩, f0, f1, f2, f3, f4⟩ := five_all hf
    have HF5 := hide hf
    have HB5 := hide (below_nx (unhide HB) bz)
    clear hf bz
    clear a_0 a_1 a_2 a_3 a_4 b_0 b_1 b_2 b_3 b_4
    go_wp2
    refine bodyPost_ret (results_row1b rfl _ _ _ _ _ _ _ rfl (five_set (unhide HF5) _ _ _ _ _).1 Tryz.underlying28 rfl (by exact infoVal) _ rfl) rfl ?_
    exact ⟨rfl, below_five (unhide HB5) (by omega) _ _ _ _ _⟩
  by_cases l2 : lineL s.toList = 2
  · have h38 := line_two l2
    obtain rfl := toList_lit h38
    have hs : binS (ByteArray.mk #[38]).toList (vSound a) (vSound b) = joinV (asTextV (vSound a)) (asTextV (vSound b)) := by
      unfold binS
      rw [if_neg (by omega), if_neg (by omega), if_pos l2]
    have hb1 : binB (ByteArray.mk #[38]).toList = true := by unfold binB; rw [l2]; rfl
    rw [hb1]
    have HJ := hide (fun va w hva he => joined_val a b va w ha hb hva he)
    have hs2 := hs.symm
    rw [hs] 
    generalize joinV (asTextV (vSound a)) (asTextV (vSound b)) = V at HJ ⊢
    have HL1 := hide l1
    clear ha hb he hl hb1 hs hs2 l1 l2 h38
    unfold Vl.cells
    go_enter Tryz.func11, Tryz.ntmps11
    go_upto_region 1 with fail
    obtain ⟨HA, HB1, HX, HB⟩ := boxes3 w 28 a b
    generalize hW : ((w.alloc (.cells #[.int .i64 a.kind, .int .i64 a.num, .string a.text, .bool a.tr, .int .i64 a.fail] 28)).alloc (.cells #[.int .i64 b.kind, .int .i64 b.num, .string b.text, .bool b.tr, .int .i64 b.fail] 28)).alloc (.cells #[.int .i64 0, .int .i64 0, .string ⟨#[]⟩, .bool false, .int .i64 0] 28) = w1 at HA HB1 HX HB ⊢
    clear hW
    go_wp2_with fail
    refine (unhide HAR _).mono ?_
    rintro e w2 ⟨⟨fv, rfl, hf⟩, b2⟩
    obtain rfl : fv = .nilFunc := by
      rcases hf with h | h
      · exact h.2
      · exact absurd h.1 (unhide HL)
    clear hf
    replace HA := hide (five_below (unhide HA) b2 (five_lt (unhide HA)))
    replace HB1 := hide (five_below (unhide HB1) b2 (five_lt (unhide HB1)))
    replace HX := hide (five_below (unhide HX) b2 (five_lt (unhide HX)))
    replace HB := hide (below_nx (unhide HB) b2)
    clear b2
    go_upto_region 2 with fail
    have HFB := hide (fbox_new w2 (.int .i64 (0 : Nat)) .nilFunc)
    have bb := below_al w2 (.cells #[.int .i64 (0 : Nat), .nilFunc] 63)
    replace HA := hide (five_below (unhide HA) bb (five_lt (unhide HA)))
    replace HB1 := hide (five_below (unhide HB1) bb (five_lt (unhide HB1)))
    replace HX := hide (five_below (unhide HX) bb (five_lt (unhide HX)))
    replace HB := hide (below_nx (unhide HB) bb)
    clear bb
    generalize hW : w2.alloc (.cells #[.int .i64 (0 : Nat), .nilFunc] 63) = w3 at HFB HA HB1 HX HB ⊢
    clear hW
    have f_0 := fbox_c0 (unhide HFB)
    have f_1 := fbox_c1 (unhide HFB)
    go_wp2_with fail
    refine (unhide HT _ _ (Or.inl rfl)).mono ?_
    rintro e w4 ⟨rfl, b4⟩
    replace HA := hide (five_below (unhide HA) b4 (five_lt (unhide HA)))
    replace HB1 := hide (five_below (unhide HB1) b4 (five_lt (unhide HB1)))
    replace HX := hide (five_below (unhide HX) b4 (five_lt (unhide HX)))
    replace HB := hide (below_nx (unhide HB) b4)
    clear b4 f_0 f_1 HFB
    go_wp2_with fail
    refine (unhide HCM _).mono ?_
    rintro e w5 ⟨⟨fv, rfl, hf⟩, rfl⟩
    obtain rfl : fv = .nilFunc := by
      rcases hf with h | h
      · exact h.2
      · exact absurd h.1 (unhide HL1)
    clear hf
    obtain ⟨a_0, a_1, a_2, a_3, a_4⟩ := five_cells (unhide HA)
    obtain ⟨b_0, b_1, b_2, b_3, b_4⟩ := five_cells (unhide HB1)
    go_wp2_with fail
    refine (unhide HJ _ _ (vals_two _ _ a b) ((unhide HE).below (below_nx (unhide HB) (below_al _ _)))).mono ?_
    rintro e wz ⟨rfl, b5⟩
    have bz := below_nx (below_al _ _) b5
    have hf := five_below (unhide HX) bz (five_lt (unhide HX))
    obtain ⟨⟨⟨x0, c0⟩, ⟨x1, c1⟩, ⟨x2, c2⟩, ⟨x3, c3⟩, x4, c4⟩, f0, f1, f2, f3, f4⟩ := five_all hf
    have HF5 := hide hf
    have HB5 := hide (below_nx (unhide HB) bz)
    clear hf bz b5
    clear a_0 a_1 a_2 a_3 a_4 b_0 b_1 b_2 b_3 b_4
    unfold Vl.cells
    go_wp2
    refine bodyPost_ret (results_row1b rfl _ _ _ _ _ _ _ rfl (five_set (unhide HF5) _ _ _ _ _).1 Tryz.underlying28 rfl (by exact infoVal) _ rfl) rfl ?_
    exact ⟨rfl, below_five (unhide HB5) (by omega) _ _ _ _ _⟩
  · have l0 : lineL s.toList = 0 := by omega
    have hs : binS s.toList (vSound a) (vSound b) = zV := by unfold binS; rw [if_pos l0]
    have hb1 : binB s.toList = false := by unfold binB; rw [l0]; rfl
    have hne : (s.toList == [38]) = false := ne_lit (fun h => by rw [h] at l0; revert l0; decide)
    rw [hs, hb1]
    have HL1 := hide l1
    clear ha hb he hl hb1 hs l1 l2 l0
    unfold Vl.cells zV
    go_enter Tryz.func11, Tryz.ntmps11
    go_upto_region 1 with fail
    obtain ⟨HA, HB1, HX, HB⟩ := boxes3 w 28 a b
    generalize hW : ((w.alloc (.cells #[.int .i64 a.kind, .int .i64 a.num, .string a.text, .bool a.tr, .int .i64 a.fail] 28)).alloc (.cells #[.int .i64 b.kind, .int .i64 b.num, .string b.text, .bool b.tr, .int .i64 b.fail] 28)).alloc (.cells #[.int .i64 0, .int .i64 0, .string ⟨#[]⟩, .bool false, .int .i64 0] 28) = w1 at HA HB1 HX HB ⊢
    clear hW
    go_wp2_with fail
    refine (unhide HAR _).mono ?_
    rintro e w2 ⟨⟨fv, rfl, hf⟩, b2⟩
    obtain rfl : fv = .nilFunc := by
      rcases hf with h | h
      · exact h.2
      · exact absurd h.1 (unhide HL)
    clear hf
    replace HA := hide (five_below (unhide HA) b2 (five_lt (unhide HA)))
    replace HB1 := hide (five_below (unhide HB1) b2 (five_lt (unhide HB1)))
    replace HX := hide (five_below (unhide HX) b2 (five_lt (unhide HX)))
    replace HB := hide (below_nx (unhide HB) b2)
    clear b2
    go_upto_region 2 with fail
    have HFB := hide (fbox_new w2 (.int .i64 (0 : Nat)) .nilFunc)
    have bb := below_al w2 (.cells #[.int .i64 (0 : Nat), .nilFunc] 63)
    replace HA := hide (five_below (unhide HA) bb (five_lt (unhide HA)))
    replace HB1 := hide (five_below (unhide HB1) bb (five_lt (unhide HB1)))
    replace HX := hide (five_below (unhide HX) bb (five_lt (unhide HX)))
    replace HB := hide (below_nx (unhide HB) bb)
    clear bb
    generalize hW : w2.alloc (.cells #[.int .i64 (0 : Nat), .nilFunc] 63) = w3 at HFB HA HB1 HX HB ⊢
    clear hW
    have f_0 := fbox_c0 (unhide HFB)
    have f_1 := fbox_c1 (unhide HFB)
    go_wp2_with fail
    refine (unhide HT _ _ (Or.inl rfl)).mono ?_
    rintro e w4 ⟨rfl, b4⟩
    replace HA := hide (five_below (unhide HA) b4 (five_lt (unhide HA)))
    replace HB1 := hide (five_below (unhide HB1) b4 (five_lt (unhide HB1)))
    replace HX := hide (five_below (unhide HX) b4 (five_lt (unhide HX)))
    replace HB := hide (below_nx (unhide HB) b4)
    clear b4 f_0 f_1 HFB
    go_wp2_with fail
    refine (unhide HCM _).mono ?_
    rintro e w5 ⟨⟨fv, rfl, hf⟩, rfl⟩
    obtain rfl : fv = .nilFunc := by
      rcases hf with h | h
      · exact h.2
      · exact absurd h.1 (unhide HL1)
    clear hf
    obtain ⟨⟨⟨x0, c0⟩, ⟨x1, c1⟩, ⟨x2, c2⟩, ⟨x3, c3⟩, x4, c4⟩, f0, f1, f2, f3, f4⟩ := five_all (unhide HX)
    go_wp2
    refine bodyPost_ret (results_row1b rfl _ _ _ _ _ _ _ rfl (five_set (unhide HX) _ _ _ _ _).1 Tryz.underlying28 rfl (by exact infoVal) _ rfl) rfl ?_
    exact ⟨rfl, below_five (unhide HB) (by omega) _ _ _ _ _⟩
theorem pnums : PNums where
  bin s a b w _ ha hb he := by
    by_cases hl : 3 ≤ lineL s.toList
    · rw [show binB s.toList = true from by unfold binB; exact decide_eq_true (by omega)]
      exact bin9_arith s a b w ha hb he hl
    · exact bin9_rest s a b w ha hb he hl
  call s va vs w _ hl hv hva he := call9_val s va vs w hl hv hva he
  has s w _ _ := has9_val s w
  neg a w ha he := neg9_val a w ha he
  pct a w ha he := pct9_val a w ha he
end Go.Proofs.YtbeijnflfmjgfaaGreatDoor

namespace Go.Proofs.YtbeijnflfmjgfaaGreatDoor
open Go.ChangeShapes Go.WideShapes Go.ChangeAt Go.RowKit

theorem own : ownKnob Tryz.prog.godebug = none := by kernel_rfl
theorem gTab : Tryz.prog.globalNamed "internal/strconv.uint64pow10" = some 7 := by kernel_rfl
theorem gTabType : (Tryz.prog.globals[7]?).map (·.type) = some 208 := by kernel_rfl
theorem cellsTab : Tryz.prog.cellsOf 208 = 20 := by kernel_rfl
theorem cellsU : Tryz.prog.cellsOf 112 = 1 := by kernel_rfl
theorem gSig : Tryz.prog.globalNamed "lattice/value.signs" = some 2 := by kernel_rfl
theorem gSigType : (Tryz.prog.globals[2]?).map (·.type) = some 184 := by kernel_rfl
theorem cellsS : Tryz.prog.cellsOf 9 = 1 := by kernel_rfl

def strData {H : Type} (zs : List (List UInt8)) : DataW H := .agg (zs.map fun z => .lit (.string z))
theorem strs_of_laid {P : Program} {W : World} {name : String} {zs : List (List UInt8)} {g : Nat} {t e : TypeId} {n : Nat}
    (hg : P.globalNamed name = some g) (hty : (P.globals[g]?).map (·.type) = some t) (ht : P.underlying t = some (.array n e)) (he : P.underlying e = some .string) (hce : P.cellsOf e = 1)
    (h : laidMet P [(name, strData zs)] W) (i : Nat) (z : List UInt8) (hz : zs[i]? = some z) : W.cell? ⟨g, i, none⟩ = some (.string ⟨z.toArray⟩) := by
  obtain ⟨ps, ⟨g', t', cs, fuel, p, q, hg', ht', hvar, hd, _, _⟩, _⟩ := h
  obtain rfl := Option.some.inj (hg.symm.trans hg')
  obtain rfl := Option.some.inj (hty.symm.trans ht')
  obtain ⟨xs, m, _, hx, _, hl, hi⟩ := DataW.trod_array ht hd
  have hxs : xs.map (·.1) = zs.map fun z => (DataW.lit (.string z) : DataW Unit) := by
    have := congrArg Prod.fst hx
    simpa [strData] using this.symm
  have hzl : zs.length = n := by
    have := congrArg List.length hxs
    simp at this
    omega
  have hin : i < n := by
    have := (List.getElem?_eq_some_iff.1 hz).1
    omega
  have h0 := hi i hin
  obtain ⟨b, hb⟩ : ∃ b, xs[i]? = some b := ⟨xs[i]'(by omega), List.getElem?_eq_getElem (by omega)⟩
  rw [hb, hce, Nat.mul_one] at h0
  obtain ⟨s, hc, rfl, _⟩ := DataW.trod_string he h0
  have h1 : cs[i]? = some (.string s) := by
    have := congrArg (·[0]?) hc
    simpa [List.getElem?_take, List.getElem?_drop] using this
  have h2 : (xs.map (·.1))[i]? = some (DataW.lit (.string s.data.toList) : DataW Unit) := by simp [hb]
  rw [hxs] at h2
  simp only [List.getElem?_map, Option.map_eq_some_iff, DataW.lit.injEq, Lit.string.injEq] at h2
  obtain ⟨z', hz', e1⟩ := h2
  rw [hz] at hz'
  obtain rfl := Option.some.inj hz'
  have := World.var?_cell hg hvar i
  rw [e1]
  simpa [h1] using this

abbrev laidAll : List (String × DataW Unit) := Rows.numsBinRow.laid
theorem laid_one : (laidAll.filter fun x => x.1 == "internal/strconv.uint64pow10") = [("internal/strconv.uint64pow10", Lib.tabData .u64 Lib.pow10Tab)] := by kernel_rfl
theorem laid_sig : (laidAll.filter fun x => x.1 == "lattice/value.signs") = [("lattice/value.signs", strData (signL.map (·.data.toList)))] := by kernel_rfl

theorem tab_of {W : World} (h : laidMetH Tryz.prog laidAll W) : powTab W := by
  have h1 := h.filter (fun x => x.1 == "internal/strconv.uint64pow10")
  rw [laid_one] at h1
  exact Lib.tabIs_of_head (rest := []) gTab gTabType Tryz.underlying208 Tryz.underlying112 cellsU cellsTab h1
theorem sig_of {W : World} (h : laidMetH Tryz.prog laidAll W) : signTab W := by
  have h1 := h.filter (fun x => x.1 == "lattice/value.signs")
  rw [laid_sig] at h1
  intro i hi
  have h9 : i = 0 ∨ i = 1 ∨ i = 2 ∨ i = 3 ∨ i = 4 ∨ i = 5 ∨ i = 6 ∨ i = 7 ∨ i = 8 := by omega
  have := fun z hz => strs_of_laid gSig gSigType Tryz.underlying184 Tryz.underlying9 cellsS h1 i z hz
  rcases h9 with rfl | rfl | rfl | rfl | rfl | rfl | rfl | rfl | rfl <;> exact this _ rfl
theorem env_of {W : World} (h : laidMetH Tryz.prog laidAll W) (hs : W.ShapedOpen Tryz.prog) : Env3 W := ⟨tab_of h, Tryz.laysM145.s1_3 W hs, sig_of h⟩
theorem laid_met (os : Os) (args : Array Value) : laidMet Tryz.prog laidAll ((World.laidAll Tryz.prog os laidAll).forCall (fun _ _ => 0) ⟨#[], args, []⟩).memory :=
  laidMet_laidAll _ (by kernel_rfl) (by kernel_rfl)

theorem cellsV : Tryz.prog.cellsOf 23 = 5 := by kernel_rfl
theorem cellsI : Tryz.prog.cellsOf 3 = 1 := by kernel_rfl
theorem cellsJ : Tryz.prog.cellsOf 2 = 1 := by kernel_rfl
theorem cellsB : Tryz.prog.cellsOf 4 = 1 := by kernel_rfl
def Vl.data {H : Type} (x : Vl) : DataW H := .agg [.lit (.int .i64 x.kind), .lit (.int .i64 x.num), .lit (.string x.text.data.toList), .lit (.bool x.tr), .lit (.int .i64 x.fail)]
structure Vl.Fits (x : Vl) : Prop where
  kind : (Lit.int .i64 x.kind).wf = true
  num : (Lit.int .i64 x.num).wf = true
  text : x.text.size ≤ maxLen
  fail : (Lit.int .i64 x.fail).wf = true
section Frame
variable {H : Type} {enc : TypeId × Value → H} {W : World} {base : Nat} {sp : Nat → Bool} {held : Bool}
set_option maxRecDepth 100000 in
/-- A value as an argument, opened. -/
theorem open_val {r : Reach} {b0 : Nat} {v : Value} {d : DataW H} {ps : List MemPlace} (hval : Value.okWide Tryz.prog W r b0 23 v) (hd : DataW.Trod enc Tryz.prog W base sp held 23 v d ps) :
    ∃ x : Vl, v = .agg x.cells ∧ d = x.data ∧ ps = [] ∧ x.Fits := by
  simp only [Value.okWide, Tryz.underlying23] at hval
  obtain ⟨⟨cs⟩, rfl, hn, _⟩ := hval
  rw [cellsV] at hn
  obtain ⟨c0, c1, c2, c3, c4, rfl⟩ : ∃ c0 c1 c2 c3 c4, cs = [c0, c1, c2, c3, c4] := by
    match cs, hn with
    | [a, b, c, d, e], _ => exact ⟨a, b, c, d, e, rfl⟩
  obtain ⟨fuel, hf⟩ := hd
  obtain ⟨xs, m, _, hx, _, hl, hi⟩ := DataW.trod_struct Tryz.underlying23 hf
  obtain ⟨x0, x1, x2, x3, x4, rfl⟩ : ∃ x0 x1 x2 x3 x4, xs = [x0, x1, x2, x3, x4] := by
    match xs, hl with
    | [a, b, c, d, e], _ => exact ⟨a, b, c, d, e, rfl⟩
  have h0 : DataW.trod enc Tryz.prog W base sp held m 3 ((([c0, c1, c2, c3, c4] : List Value).drop 0).take (Tryz.prog.cellsOf 3)) = some x0 := hi 0 _ rfl
  rw [cellsI] at h0
  have h1 : DataW.trod enc Tryz.prog W base sp held m 2 ((([c0, c1, c2, c3, c4] : List Value).drop 1).take (Tryz.prog.cellsOf 2)) = some x1 := hi 1 _ rfl
  rw [cellsJ] at h1
  have h2 : DataW.trod enc Tryz.prog W base sp held m 9 ((([c0, c1, c2, c3, c4] : List Value).drop 2).take (Tryz.prog.cellsOf 9)) = some x2 := hi 2 _ rfl
  rw [cellsS] at h2
  have h3 : DataW.trod enc Tryz.prog W base sp held m 4 ((([c0, c1, c2, c3, c4] : List Value).drop 3).take (Tryz.prog.cellsOf 4)) = some x3 := hi 3 _ rfl
  rw [cellsB] at h3
  have h4 : DataW.trod enc Tryz.prog W base sp held m 3 ((([c0, c1, c2, c3, c4] : List Value).drop 4).take (Tryz.prog.cellsOf 3)) = some x4 := hi 4 _ rfl
  rw [cellsI] at h4
  obtain ⟨a, ea, da, wa⟩ := DataW.trod_int Tryz.underlying3 h0
  obtain ⟨b, eb, db, wb⟩ := DataW.trod_int Tryz.underlying2 h1
  obtain ⟨s, es, dS, wS⟩ := DataW.trod_string Tryz.underlying9 h2
  obtain ⟨t, et, dt⟩ := DataW.trod_bool Tryz.underlying4 h3
  obtain ⟨f, ef, df, wf⟩ := DataW.trod_int Tryz.underlying3 h4
  simp at ea eb es et ef
  subst ea eb es et ef da db dS dt df
  simp only [Prod.mk.injEq] at hx
  exact ⟨⟨a, b, s, t, f⟩, rfl, hx.1, hx.2, ⟨wa, wb, wS, wf⟩⟩
theorem shut_val {x : Vl} (h : x.Fits) : DataW.Trod enc Tryz.prog W base sp held 23 (.agg x.cells) x.data [] := by
  refine ⟨2, ?_⟩
  show DataW.trod enc Tryz.prog W base sp held (1 + 1) 23 [.int .i64 x.kind, .int .i64 x.num, .string x.text, .bool x.tr, .int .i64 x.fail] = _
  rw [DataW.trod_step]
  unfold DataW.trodStep
  simp only [Tryz.underlying23]
  rw [if_pos (by rw [cellsV]; rfl)]
  simp [cellsI, cellsJ, cellsB, cellsS, DataW.trod, Tryz.underlying3, Tryz.underlying2, Tryz.underlying9, Tryz.underlying4, h.kind, h.num, h.text, h.fail, Vl.data]
end Frame
end Go.Proofs.YtbeijnflfmjgfaaGreatDoor
