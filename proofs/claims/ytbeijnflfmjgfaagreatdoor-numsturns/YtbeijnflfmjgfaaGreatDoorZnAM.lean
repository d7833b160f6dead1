/- The reference's Bin. -/
import Derived.BigQuiet
import Derived.BigRegion
import Derived.Deep.CutBlock
import Derived.Deep.CutRange
import Derived.Deep.DeepFit
import Derived.Deep.QuietTactic
import Derived.Deep.RegionHeld3
import Derived.Deep.RegionWith
import Derived.Deep.WholeRow
import Derived.Laws.Bits64b
import Derived.Laws.BitsAllLaws
import Derived.Laws.CopyOwn
import Derived.Laws.FloatArith
import Derived.Laws.IdiomStrings
import Derived.Laws.Rows
import Derived.Laws.StructEq
import Derived.Laws.Tables
import Derived.Lib.BitFns
import Derived.Lib.IndexBytes
import Derived.Lib.ItoaMem
import Derived.Lib.ItoaNum
import Derived.Lib.TrimByte
import Derived.Lib.Walk
import Derived.OwnWalk
import Derived.Shelf.Bits.Mul64
import Derived.Shelf.LaysM
import Derived.Shelf.Small.Bits
import Derived.Shelf.Small.Strs
import Derived.Shelf.Small.Wraps
import Derived.Shelf.Strconv.Itoa0
import Derived.Shelf.Strconv.Itoa1
import Derived.Shelf.Strconv.Itoa2
import Derived.Shelf.Strings.AsciiSet
import Derived.Shelf.Strings.Cut
import Derived.Shelf.Strings.Prefix
import Derived.Shelf.Strings.Search1
import Derived.Shelf.Strings.Search2
import Derived.Shelf.Strings.Shaped
import Derived.Shelf.Strings.Trim
import Derived.Test.YtbeijnflfmjgfaaGreatDoorProg
import Derived.Test.YtbeijnflfmjgfaaGreatDoorRows
import Derived.WalkKit
import Derived.WalkLawsBesides
import Derived.WalkSmall
import Derived.WalkSpells
import Ieee.Arith
import Derived.Test.YtbeijnflfmjgfaaGreatDoorZnAA
import Derived.Test.YtbeijnflfmjgfaaGreatDoorZnAB
import Derived.Test.YtbeijnflfmjgfaaGreatDoorZnAC
import Derived.Test.YtbeijnflfmjgfaaGreatDoorZnAD
import Derived.Test.YtbeijnflfmjgfaaGreatDoorZnAE
import Derived.Test.YtbeijnflfmjgfaaGreatDoorZnAF
import Derived.Test.YtbeijnflfmjgfaaGreatDoorZnAG
import Derived.Test.YtbeijnflfmjgfaaGreatDoorZnAH
import Derived.Test.YtbeijnflfmjgfaaGreatDoorZnAI
import Derived.Test.YtbeijnflfmjgfaaGreatDoorZnAK
import Derived.Test.YtbeijnflfmjgfaaGreatDoorZnAL
import Derived.Test.YtbeijnflfmjgfaaGreatDoorZnAJ
namespace Go.Proofs.YtbeijnflfmjgfaaGreatDoor
open Go.RowKit

theorem results_row1b {P : Program} {fn : Func} {p a : Tmp} {ty : TypeId} (h : fn.results = #[.cell p ty, .tmp a]) (tmps : Array Value) (w : World) (g : Nat) (t : TypeId) (cs : Array Value) (fr : Nat × Nat) (d : TypeDesc)
    (hp : tmps.getD p undef = .pointer (some ⟨g, 0, none⟩)) (hg : w.heap[g]? = some (.cells cs t fr))
    (hu : P.underlying ty = some d) (hd : (match d with | .struct _ | .array _ _ => true | _ => false) = true) (hi : (P.info? ty).map (·.size) = some cs.size)
    (x : Value) (hx : tmps.getD a undef = x) :
    (results fn tmps).run P w = .ok (.tuple #[.agg cs, x]) w := by
  have hp' : tmps[p]?.getD undef = .pointer (some ⟨g, 0, none⟩) := by simpa using hp
  have hx' : tmps[a]?.getD undef = x := by simpa using hx
  simp [results, h, hp', hx', asAddr, run_loadVar_row w g t ty cs fr d hg hu hd hi]
theorem line_lits {s : List UInt8} (h : 3 ≤ lineL s) : s = [43] ∨ s = [45] ∨ s = [42] ∨ s = [47] ∨ s = [94] := by
  unfold lineL at h
  split at h
  · omega
  split at h
  · omega
  split at h
  · rename_i h1; rcases h1 with h1 | h1 <;> simp [h1]
  split at h
  · rename_i h1; rcases h1 with h1 | h1 <;> simp [h1]
  split at h
  · rename_i h1; simp [h1]
  · omega
theorem line_two {s : List UInt8} (h : lineL s = 2) : s = [38] := by
  unfold lineL at h
  split at h
  · omega
  split at h
  · assumption
  repeat' split at h
  all_goals omega
theorem three_boxes (w : World) (a b : Vl) :
    Hid (FiveAt (((w.alloc (.cells #[.int .i64 a.kind, .int .i64 a.num, .string a.text, .bool a.tr, .int .i64 a.fail] 29)).alloc (.cells #[.int .i64 b.kind, .int .i64 b.num, .string b.text, .bool b.tr, .int .i64 b.fail] 29)).alloc (.cells #[.int .i64 0, .int .i64 0, .string ⟨#[]⟩, .bool false, .int .i64 0] 29)) w.heap.size 29 #[.int .i64 a.kind, .int .i64 a.num, .string a.text, .bool a.tr, .int .i64 a.fail]) ∧
    Hid (FiveAt (((w.alloc (.cells #[.int .i64 a.kind, .int .i64 a.num, .string a.text, .bool a.tr, .int .i64 a.fail] 29)).alloc (.cells #[.int .i64 b.kind, .int .i64 b.num, .string b.text, .bool b.tr, .int .i64 b.fail] 29)).alloc (.cells #[.int .i64 0, .int .i64 0, .string ⟨#[]⟩, .bool false, .int .i64 0] 29)) (w.heap.size + 1) 29 #[.int .i64 b.kind, .int .i64 b.num, .string b.text, .bool b.tr, .int .i64 b.fail]) ∧
    Hid (FiveAt (((w.alloc (.cells #[.int .i64 a.kind, .int .i64 a.num, .string a.text, .bool a.tr, .int .i64 a.fail] 29)).alloc (.cells #[.int .i64 b.kind, .int .i64 b.num, .string b.text, .bool b.tr, .int .i64 b.fail] 29)).alloc (.cells #[.int .i64 0, .int .i64 0, .string ⟨#[]⟩, .bool false, .int .i64 0] 29)) (w.heap.size + 2) 29 #[.int .i64 0, .int .i64 0, .string ⟨#[]⟩, .bool false, .int .i64 0]) ∧
    Hid (Below w.heap.size w (((w.alloc (.cells #[.int .i64 a.kind, .int .i64 a.num, .string a.text, .bool a.tr, .int .i64 a.fail] 29)).alloc (.cells #[.int .i64 b.kind, .int .i64 b.num, .string b.text, .bool b.tr, .int .i64 b.fail] 29)).alloc (.cells #[.int .i64 0, .int .i64 0, .string ⟨#[]⟩, .bool false, .int .i64 0] 29))) := by
  have h2 := five_new2 w (.cells #[.int .i64 a.kind, .int .i64 a.num, .string a.text, .bool a.tr, .int .i64 a.fail] 29) 29 (.int .i64 b.kind) (.int .i64 b.num) (.string b.text) (.bool b.tr) (.int .i64 b.fail)
  refine ⟨hide ?_, hide ?_, hide ?_, hide ?_⟩
  · exact five_below (five_old w 29 (.int .i64 a.kind) (.int .i64 a.num) (.string a.text) (.bool a.tr) (.int .i64 a.fail) (.cells #[.int .i64 b.kind, .int .i64 b.num, .string b.text, .bool b.tr, .int .i64 b.fail] 29)) (below_al _ _) (by simp; omega)
  · exact five_below h2 (below_al _ _) (five_lt h2)
  · have h3 := five_new ((w.alloc (.cells #[.int .i64 a.kind, .int .i64 a.num, .string a.text, .bool a.tr, .int .i64 a.fail] 29)).alloc (.cells #[.int .i64 b.kind, .int .i64 b.num, .string b.text, .bool b.tr, .int .i64 b.fail] 29)) 29 (.int .i64 0) (.int .i64 0) (.string ⟨#[]⟩) (.bool false) (.int .i64 0)
    have e : ((w.alloc (.cells #[.int .i64 a.kind, .int .i64 a.num, .string a.text, .bool a.tr, .int .i64 a.fail] 29)).alloc (.cells #[.int .i64 b.kind, .int .i64 b.num, .string b.text, .bool b.tr, .int .i64 b.fail] 29)).heap.size = w.heap.size + 2 := by simp
    rwa [e] at h3
  · exact (below_al2 w _ _).alloc (by simp; omega) _

set_option maxRecDepth 100000 in
set_option maxHeartbeats 16000000 in
theorem bin9_ref (s : ByteArray) (a b : Vl) (w : World) (ha : a.text.size ≤ 1000) (hb : b.text.size ≤ 1000) :
    Calls Tryz.prog 12 #[.string s, .agg a.cells, .agg b.cells] w fun e w' => e = .returned (.tuple #[.agg (binS s.toList (vSound a) (vSound b)).cells, .bool (binB s.toList)]) ∧ Below w.heap.size w w' := by
  by_cases l3 : 3 ≤ lineL s.toList
  · have eB : binB s.toList = true := by unfold binB; exact decide_eq_true (by omega)
    have eS : binS s.toList (vSound a) (vSound b) = bothV s.toList (asNumV (vSound a)) (asNumV (vSound b)) := by unfold binS; rw [if_neg (by omega), if_neg (by omega), if_neg (by omega)]
    rw [eB, eS]
    have HL := hide (fun w => line9_ref s w)
    have HLN := hide (line_lits l3)
    obtain ⟨n, hn⟩ : ∃ n, lineL s.toList = n := ⟨_, rfl⟩
    rw [hn] at HL l3
    have hn0 : ¬ (n : Int) = 0 := by omega
    have hn1 : ¬ (n : Int) = 1 := by omega
    have hn2 : ¬ (n : Int) = 2 := by omega
    clear eB eS hn l3
    have HN1 := hide (fun w => asnum_ref a w ha)
    have HN2 := hide (fun w => asnum_ref b w hb)
    have hr := num_range a
    have hq := num_range b
    obtain ⟨r, er⟩ : ∃ r, asNumV (vSound a) = r := ⟨_, rfl⟩
    obtain ⟨q, eq⟩ : ∃ q, asNumV (vSound b) = q := ⟨_, rfl⟩
    rw [er] at HN1 hr ⊢
    rw [eq] at HN2 hq ⊢
    clear er eq
    obtain ⟨hr, r1, r2⟩ := hr
    obtain ⟨hq, q1, q2⟩ := hq
    unfold bothV
    by_cases h0 : r.2 = 0
    rotate_left
    · rw [if_pos h0]
      have HC := hide (fun w => e9_ref r.2 w (by omega) (by omega))
      generalize vE r.2 = V at HC ⊢
      unfold Vl.cells at HN1 HN2 ⊢
      go_enter Tryz.func12, Tryz.ntmps12
      go_upto_region 1 with fail
      obtain ⟨HA, HX', HX, HB⟩ := three_boxes w a b
      generalize hW : ((w.alloc (.cells #[.int .i64 a.kind, .int .i64 a.num, .string a.text, .bool a.tr, .int .i64 a.fail] 29)).alloc (.cells #[.int .i64 b.kind, .int .i64 b.num, .string b.text, .bool b.tr, .int .i64 b.fail] 29)).alloc (.cells #[.int .i64 0, .int .i64 0, .string ⟨#[]⟩, .bool false, .int .i64 0] 29) = w1 at HA HX' HX HB ⊢
      clear hW
      obtain ⟨a_0, a_1, a_2, a_3, a_4⟩ := five_cells (unhide HA)
      obtain ⟨b_0, b_1, b_2, b_3, b_4⟩ := five_cells (unhide HX')
      go_wp2_with fail
      refine (unhide HL _).mono ?_
      rintro e w2 ⟨rfl, rfl⟩
      go_wp2_with fail
      refine (unhide HN1 _).mono ?_
      rintro e w3 ⟨rfl, bb⟩
      replace HA := hide (five_below (unhide HA) bb (five_lt (unhide HA)))
      replace HX' := hide (five_below (unhide HX') bb (five_lt (unhide HX')))
      replace HX := hide (five_below (unhide HX) bb (five_lt (unhide HX)))
      replace HB := hide (below_nx (unhide HB) bb)
      clear bb a_0 a_1 a_2 a_3 a_4 b_0 b_1 b_2 b_3 b_4
      obtain ⟨a_0, a_1, a_2, a_3, a_4⟩ := five_cells (unhide HA)
      obtain ⟨b_0, b_1, b_2, b_3, b_4⟩ := five_cells (unhide HX')
      go_wp2_with fail
      refine (unhide HN2 _).mono ?_
      rintro e w4 ⟨rfl, bb⟩
      replace HA := hide (five_below (unhide HA) bb (five_lt (unhide HA)))
      replace HX' := hide (five_below (unhide HX') bb (five_lt (unhide HX')))
      replace HX := hide (five_below (unhide HX) bb (five_lt (unhide HX)))
      replace HB := hide (below_nx (unhide HB) bb)
      clear bb a_0 a_1 a_2 a_3 a_4 b_0 b_1 b_2 b_3 b_4
      obtain ⟨a_0, a_1, a_2, a_3, a_4⟩ := five_cells (unhide HA)
      obtain ⟨b_0, b_1, b_2, b_3, b_4⟩ := five_cells (unhide HX')
      clear a_0 a_1 a_2 a_3 a_4 b_0 b_1 b_2 b_3 b_4 HA HX'
      go_wp2_with fail
      refine (unhide HC _).mono ?_
      rintro e wz ⟨rfl, bz⟩
      have hf := five_below (unhide HX) bz (five_lt (unhide HX))
      obtain ⟨⟨⟨x0, c0⟩, ⟨x1, c1⟩, ⟨x2, c2⟩, ⟨x3, c3⟩, x4, c4⟩, f0, f1, f2, f3, f4⟩ := five_all hf
      have HF := hide hf
      have HB := hide (below_nx (unhide HB) bz)
      clear hf bz
      unfold Vl.cells
      go_wp2
      refine bodyPost_ret (results_row1b rfl _ _ _ _ _ _ _ rfl (five_set (unhide HF) _ _ _ _ _).1 Tryz.underlying29 rfl (by exact infoRef) _ rfl) rfl ?_
      exact ⟨rfl, below_five (unhide HB) (by omega) _ _ _ _ _⟩
    rw [if_neg (by omega)]
    by_cases h2 : q.2 = 0
    rotate_left
    · rw [if_pos h2]
      have HC := hide (fun w => e9_ref q.2 w (by omega) (by omega))
      generalize vE q.2 = V at HC ⊢
      unfold Vl.cells at HN1 HN2 ⊢
      go_enter Tryz.func12, Tryz.ntmps12
      go_upto_region 1 with fail
      obtain ⟨HA, HX', HX, HB⟩ := three_boxes w a b
      generalize hW : ((w.alloc (.cells #[.int .i64 a.kind, .int .i64 a.num, .string a.text, .bool a.tr, .int .i64 a.fail] 29)).alloc (.cells #[.int .i64 b.kind, .int .i64 b.num, .string b.text, .bool b.tr, .int .i64 b.fail] 29)).alloc (.cells #[.int .i64 0, .int .i64 0, .string ⟨#[]⟩, .bool false, .int .i64 0] 29) = w1 at HA HX' HX HB ⊢
      clear hW
      obtain ⟨a_0, a_1, a_2, a_3, a_4⟩ := five_cells (unhide HA)
      obtain ⟨b_0, b_1, b_2, b_3, b_4⟩ := five_cells (unhide HX')
      go_wp2_with fail
      refine (unhide HL _).mono ?_
      rintro e w2 ⟨rfl, rfl⟩
      go_wp2_with fail
      refine (unhide HN1 _).mono ?_
      rintro e w3 ⟨rfl, bb⟩
      replace HA := hide (five_below (unhide HA) bb (five_lt (unhide HA)))
      replace HX' := hide (five_below (unhide HX') bb (five_lt (unhide HX')))
      replace HX := hide (five_below (unhide HX) bb (five_lt (unhide HX)))
      replace HB := hide (below_nx (unhide HB) bb)
      clear bb a_0 a_1 a_2 a_3 a_4 b_0 b_1 b_2 b_3 b_4
      obtain ⟨a_0, a_1, a_2, a_3, a_4⟩ := five_cells (unhide HA)
      obtain ⟨b_0, b_1, b_2, b_3, b_4⟩ := five_cells (unhide HX')
      go_wp2_with fail
      refine (unhide HN2 _).mono ?_
      rintro e w4 ⟨rfl, bb⟩
      replace HA := hide (five_below (unhide HA) bb (five_lt (unhide HA)))
      replace HX' := hide (five_below (unhide HX') bb (five_lt (unhide HX')))
      replace HX := hide (five_below (unhide HX) bb (five_lt (unhide HX)))
      replace HB := hide (below_nx (unhide HB) bb)
      clear bb a_0 a_1 a_2 a_3 a_4 b_0 b_1 b_2 b_3 b_4
      obtain ⟨a_0, a_1, a_2, a_3, a_4⟩ := five_cells (unhide HA)
      obtain ⟨b_0, b_1, b_2, b_3, b_4⟩ := five_cells (unhide HX')
      clear a_0 a_1 a_2 a_3 a_4 b_0 b_1 b_2 b_3 b_4 HA HX'
      go_wp2_with fail
      refine (unhide HC _).mono ?_
      rintro e wz ⟨rfl, bz⟩
      have hf := five_below (unhide HX) bz (five_lt (unhide HX))
      obtain ⟨⟨⟨x0, c0⟩, ⟨x1, c1⟩, ⟨x2, c2⟩, ⟨x3, c3⟩, x4, c4⟩, f0, f1, f2, f3, f4⟩ := five_all hf
      have HF := hide hf
      have HB := hide (below_nx (unhide HB) bz)
      clear hf bz
      unfold Vl.cells
      go_wp2
      refine bodyPost_ret (results_row1b rfl _ _ _ _ _ _ _ rfl (five_set (unhide HF) _ _ _ _ _).1 Tryz.underlying29 rfl (by exact infoRef) _ rfl) rfl ?_
      exact ⟨rfl, below_five (unhide HB) (by omega) _ _ _ _ _⟩
    rw [if_neg (by omega)]
    clear hr hq HL
    by_cases l43 : s.toList = [43]
    · obtain rfl := toList_lit l43
      clear l43 hn0 hn1 hn2 HLN
      have HL := hide (fun w => line9_ref ⟨#[43]⟩ w)
      rw [ByteArray.toList_eq, show lineL [43] = 3 from by decide] at HL
      rw [ByteArray.toList_eq]
      rw [show arithV [43] r.1 q.1 = toldV ((addN r.1 q.1, addE r.1 q.1)) from rfl]
      have HF := hide (fun w => add_ref r.1 q.1 w (by omega) (by omega) (by omega) (by omega))
      have HC := hide (fun w => told_ref ((addN r.1 q.1, addE r.1 q.1)).1 ((addN r.1 q.1, addE r.1 q.1)).2 w)
      rw [show toldV (((addN r.1 q.1, addE r.1 q.1)).1, ((addN r.1 q.1, addE r.1 q.1)).2) = toldV ((addN r.1 q.1, addE r.1 q.1)) from rfl] at HC
      generalize toldV ((addN r.1 q.1, addE r.1 q.1)) = V at HC ⊢
      generalize (addN r.1 q.1, addE r.1 q.1) = g at HF HC
      unfold Vl.cells at HN1 HN2 ⊢
      go_enter Tryz.func12, Tryz.ntmps12
      go_upto_region 1 with fail
      obtain ⟨HA, HX', HX, HB⟩ := three_boxes w a b
      generalize hW : ((w.alloc (.cells #[.int .i64 a.kind, .int .i64 a.num, .string a.text, .bool a.tr, .int .i64 a.fail] 29)).alloc (.cells #[.int .i64 b.kind, .int .i64 b.num, .string b.text, .bool b.tr, .int .i64 b.fail] 29)).alloc (.cells #[.int .i64 0, .int .i64 0, .string ⟨#[]⟩, .bool false, .int .i64 0] 29) = w1 at HA HX' HX HB ⊢
      clear hW
      obtain ⟨a_0, a_1, a_2, a_3, a_4⟩ := five_cells (unhide HA)
      obtain ⟨b_0, b_1, b_2, b_3, b_4⟩ := five_cells (unhide HX')
      go_wp2_with fail
      refine (unhide HL _).mono ?_
      rintro e w2 ⟨rfl, rfl⟩
      go_wp2_with fail
      refine (unhide HN1 _).mono ?_
      rintro e w3 ⟨rfl, bb⟩
      replace HA := hide (five_below (unhide HA) bb (five_lt (unhide HA)))
      replace HX' := hide (five_below (unhide HX') bb (five_lt (unhide HX')))
      replace HX := hide (five_below (unhide HX) bb (five_lt (unhide HX)))
      replace HB := hide (below_nx (unhide HB) bb)
      clear bb a_0 a_1 a_2 a_3 a_4 b_0 b_1 b_2 b_3 b_4
      obtain ⟨a_0, a_1, a_2, a_3, a_4⟩ := five_cells (unhide HA)
      obtain ⟨b_0, b_1, b_2, b_3, b_4⟩ := five_cells (unhide HX')
      go_wp2_with fail
      refine (unhide HN2 _).mono ?_
      rintro e w4 ⟨rfl, bb⟩
      replace HA := hide (five_below (unhide HA) bb (five_lt (unhide HA)))
      replace HX' := hide (five_below (unhide HX') bb (five_lt (unhide HX')))
      replace HX := hide (five_below (unhide HX) bb (five_lt (unhide HX)))
      replace HB := hide (below_nx (unhide HB) bb)
      clear bb a_0 a_1 a_2 a_3 a_4 b_0 b_1 b_2 b_3 b_4
      obtain ⟨a_0, a_1, a_2, a_3, a_4⟩ := five_cells (unhide HA)
      obtain ⟨b_0, b_1, b_2, b_3, b_4⟩ := five_cells (unhide HX')
      clear a_0 a_1 a_2 a_3 a_4 b_0 b_1 b_2 b_3 b_4 HA HX'
      go_wp2_with fail
      refine (unhide HF _).mono ?_
      rintro e w5 ⟨rfl, bb⟩
      replace HX := hide (five_below (unhide HX) bb (five_lt (unhide HX)))
      replace HB := hide (below_nx (unhide HB) bb)
      clear bb
      go_wp2_with fail
      refine (unhide HC _).mono ?_
      rintro e wz ⟨rfl, bz⟩
      have hf := five_below (unhide HX) bz (five_lt (unhide HX))
      obtain ⟨⟨⟨x0, c0⟩, ⟨x1, c1⟩, ⟨x2, c2⟩, ⟨x3, c3⟩, x4, c4⟩, f0, f1, f2, f3, f4⟩ := five_all hf
      have HF := hide hf
      have HB := hide (below_nx (unhide HB) bz)
      clear hf bz
      unfold Vl.cells
      go_wp2
      refine bodyPost_ret (results_row1b rfl _ _ _ _ _ _ _ rfl (five_set (unhide HF) _ _ _ _ _).1 Tryz.underlying29 rfl (by exact infoRef) _ rfl) rfl ?_
      exact ⟨rfl, below_five (unhide HB) (by omega) _ _ _ _ _⟩
    by_cases l45 : s.toList = [45]
    · obtain rfl := toList_lit l45
      clear l45 hn0 hn1 hn2 HLN
      have HL := hide (fun w => line9_ref ⟨#[45]⟩ w)
      rw [ByteArray.toList_eq, show lineL [45] = 3 from by decide] at HL
      rw [ByteArray.toList_eq]
      rw [show arithV [45] r.1 q.1 = toldV (subR r.1 q.1) from rfl]
      have HF := hide (fun w => sub_ref r.1 q.1 w (by omega) (by omega))
      have HC := hide (fun w => told_ref (subR r.1 q.1).1 (subR r.1 q.1).2 w)
      rw [show toldV ((subR r.1 q.1).1, (subR r.1 q.1).2) = toldV (subR r.1 q.1) from rfl] at HC
      generalize toldV (subR r.1 q.1) = V at HC ⊢
      generalize subR r.1 q.1 = g at HF HC
      unfold Vl.cells at HN1 HN2 ⊢
      go_enter Tryz.func12, Tryz.ntmps12
      go_upto_region 1 with fail
      obtain ⟨HA, HX', HX, HB⟩ := three_boxes w a b
      generalize hW : ((w.alloc (.cells #[.int .i64 a.kind, .int .i64 a.num, .string a.text, .bool a.tr, .int .i64 a.fail] 29)).alloc (.cells #[.int .i64 b.kind, .int .i64 b.num, .string b.text, .bool b.tr, .int .i64 b.fail] 29)).alloc (.cells #[.int .i64 0, .int .i64 0, .string ⟨#[]⟩, .bool false, .int .i64 0] 29) = w1 at HA HX' HX HB ⊢
      clear hW
      obtain ⟨a_0, a_1, a_2, a_3, a_4⟩ := five_cells (unhide HA)
      obtain ⟨b_0, b_1, b_2, b_3, b_4⟩ := five_cells (unhide HX')
      go_wp2_with fail
      refine (unhide HL _).mono ?_
      rintro e w2 ⟨rfl, rfl⟩
      go_wp2_with fail
      refine (unhide HN1 _).mono ?_
      rintro e w3 ⟨rfl, bb⟩
      replace HA := hide (five_below (unhide HA) bb (five_lt (unhide HA)))
      replace HX' := hide (five_below (unhide HX') bb (five_lt (unhide HX')))
      replace HX := hide (five_below (unhide HX) bb (five_lt (unhide HX)))
      replace HB := hide (below_nx (unhide HB) bb)
      clear bb a_0 a_1 a_2 a_3 a_4 b_0 b_1 b_2 b_3 b_4
      obtain ⟨a_0, a_1, a_2, a_3, a_4⟩ := five_cells (unhide HA)
      obtain ⟨b_0, b_1, b_2, b_3, b_4⟩ := five_cells (unhide HX')
      go_wp2_with fail
      refine (unhide HN2 _).mono ?_
      rintro e w4 ⟨rfl, bb⟩
      replace HA := hide (five_below (unhide HA) bb (five_lt (unhide HA)))
      replace HX' := hide (five_below (unhide HX') bb (five_lt (unhide HX')))
      replace HX := hide (five_below (unhide HX) bb (five_lt (unhide HX)))
      replace HB := hide (below_nx (unhide HB) bb)
      clear bb a_0 a_1 a_2 a_3 a_4 b_0 b_1 b_2 b_3 b_4
      obtain ⟨a_0, a_1, a_2, a_3, a_4⟩ := five_cells (unhide HA)
      obtain ⟨b_0, b_1, b_2, b_3, b_4⟩ := five_cells (unhide HX')
      clear a_0 a_1 a_2 a_3 a_4 b_0 b_1 b_2 b_3 b_4 HA HX'
      go_wp2_with fail
      refine (unhide HF _).mono ?_
      rintro e w5 ⟨rfl, bb⟩
      replace HX := hide (five_below (unhide HX) bb (five_lt (unhide HX)))
      replace HB := hide (below_nx (unhide HB) bb)
      clear bb
      go_wp2_with fail
      refine (unhide HC _).mono ?_
      rintro e wz ⟨rfl, bz⟩
      have hf := five_below (unhide HX) bz (five_lt (unhide HX))
      obtain ⟨⟨⟨x0, c0⟩, ⟨x1, c1⟩, ⟨x2, c2⟩, ⟨x3, c3⟩, x4, c4⟩, f0, f1, f2, f3, f4⟩ := five_all hf
      have HF := hide hf
      have HB := hide (below_nx (unhide HB) bz)
      clear hf bz
      unfold Vl.cells
      go_wp2
      refine bodyPost_ret (results_row1b rfl _ _ _ _ _ _ _ rfl (five_set (unhide HF) _ _ _ _ _).1 Tryz.underlying29 rfl (by exact infoRef) _ rfl) rfl ?_
      exact ⟨rfl, below_five (unhide HB) (by omega) _ _ _ _ _⟩
    by_cases l42 : s.toList = [42]
    · obtain rfl := toList_lit l42
      clear l42 hn0 hn1 hn2 HLN
      have HL := hide (fun w => line9_ref ⟨#[42]⟩ w)
      rw [ByteArray.toList_eq, show lineL [42] = 4 from by decide] at HL
      rw [ByteArray.toList_eq]
      rw [show arithV [42] r.1 q.1 = toldV (mulR r.1 q.1) from rfl]
      have HF := hide (fun w => mul_ref r.1 q.1 w)
      have HC := hide (fun w => told_ref (mulR r.1 q.1).1 (mulR r.1 q.1).2 w)
      rw [show toldV ((mulR r.1 q.1).1, (mulR r.1 q.1).2) = toldV (mulR r.1 q.1) from rfl] at HC
      generalize toldV (mulR r.1 q.1) = V at HC ⊢
      generalize mulR r.1 q.1 = g at HF HC
      unfold Vl.cells at HN1 HN2 ⊢
      go_enter Tryz.func12, Tryz.ntmps12
      go_upto_region 1 with fail
      obtain ⟨HA, HX', HX, HB⟩ := three_boxes w a b
      generalize hW : ((w.alloc (.cells #[.int .i64 a.kind, .int .i64 a.num, .string a.text, .bool a.tr, .int .i64 a.fail] 29)).alloc (.cells #[.int .i64 b.kind, .int .i64 b.num, .string b.text, .bool b.tr, .int .i64 b.fail] 29)).alloc (.cells #[.int .i64 0, .int .i64 0, .string ⟨#[]⟩, .bool false, .int .i64 0] 29) = w1 at HA HX' HX HB ⊢
      clear hW
      obtain ⟨a_0, a_1, a_2, a_3, a_4⟩ := five_cells (unhide HA)
      obtain ⟨b_0, b_1, b_2, b_3, b_4⟩ := five_cells (unhide HX')
      go_wp2_with fail
      refine (unhide HL _).mono ?_
      rintro e w2 ⟨rfl, rfl⟩
      go_wp2_with fail
      refine (unhide HN1 _).mono ?_
      rintro e w3 ⟨rfl, bb⟩
      replace HA := hide (five_below (unhide HA) bb (five_lt (unhide HA)))
      replace HX' := hide (five_below (unhide HX') bb (five_lt (unhide HX')))
      replace HX := hide (five_below (unhide HX) bb (five_lt (unhide HX)))
      replace HB := hide (below_nx (unhide HB) bb)
      clear bb a_0 a_1 a_2 a_3 a_4 b_0 b_1 b_2 b_3 b_4
      obtain ⟨a_0, a_1, a_2, a_3, a_4⟩ := five_cells (unhide HA)
      obtain ⟨b_0, b_1, b_2, b_3, b_4⟩ := five_cells (unhide HX')
      go_wp2_with fail
      refine (unhide HN2 _).mono ?_
      rintro e w4 ⟨rfl, bb⟩
      replace HA := hide (five_below (unhide HA) bb (five_lt (unhide HA)))
      replace HX' := hide (five_below (unhide HX') bb (five_lt (unhide HX')))
      replace HX := hide (five_below (unhide HX) bb (five_lt (unhide HX)))
      replace HB := hide (below_nx (unhide HB) bb)
      clear bb a_0 a_1 a_2 a_3 a_4 b_0 b_1 b_2 b_3 b_4
      obtain ⟨a_0, a_1, a_2, a_3, a_4⟩ := five_cells (unhide HA)
      obtain ⟨b_0, b_1, b_2, b_3, b_4⟩ := five_cells (unhide HX')
      clear a_0 a_1 a_2 a_3 a_4 b_0 b_1 b_2 b_3 b_4 HA HX'
      go_wp2_with fail
      refine (unhide HF _).mono ?_
      rintro e w5 ⟨rfl, bb⟩
      replace HX := hide (five_below (unhide HX) bb (five_lt (unhide HX)))
      replace HB := hide (below_nx (unhide HB) bb)
      clear bb
      go_wp2_with fail
      refine (unhide HC _).mono ?_
      rintro e wz ⟨rfl, bz⟩
      have hf := five_below (unhide HX) bz (five_lt (unhide HX))
      obtain ⟨⟨⟨x0, c0⟩, ⟨x1, c1⟩, ⟨x2, c2⟩, ⟨x3, c3⟩, x4, c4⟩, f0, f1, f2, f3, f4⟩ := five_all hf
      have HF := hide hf
      have HB := hide (below_nx (unhide HB) bz)
      clear hf bz
      unfold Vl.cells
      go_wp2
      refine bodyPost_ret (results_row1b rfl _ _ _ _ _ _ _ rfl (five_set (unhide HF) _ _ _ _ _).1 Tryz.underlying29 rfl (by exact infoRef) _ rfl) rfl ?_
      exact ⟨rfl, below_five (unhide HB) (by omega) _ _ _ _ _⟩
    by_cases l47 : s.toList = [47]
    · obtain rfl := toList_lit l47
      clear l47 hn0 hn1 hn2 HLN
      have HL := hide (fun w => line9_ref ⟨#[47]⟩ w)
      rw [ByteArray.toList_eq, show lineL [47] = 4 from by decide] at HL
      rw [ByteArray.toList_eq]
      rw [show arithV [47] r.1 q.1 = toldV (divR r.1 q.1) from rfl]
      have HF := hide (fun w => div_ref r.1 q.1 w)
      have HC := hide (fun w => told_ref (divR r.1 q.1).1 (divR r.1 q.1).2 w)
      rw [show toldV ((divR r.1 q.1).1, (divR r.1 q.1).2) = toldV (divR r.1 q.1) from rfl] at HC
      generalize toldV (divR r.1 q.1) = V at HC ⊢
      generalize divR r.1 q.1 = g at HF HC
      unfold Vl.cells at HN1 HN2 ⊢
      go_enter Tryz.func12, Tryz.ntmps12
      go_upto_region 1 with fail
      obtain ⟨HA, HX', HX, HB⟩ := three_boxes w a b
      generalize hW : ((w.alloc (.cells #[.int .i64 a.kind, .int .i64 a.num, .string a.text, .bool a.tr, .int .i64 a.fail] 29)).alloc (.cells #[.int .i64 b.kind, .int .i64 b.num, .string b.text, .bool b.tr, .int .i64 b.fail] 29)).alloc (.cells #[.int .i64 0, .int .i64 0, .string ⟨#[]⟩, .bool false, .int .i64 0] 29) = w1 at HA HX' HX HB ⊢
      clear hW
      obtain ⟨a_0, a_1, a_2, a_3, a_4⟩ := five_cells (unhide HA)
      obtain ⟨b_0, b_1, b_2, b_3, b_4⟩ := five_cells (unhide HX')
      go_wp2_with fail
      refine (unhide HL _).mono ?_
      rintro e w2 ⟨rfl, rfl⟩
      go_wp2_with fail
      refine (unhide HN1 _).mono ?_
      rintro e w3 ⟨rfl, bb⟩
      replace HA := hide (five_below (unhide HA) bb (five_lt (unhide HA)))
      replace HX' := hide (five_below (unhide HX') bb (five_lt (unhide HX')))
      replace HX := hide (five_below (unhide HX) bb (five_lt (unhide HX)))
      replace HB := hide (below_nx (unhide HB) bb)
      clear bb a_0 a_1 a_2 a_3 a_4 b_0 b_1 b_2 b_3 b_4
      obtain ⟨a_0, a_1, a_2, a_3, a_4⟩ := five_cells (unhide HA)
      obtain ⟨b_0, b_1, b_2, b_3, b_4⟩ := five_cells (unhide HX')
      go_wp2_with fail
      refine (unhide HN2 _).mono ?_
      rintro e w4 ⟨rfl, bb⟩
      replace HA := hide (five_below (unhide HA) bb (five_lt (unhide HA)))
      replace HX' := hide (five_below (unhide HX') bb (five_lt (unhide HX')))
      replace HX := hide (five_below (unhide HX) bb (five_lt (unhide HX)))
      replace HB := hide (below_nx (unhide HB) bb)
      clear bb a_0 a_1 a_2 a_3 a_4 b_0 b_1 b_2 b_3 b_4
      obtain ⟨a_0, a_1, a_2, a_3, a_4⟩ := five_cells (unhide HA)
      obtain ⟨b_0, b_1, b_2, b_3, b_4⟩ := five_cells (unhide HX')
      clear a_0 a_1 a_2 a_3 a_4 b_0 b_1 b_2 b_3 b_4 HA HX'
      go_wp2_with fail
      refine (unhide HF _).mono ?_
      rintro e w5 ⟨rfl, bb⟩
      replace HX := hide (five_below (unhide HX) bb (five_lt (unhide HX)))
      replace HB := hide (below_nx (unhide HB) bb)
      clear bb
      go_wp2_with fail
      refine (unhide HC _).mono ?_
      rintro e wz ⟨rfl, bz⟩
      have hf := five_below (unhide HX) bz (five_lt (unhide HX))
      obtain ⟨⟨⟨x0, c0⟩, ⟨x1, c1⟩, ⟨x2, c2⟩, ⟨x3, c3⟩, x4, c4⟩, f0, f1, f2, f3, f4⟩ := five_all hf
      have HF := hide hf
      have HB := hide (below_nx (unhide HB) bz)
      clear hf bz
      unfold Vl.cells
      go_wp2
      refine bodyPost_ret (results_row1b rfl _ _ _ _ _ _ _ rfl (five_set (unhide HF) _ _ _ _ _).1 Tryz.underlying29 rfl (by exact infoRef) _ rfl) rfl ?_
      exact ⟨rfl, below_five (unhide HB) (by omega) _ _ _ _ _⟩
    by_cases l94 : s.toList = [94]
    · obtain rfl := toList_lit l94
      clear l94 hn0 hn1 hn2 HLN
      have HL := hide (fun w => line9_ref ⟨#[94]⟩ w)
      rw [ByteArray.toList_eq, show lineL [94] = 5 from by decide] at HL
      rw [ByteArray.toList_eq]
      rw [show arithV [94] r.1 q.1 = powV r.1 q.1 from rfl]
      have HC := hide (fun w => pow9_ref r.1 q.1 w (by omega) (by omega))
      generalize powV r.1 q.1 = V at HC ⊢
      unfold Vl.cells at HN1 HN2 ⊢
      go_enter Tryz.func12, Tryz.ntmps12
      go_upto_region 1 with fail
      obtain ⟨HA, HX', HX, HB⟩ := three_boxes w a b
      generalize hW : ((w.alloc (.cells #[.int .i64 a.kind, .int .i64 a.num, .string a.text, .bool a.tr, .int .i64 a.fail] 29)).alloc (.cells #[.int .i64 b.kind, .int .i64 b.num, .string b.text, .bool b.tr, .int .i64 b.fail] 29)).alloc (.cells #[.int .i64 0, .int .i64 0, .string ⟨#[]⟩, .bool false, .int .i64 0] 29) = w1 at HA HX' HX HB ⊢
      clear hW
      obtain ⟨a_0, a_1, a_2, a_3, a_4⟩ := five_cells (unhide HA)
      obtain ⟨b_0, b_1, b_2, b_3, b_4⟩ := five_cells (unhide HX')
      go_wp2_with fail
      refine (unhide HL _).mono ?_
      rintro e w2 ⟨rfl, rfl⟩
      go_wp2_with fail
      refine (unhide HN1 _).mono ?_
      rintro e w3 ⟨rfl, bb⟩
      replace HA := hide (five_below (unhide HA) bb (five_lt (unhide HA)))
      replace HX' := hide (five_below (unhide HX') bb (five_lt (unhide HX')))
      replace HX := hide (five_below (unhide HX) bb (five_lt (unhide HX)))
      replace HB := hide (below_nx (unhide HB) bb)
      clear bb a_0 a_1 a_2 a_3 a_4 b_0 b_1 b_2 b_3 b_4
      obtain ⟨a_0, a_1, a_2, a_3, a_4⟩ := five_cells (unhide HA)
      obtain ⟨b_0, b_1, b_2, b_3, b_4⟩ := five_cells (unhide HX')
      go_wp2_with fail
      refine (unhide HN2 _).mono ?_
      rintro e w4 ⟨rfl, bb⟩
      replace HA := hide (five_below (unhide HA) bb (five_lt (unhide HA)))
      replace HX' := hide (five_below (unhide HX') bb (five_lt (unhide HX')))
      replace HX := hide (five_below (unhide HX) bb (five_lt (unhide HX)))
      replace HB := hide (below_nx (unhide HB) bb)
      clear bb a_0 a_1 a_2 a_3 a_4 b_0 b_1 b_2 b_3 b_4
      obtain ⟨a_0, a_1, a_2, a_3, a_4⟩ := five_cells (unhide HA)
      obtain ⟨b_0, b_1, b_2, b_3, b_4⟩ := five_cells (unhide HX')
      clear a_0 a_1 a_2 a_3 a_4 b_0 b_1 b_2 b_3 b_4 HA HX'
      go_wp2_with fail
      refine (unhide HC _).mono ?_
      rintro e wz ⟨rfl, bz⟩
      have hf := five_below (unhide HX) bz (five_lt (unhide HX))
      obtain ⟨⟨⟨x0, c0⟩, ⟨x1, c1⟩, ⟨x2, c2⟩, ⟨x3, c3⟩, x4, c4⟩, f0, f1, f2, f3, f4⟩ := five_all hf
      have HF := hide hf
      have HB := hide (below_nx (unhide HB) bz)
      clear hf bz
      unfold Vl.cells
      go_wp2
      refine bodyPost_ret (results_row1b rfl _ _ _ _ _ _ _ rfl (five_set (unhide HF) _ _ _ _ _).1 Tryz.underlying29 rfl (by exact infoRef) _ rfl) rfl ?_
      exact ⟨rfl, below_five (unhide HB) (by omega) _ _ _ _ _⟩

    exfalso
    rcases unhide HLN with h | h | h | h | h
    · exact l43 h
    · exact l45 h
    · exact l42 h
    · exact l47 h
    · exact l94 h

  by_cases l38 : s.toList = [38]
  · obtain rfl := toList_lit l38
    clear l3 l38
    have HL := hide (fun w => line9_ref ⟨#[38]⟩ w)
    rw [ByteArray.toList_eq, show lineL [38] = 2 from by decide] at HL
    rw [ByteArray.toList_eq, show binB [38] = true from by decide, show binS [38] (vSound a) (vSound b) = joinV (asTextV (vSound a)) (asTextV (vSound b)) from rfl]
    have HN1 := hide (fun w => astext_ref a w ha)
    have HN2 := hide (fun w => astext_ref b w hb)
    have hr := text_range a
    have hq := text_range b
    obtain ⟨r, er⟩ : ∃ r, asTextV (vSound a) = r := ⟨_, rfl⟩
    obtain ⟨q, eq⟩ : ∃ q, asTextV (vSound b) = q := ⟨_, rfl⟩
    rw [er] at HN1 hr ⊢
    rw [eq] at HN2 hq ⊢
    clear er eq
    obtain ⟨hr, r1⟩ := hr
    obtain ⟨hq, q1⟩ := hq
    unfold joinV
    by_cases h0 : r.2 = 0
    rotate_left
    · rw [if_pos h0]
      have HC := hide (fun w => e9_ref r.2 w (by omega) (by omega))
      generalize vE r.2 = V at HC ⊢
      unfold Vl.cells at HN1 HN2 ⊢
      go_enter Tryz.func12, Tryz.ntmps12
      go_upto_region 1 with fail
      obtain ⟨HA, HX', HX, HB⟩ := three_boxes w a b
      generalize hW : ((w.alloc (.cells #[.int .i64 a.kind, .int .i64 a.num, .string a.text, .bool a.tr, .int .i64 a.fail] 29)).alloc (.cells #[.int .i64 b.kind, .int .i64 b.num, .string b.text, .bool b.tr, .int .i64 b.fail] 29)).alloc (.cells #[.int .i64 0, .int .i64 0, .string ⟨#[]⟩, .bool false, .int .i64 0] 29) = w1 at HA HX' HX HB ⊢
      clear hW
      obtain ⟨a_0, a_1, a_2, a_3, a_4⟩ := five_cells (unhide HA)
      obtain ⟨b_0, b_1, b_2, b_3, b_4⟩ := five_cells (unhide HX')
      go_wp2_with fail
      refine (unhide HL _).mono ?_
      rintro e w2 ⟨rfl, rfl⟩
      go_wp2_with fail
      refine (unhide HN1 _).mono ?_
      rintro e w3 ⟨rfl, bb⟩
      replace HA := hide (five_below (unhide HA) bb (five_lt (unhide HA)))
      replace HX' := hide (five_below (unhide HX') bb (five_lt (unhide HX')))
      replace HX := hide (five_below (unhide HX) bb (five_lt (unhide HX)))
      replace HB := hide (below_nx (unhide HB) bb)
      clear bb a_0 a_1 a_2 a_3 a_4 b_0 b_1 b_2 b_3 b_4
      obtain ⟨a_0, a_1, a_2, a_3, a_4⟩ := five_cells (unhide HA)
      obtain ⟨b_0, b_1, b_2, b_3, b_4⟩ := five_cells (unhide HX')
      go_wp2_with fail
      refine (unhide HN2 _).mono ?_
      rintro e w4 ⟨rfl, bb⟩
      replace HA := hide (five_below (unhide HA) bb (five_lt (unhide HA)))
      replace HX' := hide (five_below (unhide HX') bb (five_lt (unhide HX')))
      replace HX := hide (five_below (unhide HX) bb (five_lt (unhide HX)))
      replace HB := hide (below_nx (unhide HB) bb)
      clear bb a_0 a_1 a_2 a_3 a_4 b_0 b_1 b_2 b_3 b_4
      obtain ⟨a_0, a_1, a_2, a_3, a_4⟩ := five_cells (unhide HA)
      obtain ⟨b_0, b_1, b_2, b_3, b_4⟩ := five_cells (unhide HX')
      clear a_0 a_1 a_2 a_3 a_4 b_0 b_1 b_2 b_3 b_4 HA HX'
      go_wp2_with fail
      refine (unhide HC _).mono ?_
      rintro e wz ⟨rfl, bz⟩
      have hf := five_below (unhide HX) bz (five_lt (unhide HX))
      obtain ⟨⟨⟨x0, c0⟩, ⟨x1, c1⟩, ⟨x2, c2⟩, ⟨x3, c3⟩, x4, c4⟩, f0, f1, f2, f3, f4⟩ := five_all hf
      have HF := hide hf
      have HB := hide (below_nx (unhide HB) bz)
      clear hf bz
      unfold Vl.cells
      go_wp2
      refine bodyPost_ret (results_row1b rfl _ _ _ _ _ _ _ rfl (five_set (unhide HF) _ _ _ _ _).1 Tryz.underlying29 rfl (by exact infoRef) _ rfl) rfl ?_
      exact ⟨rfl, below_five (unhide HB) (by omega) _ _ _ _ _⟩
    rw [if_neg (by omega)]
    by_cases h2 : q.2 = 0
    rotate_left
    · rw [if_pos h2]
      have HC := hide (fun w => e9_ref q.2 w (by omega) (by omega))
      generalize vE q.2 = V at HC ⊢
      unfold Vl.cells at HN1 HN2 ⊢
      go_enter Tryz.func12, Tryz.ntmps12
      go_upto_region 1 with fail
      obtain ⟨HA, HX', HX, HB⟩ := three_boxes w a b
      generalize hW : ((w.alloc (.cells #[.int .i64 a.kind, .int .i64 a.num, .string a.text, .bool a.tr, .int .i64 a.fail] 29)).alloc (.cells #[.int .i64 b.kind, .int .i64 b.num, .string b.text, .bool b.tr, .int .i64 b.fail] 29)).alloc (.cells #[.int .i64 0, .int .i64 0, .string ⟨#[]⟩, .bool false, .int .i64 0] 29) = w1 at HA HX' HX HB ⊢
      clear hW
      obtain ⟨a_0, a_1, a_2, a_3, a_4⟩ := five_cells (unhide HA)
      obtain ⟨b_0, b_1, b_2, b_3, b_4⟩ := five_cells (unhide HX')
      go_wp2_with fail
      refine (unhide HL _).mono ?_
      rintro e w2 ⟨rfl, rfl⟩
      go_wp2_with fail
      refine (unhide HN1 _).mono ?_
      rintro e w3 ⟨rfl, bb⟩
      replace HA := hide (five_below (unhide HA) bb (five_lt (unhide HA)))
      replace HX' := hide (five_below (unhide HX') bb (five_lt (unhide HX')))
      replace HX := hide (five_below (unhide HX) bb (five_lt (unhide HX)))
      replace HB := hide (below_nx (unhide HB) bb)
      clear bb a_0 a_1 a_2 a_3 a_4 b_0 b_1 b_2 b_3 b_4
      obtain ⟨a_0, a_1, a_2, a_3, a_4⟩ := five_cells (unhide HA)
      obtain ⟨b_0, b_1, b_2, b_3, b_4⟩ := five_cells (unhide HX')
      go_wp2_with fail
      refine (unhide HN2 _).mono ?_
      rintro e w4 ⟨rfl, bb⟩
      replace HA := hide (five_below (unhide HA) bb (five_lt (unhide HA)))
      replace HX' := hide (five_below (unhide HX') bb (five_lt (unhide HX')))
      replace HX := hide (five_below (unhide HX) bb (five_lt (unhide HX)))
      replace HB := hide (below_nx (unhide HB) bb)
      clear bb a_0 a_1 a_2 a_3 a_4 b_0 b_1 b_2 b_3 b_4
      obtain ⟨a_0, a_1, a_2, a_3, a_4⟩ := five_cells (unhide HA)
      obtain ⟨b_0, b_1, b_2, b_3, b_4⟩ := five_cells (unhide HX')
      clear a_0 a_1 a_2 a_3 a_4 b_0 b_1 b_2 b_3 b_4 HA HX'
      go_wp2_with fail
      refine (unhide HC _).mono ?_
      rintro e wz ⟨rfl, bz⟩
      have hf := five_below (unhide HX) bz (five_lt (unhide HX))
      obtain ⟨⟨⟨x0, c0⟩, ⟨x1, c1⟩, ⟨x2, c2⟩, ⟨x3, c3⟩, x4, c4⟩, f0, f1, f2, f3, f4⟩ := five_all hf
      have HF := hide hf
      have HB := hide (below_nx (unhide HB) bz)
      clear hf bz
      unfold Vl.cells
      go_wp2
      refine bodyPost_ret (results_row1b rfl _ _ _ _ _ _ _ rfl (five_set (unhide HF) _ _ _ _ _).1 Tryz.underlying29 rfl (by exact infoRef) _ rfl) rfl ?_
      exact ⟨rfl, below_five (unhide HB) (by omega) _ _ _ _ _⟩
    rw [if_neg (by omega)]
    clear hr hq
    have HC := hide (fun w => t_ref (r.1 ++ q.1) w (by rw [ByteArray.size_append]; omega))
    generalize vT (r.1 ++ q.1) = V at HC ⊢
    unfold Vl.cells at HN1 HN2 ⊢
    go_enter Tryz.func12, Tryz.ntmps12
    go_upto_region 1 with fail
    obtain ⟨HA, HX', HX, HB⟩ := three_boxes w a b
    generalize hW : ((w.alloc (.cells #[.int .i64 a.kind, .int .i64 a.num, .string a.text, .bool a.tr, .int .i64 a.fail] 29)).alloc (.cells #[.int .i64 b.kind, .int .i64 b.num, .string b.text, .bool b.tr, .int .i64 b.fail] 29)).alloc (.cells #[.int .i64 0, .int .i64 0, .string ⟨#[]⟩, .bool false, .int .i64 0] 29) = w1 at HA HX' HX HB ⊢
    clear hW
    obtain ⟨a_0, a_1, a_2, a_3, a_4⟩ := five_cells (unhide HA)
    obtain ⟨b_0, b_1, b_2, b_3, b_4⟩ := five_cells (unhide HX')
    go_wp2_with fail
    refine (unhide HL _).mono ?_
    rintro e w2 ⟨rfl, rfl⟩
    go_wp2_with fail
    refine (unhide HN1 _).mono ?_
    rintro e w3 ⟨rfl, bb⟩
    replace HA := hide (five_below (unhide HA) bb (five_lt (unhide HA)))
    replace HX' := hide (five_below (unhide HX') bb (five_lt (unhide HX')))
    replace HX := hide (five_below (unhide HX) bb (five_lt (unhide HX)))
    replace HB := hide (below_nx (unhide HB) bb)
    clear bb a_0 a_1 a_2 a_3 a_4 b_0 b_1 b_2 b_3 b_4
    obtain ⟨a_0, a_1, a_2, a_3, a_4⟩ := five_cells (unhide HA)
    obtain ⟨b_0, b_1, b_2, b_3, b_4⟩ := five_cells (unhide HX')
    go_wp2_with fail
    refine (unhide HN2 _).mono ?_
    rintro e w4 ⟨rfl, bb⟩
    replace HA := hide (five_below (unhide HA) bb (five_lt (unhide HA)))
    replace HX' := hide (five_below (unhide HX') bb (five_lt (unhide HX')))
    replace HX := hide (five_below (unhide HX) bb (five_lt (unhide HX)))
    replace HB := hide (below_nx (unhide HB) bb)
    clear bb a_0 a_1 a_2 a_3 a_4 b_0 b_1 b_2 b_3 b_4
    obtain ⟨a_0, a_1, a_2, a_3, a_4⟩ := five_cells (unhide HA)
    obtain ⟨b_0, b_1, b_2, b_3, b_4⟩ := five_cells (unhide HX')
    clear a_0 a_1 a_2 a_3 a_4 b_0 b_1 b_2 b_3 b_4 HA HX'
    go_wp2_with fail
    refine (unhide HC _).mono ?_
    rintro e wz ⟨rfl, bz⟩
    have hf := five_below (unhide HX) bz (five_lt (unhide HX))
    obtain ⟨⟨⟨x0, c0⟩, ⟨x1, c1⟩, ⟨x2, c2⟩, ⟨x3, c3⟩, x4, c4⟩, f0, f1, f2, f3, f4⟩ := five_all hf
    have HF := hide hf
    have HB := hide (below_nx (unhide HB) bz)
    clear hf bz
    unfold Vl.cells
    go_wp2
    refine bodyPost_ret (results_row1b rfl _ _ _ _ _ _ _ rfl (five_set (unhide HF) _ _ _ _ _).1 Tryz.underlying29 rfl (by exact infoRef) _ rfl) rfl ?_
    exact ⟨rfl, below_five (unhide HB) (by omega) _ _ _ _ _⟩

  by_cases l1 : lineL s.toList = 1
  · clear l3 l38
    have HL := hide (fun w => line9_ref s w)
    have eB : binB s.toList = true := by unfold binB; rw [l1]; rfl
    have eS : binS s.toList (vSound a) (vSound b) = (if (ordV3 (vSound a) (vSound b)).2 ≠ 0 then vE (ordV3 (vSound a) (vSound b)).2 else vB (cmpL s.toList (ordV3 (vSound a) (vSound b)).1)) := by
      unfold binS; rw [if_neg (by omega), if_pos l1]
    rw [l1] at HL
    rw [eB, eS]
    clear eB eS l1
    have HN1 := hide (fun w => order_ref a b w ha hb)
    have hr := ord_err (sound_good a) (sound_good b)
    obtain ⟨r, er⟩ : ∃ r, ordV3 (vSound a) (vSound b) = r := ⟨_, rfl⟩
    rw [er] at HN1 hr ⊢
    clear er
    by_cases h0 : r.2 = 0
    rotate_left
    · rw [if_pos h0]
      have HC := hide (fun w => e9_ref r.2 w (by omega) (by omega))
      generalize vE r.2 = V at HC ⊢
      unfold Vl.cells at HN1 ⊢
      go_enter Tryz.func12, Tryz.ntmps12
      go_upto_region 1 with fail
      obtain ⟨HA, HX', HX, HB⟩ := three_boxes w a b
      generalize hW : ((w.alloc (.cells #[.int .i64 a.kind, .int .i64 a.num, .string a.text, .bool a.tr, .int .i64 a.fail] 29)).alloc (.cells #[.int .i64 b.kind, .int .i64 b.num, .string b.text, .bool b.tr, .int .i64 b.fail] 29)).alloc (.cells #[.int .i64 0, .int .i64 0, .string ⟨#[]⟩, .bool false, .int .i64 0] 29) = w1 at HA HX' HX HB ⊢
      clear hW
      obtain ⟨a_0, a_1, a_2, a_3, a_4⟩ := five_cells (unhide HA)
      obtain ⟨b_0, b_1, b_2, b_3, b_4⟩ := five_cells (unhide HX')
      go_wp2_with fail
      refine (unhide HL _).mono ?_
      rintro e w2 ⟨rfl, rfl⟩
      go_wp2_with fail
      refine (unhide HN1 _).mono ?_
      rintro e w3 ⟨rfl, bb⟩
      replace HA := hide (five_below (unhide HA) bb (five_lt (unhide HA)))
      replace HX' := hide (five_below (unhide HX') bb (five_lt (unhide HX')))
      replace HX := hide (five_below (unhide HX) bb (five_lt (unhide HX)))
      replace HB := hide (below_nx (unhide HB) bb)
      clear bb a_0 a_1 a_2 a_3 a_4 b_0 b_1 b_2 b_3 b_4
      obtain ⟨a_0, a_1, a_2, a_3, a_4⟩ := five_cells (unhide HA)
      obtain ⟨b_0, b_1, b_2, b_3, b_4⟩ := five_cells (unhide HX')
      clear a_0 a_1 a_2 a_3 a_4 b_0 b_1 b_2 b_3 b_4 HA HX'
      go_wp2_with fail
      refine (unhide HC _).mono ?_
      rintro e wz ⟨rfl, bz⟩
      have hf := five_below (unhide HX) bz (five_lt (unhide HX))
      obtain ⟨⟨⟨x0, c0⟩, ⟨x1, c1⟩, ⟨x2, c2⟩, ⟨x3, c3⟩, x4, c4⟩, f0, f1, f2, f3, f4⟩ := five_all hf
      have HF := hide hf
      have HB := hide (below_nx (unhide HB) bz)
      clear hf bz
      unfold Vl.cells
      go_wp2
      refine bodyPost_ret (results_row1b rfl _ _ _ _ _ _ _ rfl (five_set (unhide HF) _ _ _ _ _).1 Tryz.underlying29 rfl (by exact infoRef) _ rfl) rfl ?_
      exact ⟨rfl, below_five (unhide HB) (by omega) _ _ _ _ _⟩
    rw [if_neg (by omega)]
    clear hr
    have HF := hide (fun w => compare_ref s r.1 w)
    have HC := hide (fun w => b_ref (cmpL s.toList r.1) w)
    generalize vB (cmpL s.toList r.1) = V at HC ⊢
    generalize cmpL s.toList r.1 = c at HF HC
    unfold Vl.cells at HN1 ⊢
    go_enter Tryz.func12, Tryz.ntmps12
    go_upto_region 1 with fail
    obtain ⟨HA, HX', HX, HB⟩ := three_boxes w a b
    generalize hW : ((w.alloc (.cells #[.int .i64 a.kind, .int .i64 a.num, .string a.text, .bool a.tr, .int .i64 a.fail] 29)).alloc (.cells #[.int .i64 b.kind, .int .i64 b.num, .string b.text, .bool b.tr, .int .i64 b.fail] 29)).alloc (.cells #[.int .i64 0, .int .i64 0, .string ⟨#[]⟩, .bool false, .int .i64 0] 29) = w1 at HA HX' HX HB ⊢
    clear hW
    obtain ⟨a_0, a_1, a_2, a_3, a_4⟩ := five_cells (unhide HA)
    obtain ⟨b_0, b_1, b_2, b_3, b_4⟩ := five_cells (unhide HX')
    go_wp2_with fail
    refine (unhide HL _).mono ?_
    rintro e w2 ⟨rfl, rfl⟩
    go_wp2_with fail
    refine (unhide HN1 _).mono ?_
    rintro e w3 ⟨rfl, bb⟩
    replace HA := hide (five_below (unhide HA) bb (five_lt (unhide HA)))
    replace HX' := hide (five_below (unhide HX') bb (five_lt (unhide HX')))
    replace HX := hide (five_below (unhide HX) bb (five_lt (unhide HX)))
    replace HB := hide (below_nx (unhide HB) bb)
    clear bb a_0 a_1 a_2 a_3 a_4 b_0 b_1 b_2 b_3 b_4
    obtain ⟨a_0, a_1, a_2, a_3, a_4⟩ := five_cells (unhide HA)
    obtain ⟨b_0, b_1, b_2, b_3, b_4⟩ := five_cells (unhide HX')
    clear a_0 a_1 a_2 a_3 a_4 b_0 b_1 b_2 b_3 b_4 HA HX'
    go_wp2_with fail
    refine (unhide HF _).mono ?_
    rintro e w5 ⟨rfl, rfl⟩
    go_wp2_with fail
    refine (unhide HC _).mono ?_
    rintro e wz ⟨rfl, bz⟩
    have hf := five_below (unhide HX) bz (five_lt (unhide HX))
    obtain ⟨⟨⟨x0, c0⟩, ⟨x1, c1⟩, ⟨x2, c2⟩, ⟨x3, c3⟩, x4, c4⟩, f0, f1, f2, f3, f4⟩ := five_all hf
    have HF := hide hf
    have HB := hide (below_nx (unhide HB) bz)
    clear hf bz
    unfold Vl.cells
    go_wp2
    refine bodyPost_ret (results_row1b rfl _ _ _ _ _ _ _ rfl (five_set (unhide HF) _ _ _ _ _).1 Tryz.underlying29 rfl (by exact infoRef) _ rfl) rfl ?_
    exact ⟨rfl, below_five (unhide HB) (by omega) _ _ _ _ _⟩

  have l0 : lineL s.toList = 0 := by
    have h2 : lineL s.toList ≠ 2 := fun h => l38 (line_two h)
    omega
  clear l3 l38 l1
  have HL := hide (fun w => line9_ref s w)
  have eB : binB s.toList = false := by unfold binB; rw [l0]; rfl
  have eS : binS s.toList (vSound a) (vSound b) = zV := by unfold binS; rw [if_pos l0]
  rw [l0] at HL
  rw [eB, eS]
  clear eB eS l0
  unfold Vl.cells zV
  go_enter Tryz.func12, Tryz.ntmps12
  go_upto_region 1 with fail
  obtain ⟨HA, HX', HX, HB⟩ := three_boxes w a b
  generalize hW : ((w.alloc (.cells #[.int .i64 a.kind, .int .i64 a.num, .string a.text, .bool a.tr, .int .i64 a.fail] 29)).alloc (.cells #[.int .i64 b.kind, .int .i64 b.num, .string b.text, .bool b.tr, .int .i64 b.fail] 29)).alloc (.cells #[.int .i64 0, .int .i64 0, .string ⟨#[]⟩, .bool false, .int .i64 0] 29) = w1 at HA HX' HX HB ⊢
  clear hW
  obtain ⟨a_0, a_1, a_2, a_3, a_4⟩ := five_cells (unhide HA)
  obtain ⟨b_0, b_1, b_2, b_3, b_4⟩ := five_cells (unhide HX')
  go_wp2_with fail
  refine (unhide HL _).mono ?_
  rintro e w2 ⟨rfl, rfl⟩
  clear a_0 a_1 a_2 a_3 a_4 b_0 b_1 b_2 b_3 b_4 HA HX'
  obtain ⟨⟨⟨x0, c0⟩, ⟨x1, c1⟩, ⟨x2, c2⟩, ⟨x3, c3⟩, x4, c4⟩, f0, f1, f2, f3, f4⟩ := five_all (unhide HX)
  have HF := HX
  clear HX
  go_wp2
  refine bodyPost_ret (results_row1b rfl _ _ _ _ _ _ _ rfl (five_set (unhide HF) _ _ _ _ _).1 Tryz.underlying29 rfl (by exact infoRef) _ rfl) rfl ?_
  exact ⟨rfl, below_five (unhide HB) (by omega) _ _ _ _ _⟩
end Go.Proofs.YtbeijnflfmjgfaaGreatDoor

namespace Go.Proofs.YtbeijnflfmjgfaaGreatDoor
open Go.RowKit

def numsV : List Vl → Int × List Int
  | [] => (0, [])
  | v :: vs => if (asNumV (vSound v)).2 ≠ 0 then ((asNumV (vSound v)).2, []) else if (numsV vs).1 ≠ 0 then ((numsV vs).1, []) else (0, (asNumV (vSound v)).1 :: (numsV vs).2)
def callN (s : List UInt8) : List Int → Vl
  | [a] => oneV s a
  | [a, b] => twoV s a b
  | _ => vE 3
def callV (s : List UInt8) (vs : List Vl) : Vl :=
  if takesL s = 0 then zV else if vs.length ≠ takesL s then vE 3 else if (numsV vs).1 ≠ 0 then vE (numsV vs).1 else callN s (numsV vs).2
def callB (s : List UInt8) : Bool := decide (takesL s ≠ 0)
def ValsAt (w : World) (v : Value) (vs : List Vl) : Prop :=
  ∃ ad cap, v = .slice ad vs.length cap ∧ (0 < vs.length → ∃ b o, ad = some ⟨b, o, none⟩ ∧ b < w.heap.size ∧
    ∀ i x, vs[i]? = some x → w.cell? ⟨b, o + i * 5, none⟩ = some (.int .i64 x.kind) ∧ w.cell? ⟨b, o + i * 5 + 1, none⟩ = some (.int .i64 x.num) ∧ w.cell? ⟨b, o + i * 5 + 2, none⟩ = some (.string x.text) ∧
      w.cell? ⟨b, o + i * 5 + 3, none⟩ = some (.bool x.tr) ∧ w.cell? ⟨b, o + i * 5 + 4, none⟩ = some (.int .i64 x.fail))
theorem vals_below {w w' : World} {B : Nat} {v : Value} {vs : List Vl} (h : ValsAt w v vs) (hB : w.heap.size ≤ B) (hb : Below B w w') : ValsAt w' v vs := by
  obtain ⟨ad, cap, e, k⟩ := h
  refine ⟨ad, cap, e, fun hl => ?_⟩
  obtain ⟨b, o, e2, hlt, hc⟩ := k hl
  refine ⟨b, o, e2, Nat.lt_of_lt_of_le hlt hb.size, fun i x hx => ?_⟩
  have c : ∀ j, w'.cell? ⟨b, j, none⟩ = w.cell? ⟨b, j, none⟩ := fun j => hb.cell (p := ⟨b, j, none⟩) (Nat.lt_of_lt_of_le hlt hB)
  rw [c, c, c, c, c]
  exact hc i x hx
theorem takes_le (s : List UInt8) : takesL s ≤ 2 := by
  unfold takesL
  repeat' split
  all_goals omega
theorem own_belowT {T : TypeId} {w w' : World} {B n z : Nat} {v : Value} {xs : List Value} (h : w.ownsRow B T z v n xs) (hb : Below w.heap.size w w') : w'.ownsRow B T z v n xs := by
  obtain ⟨h1, h2⟩ := h
  refine ⟨h1, ?_⟩
  rcases h2 with h2 | ⟨g, cap, cur, e, hg, hh, r1, r2, r3, r4⟩
  · exact Or.inl h2
  · have hlt : g < w.heap.size := by
      rcases Nat.lt_or_ge g w.heap.size with h' | h'
      · exact h'
      · rw [Array.getElem?_eq_none h'] at hh; cases hh
    exact Or.inr ⟨g, cap, cur, e, hg, by rw [hb.block g hlt]; exact hh, r1, r2, r3, r4⟩
def NumsIn (vs : List Vl) (zs : List Int) : Prop :=
  (∀ z ∈ zs, -9000000000000000000 ≤ z ∧ z ≤ 9000000000000000000) ∧ (numsV vs).1 = (numsV (vs.drop zs.length)).1 ∧ ((numsV vs).1 = 0 → (numsV vs).2 = zs ++ (numsV (vs.drop zs.length)).2)
theorem nums_start (vs : List Vl) : NumsIn vs [] := ⟨fun z h => by simp at h, rfl, fun _ => rfl⟩
theorem drop_at {vs : List Vl} {j : Nat} {x : Vl} (h : vs[j]? = some x) : vs.drop j = x :: vs.drop (j + 1) := by
  obtain ⟨hj, hx⟩ := List.getElem?_eq_some_iff.1 h
  rw [← hx, List.getElem_cons_drop]
theorem nums_bad {vs : List Vl} {zs : List Int} {x : Vl} (h : NumsIn vs zs) (hx : vs[zs.length]? = some x) (hb : (asNumV (vSound x)).2 ≠ 0) : (numsV vs).1 = (asNumV (vSound x)).2 := by
  rw [h.2.1, drop_at hx, numsV, if_pos hb]
theorem nums_more {vs : List Vl} {zs : List Int} {x : Vl} (h : NumsIn vs zs) (hx : vs[zs.length]? = some x) (hb : (asNumV (vSound x)).2 = 0) : NumsIn vs (zs ++ [(asNumV (vSound x)).1]) := by
  obtain ⟨h1, h2, h3⟩ := h
  rw [drop_at hx, numsV, if_neg (by omega)] at h2 h3
  refine ⟨fun z hz => ?_, ?_, fun h0 => ?_⟩
  · rcases List.mem_append.1 hz with hz | hz
    · exact h1 z hz
    · rw [List.mem_singleton.1 hz]; exact (num_range x).2
  · rw [List.length_append, List.length_singleton, h2]
    split
    · rfl
    · rename_i hq; simp only []; omega
  · have h4 := h3 h0
    rw [h2] at h0
    rw [List.length_append, List.length_singleton, h4]
    split
    · rename_i hq; rw [if_pos hq] at h0; exact absurd h0 hq
    · rw [List.append_assoc]; rfl
theorem nums_end {vs : List Vl} {zs : List Int} (h : NumsIn vs zs) (hl : zs.length = vs.length) : (numsV vs).1 = 0 ∧ (numsV vs).2 = zs := by
  obtain ⟨h1, h2, h3⟩ := h
  rw [hl, List.drop_length] at h2 h3
  exact ⟨h2, by rw [h3 h2]; simp [numsV]⟩

end Go.Proofs.YtbeijnflfmjgfaaGreatDoor

namespace Go.Proofs.YtbeijnflfmjgfaaGreatDoor
open Go.RowKit

theorem five_row {w : World} {B : Nat} {t : TypeId} {cs : Array Value} (h : FiveAt w B t cs) (cs' : Array Value) (h5 : cs'.size = 5) : FiveAt (w.setRow B cs') B t cs' := ⟨setRow_heap w B cs cs' t (0, 0) h.1, h5⟩
theorem five_row_side {w : World} {B : Nat} {t : TypeId} {cs : Array Value} (h : FiveAt w B t cs) (C : Nat) (hC : B ≠ C) (cs' : Array Value) : FiveAt (w.setRow C cs') B t cs := ⟨by rw [setRow_other _ _ _ _ hC]; exact h.1, h.2⟩
def IsRow (cs : Array Value) : Prop := cs.size = 5 ∧ cs.all (·.oneCell') = true
theorem vl_row (v : Vl) : IsRow v.cells := ⟨rfl, by simp [Vl.cells, Value.oneCell']⟩
theorem row_store {P : Program} {w : World} {B : Nat} {t : TypeId} {old cs : Array Value} (h : FiveAt w B t old) (hc : IsRow cs) : (storeCells ⟨B, 0, none⟩ cs.toList 0).run P w = .ok () (w.setRow B cs) := by
  have := run_storeCells_from (P := P) B t cs.toList 0 old w h.1 (by rw [h.2]; simp [hc.1]) (fun v hv => (Array.all_eq_true_iff_forall_mem.1 hc.2) v (by simpa using hv))
  simpa using this
end Go.Proofs.YtbeijnflfmjgfaaGreatDoor

namespace Go.Proofs.YtbeijnflfmjgfaaGreatDoor
open Go.RowKit

theorem results_row2 {P : Program} {fn : Func} {p q : Tmp} {ty ty' : TypeId} (h : fn.results = #[.cell p ty, .cell q ty']) (tmps : Array Value) (w : World) (g g' : Nat) (t t' : TypeId) (cs cs' : Array Value) (fr fr' : Nat × Nat) (d d' : TypeDesc)
    (hp : tmps.getD p undef = .pointer (some ⟨g, 0, none⟩)) (hg : w.heap[g]? = some (.cells cs t fr))
    (hu : P.underlying ty = some d) (hd : (match d with | .struct _ | .array _ _ => true | _ => false) = true) (hi : (P.info? ty).map (·.size) = some cs.size)
    (hp' : tmps.getD q undef = .pointer (some ⟨g', 0, none⟩)) (hg' : w.heap[g']? = some (.cells cs' t' fr'))
    (hu' : P.underlying ty' = some d') (hd' : (match d' with | .struct _ | .array _ _ => true | _ => false) = true) (hi' : (P.info? ty').map (·.size) = some cs'.size) :
    (results fn tmps).run P w = .ok (.tuple #[.agg cs, .agg cs']) w := by
  have hp2 : tmps[p]?.getD undef = .pointer (some ⟨g, 0, none⟩) := by simpa using hp
  have hp3 : tmps[q]?.getD undef = .pointer (some ⟨g', 0, none⟩) := by simpa using hp'
  simp [results, h, hp2, hp3, asAddr, run_loadVar_row w g t ty cs fr d hg hu hd hi, run_loadVar_row w g' t' ty' cs' fr' d' hg' hu' hd' hi']

theorem heap3_1 (w : World) (A B C : Obj) : (((w.alloc A).alloc B).alloc C).drew.heap[w.heap.size + 1]? = some B := by
  show (((w.heap.push A).push B).push C)[w.heap.size + 1]? = some B
  rw [Array.getElem?_push, if_neg (by simp), Array.getElem?_push, if_pos (by simp)]
theorem heap3_2 (w : World) (A B C : Obj) : (((w.alloc A).alloc B).alloc C).drew.heap[w.heap.size + 1 + 1]? = some C := by
  show (((w.heap.push A).push B).push C)[w.heap.size + 1 + 1]? = some C
  rw [Array.getElem?_push, if_pos (by simp)]
theorem below_al3d (w : World) (o p q : Obj) : Below w.heap.size w (((w.alloc o).alloc p).alloc q).drew := ((below_al2 w o p).alloc (by simp; omega) _).drew
def cutT (s : ByteArray) : ByteArray := if 300 < s.size then s.extract 0 300 else s
theorem cutT_size (s : ByteArray) : (cutT s).size ≤ 300 := by
  unfold cutT
  split
  · rw [ByteArray.size_extract]; omega
  · omega
def cutV (v : Vl) : Vl := ⟨v.kind, v.num, cutT v.text, v.tr, v.fail⟩

end Go.Proofs.YtbeijnflfmjgfaaGreatDoor

namespace Go.Proofs.YtbeijnflfmjgfaaGreatDoor
open Go.RowKit

set_option maxHeartbeats 2000000 in
theorem same9_law (u : Vl) (w : World) :
    Calls Tryz.prog 13 #[.agg u.cells, .agg u.cells] w fun e w' => e = .returned (.bool true) ∧ Below w.heap.size w w' := by
  unfold Vl.cells
  go_enter Tryz.func13, Tryz.ntmps13
  go_wp2
  go_ret
  exact ⟨rfl, below_al2 _ _ _⟩
set_option maxRecDepth 100000 in
set_option maxHeartbeats 2000000 in
theorem values9_law (v : Vl) (w : World) (hs : v.text.size ≤ maxLen) :
    Calls Tryz.prog 10 #[.agg v.cells] w fun e w' => e = .returned (.tuple #[.agg (cutV v).cells, .agg (cutV v).cells]) ∧ Below w.heap.size w w' := by
  obtain ⟨k, n, s, b, f⟩ := v
  unfold cutV Vl.cells
  simp only [] at hs ⊢
  by_cases hl : 300 < s.size
  · have e : cutT s = s.extract 0 300 := by unfold cutT; rw [if_pos hl]
    rw [e]
    clear e
    have hmin : min (s.size : Int) 300 = 300 := by omega
    go_enter Tryz.func10, Tryz.ntmps10
    go_wp2_with fail
    go_region
    all_goals (try go_wp2_with fail)
    refine bodyPost_ret (results_row2 rfl _ _ _ _ _ _ _ _ _ _ _ _ rfl (heap3_1 _ _ _ _) Tryz.underlying28 rfl infoVal rfl (heap3_2 _ _ _ _) Tryz.underlying29 rfl infoRef) rfl ?_
    first
      | exact ⟨rfl, below_al3d _ _ _ _⟩
      | exact ⟨by rw [hmin]; rfl, below_al3d _ _ _ _⟩
      | exact ⟨by simp [hmin], below_al3d _ _ _ _⟩
  · have e : cutT s = s := by unfold cutT; rw [if_neg hl]
    rw [e]
    clear e
    have hmin : min (s.size : Int) 300 = (s.size : Int) := by omega
    go_enter Tryz.func10, Tryz.ntmps10
    go_wp2_with fail
    go_region
    all_goals (try go_wp2_with fail)
    refine bodyPost_ret (results_row2 rfl _ _ _ _ _ _ _ _ _ _ _ _ rfl (heap3_1 _ _ _ _) Tryz.underlying28 rfl infoVal rfl (heap3_2 _ _ _ _) Tryz.underlying29 rfl infoRef) rfl ?_
    first
      | exact ⟨rfl, below_al3d _ _ _ _⟩
      | exact ⟨by rw [hmin]; rfl, below_al3d _ _ _ _⟩
      | exact ⟨by simp [hmin], below_al3d _ _ _ _⟩
end Go.Proofs.YtbeijnflfmjgfaaGreatDoor
