/- The program's comparisons, its texts joined, and what it tells by a name. -/
import Derived.BigQuiet
import Derived.BigRegion
import Derived.Deep.AppendLies
import Derived.Deep.CutBlock
import Derived.Deep.CutRange
import Derived.Deep.DeepFit
import Derived.Deep.DrawnRows
import Derived.Deep.QuietTactic
import Derived.Deep.RegionHeld3
import Derived.Deep.RegionWith
import Derived.Deep.WholeRow
import Derived.Laws.Bits64b
import Derived.Laws.BitsAllLaws
import Derived.Laws.CopyOwn
import Derived.Laws.EntriesVeiled
import Derived.Laws.FloatArith
import Derived.Laws.IdiomStrings
import Derived.Laws.Rows
import Derived.Laws.StructEq
import Derived.Laws.Tables
import Derived.Lib.BitFns
import Derived.Lib.IndexBytes
import Derived.Lib.ItoaMem
import Derived.Lib.ItoaNum
import Derived.Lib.TrimByte
import Derived.Lib.Walk
import Derived.OwnWalk
import Derived.Shelf.Abstract
import Derived.Shelf.Bits.Mul64
import Derived.Shelf.LaysM
import Derived.Shelf.Small.Bits
import Derived.Shelf.Small.Strs
import Derived.Shelf.Small.Wraps
import Derived.Shelf.Strconv.Itoa0
import Derived.Shelf.Strconv.Itoa1
import Derived.Shelf.Strconv.Itoa2
import Derived.Shelf.Strings.AsciiSet
import Derived.Shelf.Strings.Cut
import Derived.Shelf.Strings.Prefix
import Derived.Shelf.Strings.Search1
import Derived.Shelf.Strings.Search2
import Derived.Shelf.Strings.Shaped
import Derived.Shelf.Strings.Trim
import Derived.Test.YtbeijnflfmjgfaaGreatDoorProg
import Derived.Test.YtbeijnflfmjgfaaGreatDoorRows
import Derived.WalkKit
import Derived.WalkLawsBesides
import Derived.WalkSmall
import Derived.WalkSpells
import Ieee.Arith
import Derived.Test.YtbeijnflfmjgfaaGreatDoorZnAA
import Derived.Test.YtbeijnflfmjgfaaGreatDoorZnAB
import Derived.Test.YtbeijnflfmjgfaaGreatDoorZnAC
import Derived.Test.YtbeijnflfmjgfaaGreatDoorZnAD
import Derived.Test.YtbeijnflfmjgfaaGreatDoorZnAE
import Derived.Test.YtbeijnflfmjgfaaGreatDoorZnAF
import Derived.Test.YtbeijnflfmjgfaaGreatDoorZnAG
import Derived.Test.YtbeijnflfmjgfaaGreatDoorZnAH
import Derived.Test.YtbeijnflfmjgfaaGreatDoorZnAI
import Derived.Test.YtbeijnflfmjgfaaGreatDoorZnAJ
import Derived.Test.YtbeijnflfmjgfaaGreatDoorZnAK
import Derived.Test.YtbeijnflfmjgfaaGreatDoorZnAL
import Derived.Test.YtbeijnflfmjgfaaGreatDoorZnAM
import Derived.Test.YtbeijnflfmjgfaaGreatDoorZnAN
import Derived.Test.YtbeijnflfmjgfaaGreatDoorZnAO
import Derived.Test.YtbeijnflfmjgfaaGreatDoorZnAP
namespace Go.Proofs.YtbeijnflfmjgfaaGreatDoor
open Go.RowKit

theorem ltL_range (l : List UInt8) : ∀ m : List UInt8, -1 ≤ ltL l m ∧ ltL l m ≤ 1 := by
  induction l with
  | nil => intro m; cases m <;> simp [ltL]
  | cons a l ih =>
    intro m
    cases m with
    | nil => simp [ltL]
    | cons b m =>
      rw [ltL]
      repeat' split
      · omega
      · omega
      · exact ih m
theorem cmpV_range (a b : Int) : -1 ≤ cmpV a b ∧ cmpV a b ≤ 1 := by
  unfold cmpV
  repeat' split
  all_goals omega
theorem sameV_range (u x : Vl) : -1 ≤ sameV u x ∧ sameV u x ≤ 1 := by
  unfold sameV
  repeat' split
  all_goals first | exact cmpV_range _ _ | exact ltL_range _ _ | omega
theorem ord_range (u x : Vl) : -1 ≤ (ordV3 u x).1 ∧ (ordV3 u x).1 ≤ 1 := by
  unfold ordV3
  repeat' split
  all_goals first | exact cmpV_range _ _ | exact sameV_range _ _ | (simp only []; omega)
def Asks (s : List UInt8) (k : Nat) : Prop := Enters Tryz.prog k ∧ ∀ (o : Int) (w : World), -1 ≤ o → o ≤ 1 → Calls Tryz.prog k #[.int .i64 o] w fun e w' => e = .returned (.bool (cmpL s o)) ∧ w' = w
set_option maxHeartbeats 1000000 in
theorem asks_1 : Asks [61] 64 := by
  refine ⟨enters_of Tryz.func64 (by kernel_rfl) rfl, fun o w h1 h2 => ?_⟩
  rcases (show o = -1 ∨ o = 0 ∨ o = 1 by omega) with rfl | rfl | rfl
  · go_enter Tryz.func64, Tryz.ntmps64
    go_wp2
    go_ret
    exact ⟨rfl, rfl⟩
  · go_enter Tryz.func64, Tryz.ntmps64
    go_wp2
    go_ret
    exact ⟨rfl, rfl⟩
  · go_enter Tryz.func64, Tryz.ntmps64
    go_wp2
    go_ret
    exact ⟨rfl, rfl⟩
set_option maxHeartbeats 1000000 in
theorem asks_2 : Asks [60, 62] 65 := by
  refine ⟨enters_of Tryz.func65 (by kernel_rfl) rfl, fun o w h1 h2 => ?_⟩
  rcases (show o = -1 ∨ o = 0 ∨ o = 1 by omega) with rfl | rfl | rfl
  · go_enter Tryz.func65, Tryz.ntmps65
    go_wp2
    go_ret
    exact ⟨rfl, rfl⟩
  · go_enter Tryz.func65, Tryz.ntmps65
    go_wp2
    go_ret
    exact ⟨rfl, rfl⟩
  · go_enter Tryz.func65, Tryz.ntmps65
    go_wp2
    go_ret
    exact ⟨rfl, rfl⟩
set_option maxHeartbeats 1000000 in
theorem asks_3 : Asks [60] 66 := by
  refine ⟨enters_of Tryz.func66 (by kernel_rfl) rfl, fun o w h1 h2 => ?_⟩
  rcases (show o = -1 ∨ o = 0 ∨ o = 1 by omega) with rfl | rfl | rfl
  · go_enter Tryz.func66, Tryz.ntmps66
    go_wp2
    go_ret
    exact ⟨rfl, rfl⟩
  · go_enter Tryz.func66, Tryz.ntmps66
    go_wp2
    go_ret
    exact ⟨rfl, rfl⟩
  · go_enter Tryz.func66, Tryz.ntmps66
    go_wp2
    go_ret
    exact ⟨rfl, rfl⟩
set_option maxHeartbeats 1000000 in
theorem asks_4 : Asks [60, 61] 67 := by
  refine ⟨enters_of Tryz.func67 (by kernel_rfl) rfl, fun o w h1 h2 => ?_⟩
  rcases (show o = -1 ∨ o = 0 ∨ o = 1 by omega) with rfl | rfl | rfl
  · go_enter Tryz.func67, Tryz.ntmps67
    go_wp2
    go_ret
    exact ⟨rfl, rfl⟩
  · go_enter Tryz.func67, Tryz.ntmps67
    go_wp2
    go_ret
    exact ⟨rfl, rfl⟩
  · go_enter Tryz.func67, Tryz.ntmps67
    go_wp2
    go_ret
    exact ⟨rfl, rfl⟩
set_option maxHeartbeats 1000000 in
theorem asks_5 : Asks [62] 68 := by
  refine ⟨enters_of Tryz.func68 (by kernel_rfl) rfl, fun o w h1 h2 => ?_⟩
  rcases (show o = -1 ∨ o = 0 ∨ o = 1 by omega) with rfl | rfl | rfl
  · go_enter Tryz.func68, Tryz.ntmps68
    go_wp2
    go_ret
    exact ⟨rfl, rfl⟩
  · go_enter Tryz.func68, Tryz.ntmps68
    go_wp2
    go_ret
    exact ⟨rfl, rfl⟩
  · go_enter Tryz.func68, Tryz.ntmps68
    go_wp2
    go_ret
    exact ⟨rfl, rfl⟩
set_option maxHeartbeats 1000000 in
theorem asks_6 : Asks [62, 61] 69 := by
  refine ⟨enters_of Tryz.func69 (by kernel_rfl) rfl, fun o w h1 h2 => ?_⟩
  rcases (show o = -1 ∨ o = 0 ∨ o = 1 by omega) with rfl | rfl | rfl
  · go_enter Tryz.func69, Tryz.ntmps69
    go_wp2
    go_ret
    exact ⟨rfl, rfl⟩
  · go_enter Tryz.func69, Tryz.ntmps69
    go_wp2
    go_ret
    exact ⟨rfl, rfl⟩
  · go_enter Tryz.func69, Tryz.ntmps69
    go_wp2
    go_ret
    exact ⟨rfl, rfl⟩
theorem line_one {s : List UInt8} (h1 : s ≠ [61]) (h2 : s ≠ [60, 62]) (h3 : s ≠ [60]) (h4 : s ≠ [60, 61]) (h5 : s ≠ [62]) (h6 : s ≠ [62, 61]) : lineL s ≠ 1 := by
  unfold lineL
  rw [if_neg (by simp [*])]
  repeat' split
  all_goals omega
set_option maxRecDepth 100000 in
set_option maxHeartbeats 4000000 in
theorem comparison_val (s : ByteArray) (w : World) :
    Calls Tryz.prog 32 #[.string s] w fun e w' => (∃ fv, e = .returned fv ∧ (lineL s.toList ≠ 1 ∧ fv = .nilFunc ∨ lineL s.toList = 1 ∧ ∃ k, fv = .func (.func k) #[] #[] ∧ Asks s.toList k)) ∧ w' = w := by
  by_cases h_1 : s.toList = [61]
  · rw [h_1]
    obtain rfl := toList_lit h_1
    clear h_1
    go_enter Tryz.func32, Tryz.ntmps32
    go_wp2
    go_ret
    exact ⟨⟨_, rfl, Or.inr ⟨by decide, _, rfl, asks_1⟩⟩, rfl⟩
  by_cases h_2 : s.toList = [60, 62]
  · rw [h_2]
    obtain rfl := toList_lit h_2
    clear h_2
    go_enter Tryz.func32, Tryz.ntmps32
    go_wp2
    go_ret
    exact ⟨⟨_, rfl, Or.inr ⟨by decide, _, rfl, asks_2⟩⟩, rfl⟩
  by_cases h_3 : s.toList = [60]
  · rw [h_3]
    obtain rfl := toList_lit h_3
    clear h_3
    go_enter Tryz.func32, Tryz.ntmps32
    go_wp2
    go_ret
    exact ⟨⟨_, rfl, Or.inr ⟨by decide, _, rfl, asks_3⟩⟩, rfl⟩
  by_cases h_4 : s.toList = [60, 61]
  · rw [h_4]
    obtain rfl := toList_lit h_4
    clear h_4
    go_enter Tryz.func32, Tryz.ntmps32
    go_wp2
    go_ret
    exact ⟨⟨_, rfl, Or.inr ⟨by decide, _, rfl, asks_4⟩⟩, rfl⟩
  by_cases h_5 : s.toList = [62]
  · rw [h_5]
    obtain rfl := toList_lit h_5
    clear h_5
    go_enter Tryz.func32, Tryz.ntmps32
    go_wp2
    go_ret
    exact ⟨⟨_, rfl, Or.inr ⟨by decide, _, rfl, asks_5⟩⟩, rfl⟩
  by_cases h_6 : s.toList = [62, 61]
  · rw [h_6]
    obtain rfl := toList_lit h_6
    clear h_6
    go_enter Tryz.func32, Tryz.ntmps32
    go_wp2
    go_ret
    exact ⟨⟨_, rfl, Or.inr ⟨by decide, _, rfl, asks_6⟩⟩, rfl⟩
  have HL := hide (line_one h_1 h_2 h_3 h_4 h_5 h_6)
  replace h_1 := ne_lit h_1
  replace h_2 := ne_lit h_2
  replace h_3 := ne_lit h_3
  replace h_4 := ne_lit h_4
  replace h_5 := ne_lit h_5
  replace h_6 := ne_lit h_6
  go_enter Tryz.func32, Tryz.ntmps32
  go_wp2
  go_ret
  exact ⟨⟨_, rfl, Or.inl ⟨unhide HL, rfl⟩⟩, rfl⟩
end Go.Proofs.YtbeijnflfmjgfaaGreatDoor

namespace Go.Proofs.YtbeijnflfmjgfaaGreatDoor
open Go.RowKit

attribute [local go_sem ↓] Go.wp_at_zero Go.wp_at_succ
theorem row_five {cs : Array Value} (h : IsRow cs) : ∃ a b c d e : Value, cs = #[a, b, c, d, e] := by
  obtain ⟨l⟩ := cs
  have h5 : l.length = 5 := h.1
  match l, h5 with
  | [a, b, c, d, e], _ => exact ⟨a, b, c, d, e, rfl⟩
theorem five_alloc2 (w : World) (t : TypeId) (a b : Array Value) (ha : a.size = 5) (hb : b.size = 5) : FiveAt ((w.alloc (.cells a t)).alloc (.cells b t)) w.heap.size t a ∧ FiveAt ((w.alloc (.cells a t)).alloc (.cells b t)) (w.heap.size + 1) t b :=
  ⟨⟨heap_alloc2_old _ _ _, ha⟩, ⟨heap_alloc2_new _ _ _, hb⟩⟩

set_option maxRecDepth 100000 in
set_option maxHeartbeats 8000000 in
theorem order_val (a b : Vl) (w : World) (ha : a.text.size ≤ 1000) (hb : b.text.size ≤ 1000) (he : Env3 w) :
    Calls Tryz.prog 70 #[.agg a.cells, .agg b.cells] w fun e w' => e = .returned (.tuple #[.int .i64 (ordV3 (vSound a) (vSound b)).1, .int .i64 (ordV3 (vSound a) (vSound b)).2]) ∧ Below w.heap.size w w' := by
  have HE := hide he
  clear he
  obtain ⟨u, hu⟩ : ∃ u, vSound a = u := ⟨_, rfl⟩
  obtain ⟨x, hx⟩ : ∃ x, vSound b = x := ⟨_, rfl⟩
  have HS1 := hide (fun w => counted_val a w (by omega))
  have HS2 := hide (fun w => counted_val b w (by omega))
  have HU : Hid (u.text.size ≤ 1000) := hide (by rw [← hu]; exact sound_size2 a ha)
  have HX : Hid (x.text.size ≤ 1000) := hide (by rw [← hx]; exact sound_size2 b hb)
  have GU : Hid (vGood u = true) := hide (by rw [← hu]; exact sound_good a)
  have GX : Hid (vGood x = true) := hide (by rw [← hx]; exact sound_good b)
  rw [hu] at HS1 ⊢
  rw [hx] at HS2 ⊢
  clear hu hx ha hb
  obtain ⟨cu, hcu⟩ : ∃ cu, u.cells = cu := ⟨_, rfl⟩
  have RU : Hid (IsRow cu) := hide (by rw [← hcu]; exact vl_row u)
  have CU := hide hcu
  obtain ⟨cx, hcx⟩ : ∃ cx, x.cells = cx := ⟨_, rfl⟩
  have RX : Hid (IsRow cx) := hide (by rw [← hcx]; exact vl_row x)
  have CX := hide hcx
  obtain ⟨ca, hca⟩ : ∃ ca, a.cells = ca := ⟨_, rfl⟩
  have RA : Hid (IsRow ca) := hide (by rw [← hca]; exact vl_row a)
  have CA := hide hca
  obtain ⟨cb, hcb⟩ : ∃ cb, b.cells = cb := ⟨_, rfl⟩
  have RB : Hid (IsRow cb) := hide (by rw [← hcb]; exact vl_row b)
  have CB := hide hcb
  rw [hcu, hca] at HS1
  rw [hcx, hcb] at HS2
  rw [hca, hcb]
  clear hcu hcx hca hcb CA CB
  obtain ⟨a0, a1, a2, a3, a4, rfl⟩ := row_five (unhide RA)
  obtain ⟨b0, b1, b2, b3, b4, rfl⟩ := row_five (unhide RB)
  go_enter Tryz.func70, Tryz.ntmps70
  go_upto_region 1 with fail
  have P0 := hide (five_alloc2 w 28 #[a0, a1, a2, a3, a4] #[b0, b1, b2, b3, b4] rfl rfl)
  have HB0 := hide (below_al2 w (.cells #[a0, a1, a2, a3, a4] 28) (.cells #[b0, b1, b2, b3, b4] 28))
  generalize hW : (w.alloc (.cells #[a0, a1, a2, a3, a4] 28)).alloc (.cells #[b0, b1, b2, b3, b4] 28) = W0 at P0 HB0 ⊢
  clear hW
  go_cut [4] from 10 to 13 (fun v wx => v = .int .i64 0 ∧ Hid (FiveAt wx w.heap.size 28 cu) ∧ Hid (FiveAt wx (w.heap.size + 1) 28 cx) ∧ Hid (Below w.heap.size w wx))
  case first =>
    obtain ⟨c0, c1, c2, c3, c4⟩ := five_cells (unhide P0).1
    obtain ⟨d0, d1, d2, d3, d4⟩ := five_cells (unhide P0).2
    go_region_with (first
      | (go_at_call_of 116 a0; refine (unhide HS1 _).mono ?_; rintro e w1 ⟨rfl, y1⟩; have P1 := hide (five_below (five_drew (unhide P0).1) y1 (five_lt (five_drew (unhide P0).1))); have P2 := hide (five_below (five_drew (unhide P0).2) y1 (five_lt (five_drew (unhide P0).2))); have B1 := hide (below_nx (unhide HB0).drew y1); clear y1 c0 c1 c2 c3 c4 d0 d1 d2 d3 d4; obtain ⟨d0, d1, d2, d3, d4⟩ := five_cells (unhide P2))
      | (go_at_call_of 116 b0; refine (unhide HS2 _).mono ?_; rintro e w2 ⟨rfl, b2⟩; have Q1 := hide (five_below (unhide P1) b2 (five_lt (unhide P1))); have Q2 := hide (five_below (unhide P2) b2 (five_lt (unhide P2))); have B2 := hide (below_nx (unhide B1) b2); clear b2 d0 d1 d2 d3 d4; have z1 : cu.size = 5 := (unhide RU).1; have z2 : cx.size = 5 := (unhide RX).1; have st1 := row_store (P := Tryz.prog) (unhide Q1) (unhide RU); have st2 := row_store (P := Tryz.prog) (five_row_side (unhide Q2) w.heap.size (by omega) cu) (unhide RX)))
    all_goals (try go_wp2_with fail)
    all_goals go_meet
    all_goals exact ⟨rfl, hide (five_row_side (five_row (unhide Q1) cu (unhide RU).1) (w.heap.size + 1) (by omega) cx), hide (five_row (five_row_side (unhide Q2) w.heap.size (by omega) cu) cx (unhide RX).1), hide (below_setRow (below_setRow (unhide B2) (Nat.le_refl _) _) (by omega) _)⟩
  case rest =>
    obtain ⟨rfl, Q1, Q2, HB⟩ := hcut
    clear HS1 HS2 RA RB P0 HB0 W0
    have c0 : wc.cell? ⟨w.heap.size, 0, none⟩ = some (.int .i64 u.kind) := five_at (unhide Q1) _ _ (by rw [← unhide CU]; rfl)
    have d0 : wc.cell? ⟨w.heap.size + 1, 0, none⟩ = some (.int .i64 x.kind) := five_at (unhide Q2) _ _ (by rw [← unhide CX]; rfl)
    have c4 : wc.cell? ⟨w.heap.size, 4, none⟩ = some (.int .i64 u.fail) := five_at (unhide Q1) _ _ (by rw [← unhide CU]; rfl)
    have d4 : wc.cell? ⟨w.heap.size + 1, 4, none⟩ = some (.int .i64 x.fail) := five_at (unhide Q2) _ _ (by rw [← unhide CX]; rfl)
    cases k1 : (u.kind == 4)
    · cases k2 : (x.kind == 4)
      · have E := hide (ord_prog u x (unhide GU) (unhide GX) (by rw [beq_eq_false_iff_ne] at k1; exact k1) (by rw [beq_eq_false_iff_ne] at k2; exact k2))
        have GU2 := hide (bes_good u x (unhide GU) (unhide GX) (by rw [beq_eq_false_iff_ne] at k2; exact k2))
        have GX2 := hide (bes_good x u (unhide GX) (unhide GU) (by rw [beq_eq_false_iff_ne] at k1; exact k1))
        have HU2 := hide (bes_size u x (unhide HU))
        have HX2 := hide (bes_size x u (unhide HX))
        have HB1 := hide (fun w => beside_val u x w)
        have HB2 := hide (fun w => beside_val x u w)
        obtain ⟨U, hU⟩ : ∃ U, besV u x = U := ⟨_, rfl⟩
        obtain ⟨X, hX⟩ : ∃ X, besV x u = X := ⟨_, rfl⟩
        rw [hU] at E GU2 HU2 HB1
        rw [hX] at E GX2 HX2 HB2
        clear hU hX
        rw [unhide CU, unhide CX] at HB1 HB2
        obtain ⟨cU, hcU⟩ : ∃ cU, U.cells = cU := ⟨_, rfl⟩
        have RU2 : Hid (IsRow cU) := hide (by rw [← hcU]; exact vl_row U)
        have CU2 := hide hcU
        obtain ⟨cX, hcX⟩ : ∃ cX, X.cells = cX := ⟨_, rfl⟩
        have RX2 : Hid (IsRow cX) := hide (by rw [← hcX]; exact vl_row X)
        have CX2 := hide hcX
        rw [hcU] at HB1
        rw [hcX] at HB2
        clear hcU hcX
        go_upto_region 6 with fail
        clear c0 c4 d0 d4 k1 k2
        go_cut [4] from 24 to 29 (fun v wx => v = .int .i64 0 ∧ Hid (FiveAt wx w.heap.size 28 cU) ∧ Hid (FiveAt wx (w.heap.size + 1) 28 cX) ∧ Hid (Below w.heap.size w wx))
        case first =>
          obtain ⟨u0, u1, u2, u3, u4, hu5⟩ := row_five (unhide RU)
          obtain ⟨x0, x1, x2, x3, x4, hx5⟩ := row_five (unhide RX)
          rw [hu5] at Q1 HB1 HB2
          rw [hx5] at Q2 HB1 HB2
          clear hu5 hx5 RU RX CU CX
          obtain ⟨c0, c1, c2, c3, c4⟩ := five_cells (unhide Q1)
          obtain ⟨d0, d1, d2, d3, d4⟩ := five_cells (unhide Q2)
          go_region_with (first
            | (go_at_call_of 119 ([Value.agg #[x0, x1, x2, x3, x4]]); refine (unhide HB1 _).mono ?_; rintro e w1 ⟨rfl, y1⟩; have P1 := hide (five_below (five_drew (unhide Q1)) y1 (five_lt (unhide Q1))); have P2 := hide (five_below (five_drew (unhide Q2)) y1 (five_lt (unhide Q2))); have B1 := hide (below_nx (unhide HB).drew y1); clear c0 c1 c2 c3 c4 d0 d1 d2 d3 d4 y1; obtain ⟨c0, c1, c2, c3, c4⟩ := five_cells (unhide P1); obtain ⟨d0, d1, d2, d3, d4⟩ := five_cells (unhide P2))
            | (go_at_call_of 119 ([Value.agg #[u0, u1, u2, u3, u4]]); refine (unhide HB2 _).mono ?_; rintro e w2 ⟨rfl, b2⟩; have R1 := hide (five_below (unhide P1) b2 (five_lt (unhide P1))); have R2 := hide (five_below (unhide P2) b2 (five_lt (unhide P2))); have B2 := hide (below_nx (unhide B1) b2); clear c0 c1 c2 c3 c4 d0 d1 d2 d3 d4 b2; have z1 : cU.size = 5 := (unhide RU2).1; have z2 : cX.size = 5 := (unhide RX2).1; have st1 := row_store (P := Tryz.prog) (unhide R1) (unhide RU2); have st2 := row_store (P := Tryz.prog) (five_row_side (unhide R2) w.heap.size (by omega) cU) (unhide RX2)))
          all_goals (try go_wp2_with fail)
          all_goals go_meet
          all_goals exact ⟨rfl, hide (five_row_side (five_row (unhide R1) cU (unhide RU2).1) (w.heap.size + 1) (by omega) cX), hide (five_row (five_row_side (unhide R2) w.heap.size (by omega) cU) cX (unhide RX2).1), hide (below_setRow (below_setRow (unhide B2) (Nat.le_refl _) _) (by omega) _)⟩
        case rest =>
          clear Q1 Q2 HB HB1 HB2
          obtain ⟨rfl, Q1, Q2, HB⟩ := hcut
          have c0 : wc.cell? ⟨w.heap.size, 0, none⟩ = some (.int .i64 U.kind) := five_at (unhide Q1) _ _ (by rw [← unhide CU2]; rfl)
          have d0 : wc.cell? ⟨w.heap.size + 1, 0, none⟩ = some (.int .i64 X.kind) := five_at (unhide Q2) _ _ (by rw [← unhide CX2]; rfl)
          cases k6 : (U.kind == X.kind)
          · have E2 := hide (ordP_ne U X k6)
            go_wp2_with fail
            refine (cmp_kind _ _ _).mono ?_
            rintro e w5 ⟨rfl, rfl⟩
            go_wp2
            all_goals go_ret2
            all_goals first | exact ⟨pair_n (by rw [unhide E, unhide E2]), unhide HB⟩ | exact ⟨pair_n (by rw [unhide E, unhide E2]), (unhide HB).drew⟩
          · cases k7 : (U.kind == 2)
            · have E2 := hide (ordP_num U X k6 k7)
              have HN1 := hide (fun w (he : Env3 w) => asnum_val U w (unhide HU2) he)
              have HN2 := hide (fun w (he : Env3 w) => asnum_val X w (unhide HX2) he)
              rw [sound_of U (unhide GU2), unhide CU2] at HN1
              rw [sound_of X (unhide GX2), unhide CX2] at HN2
              obtain ⟨n1, h1⟩ : ∃ n1, asNumV U = n1 := ⟨_, rfl⟩
              obtain ⟨n2, h2⟩ : ∃ n2, asNumV X = n2 := ⟨_, rfl⟩
              rw [h1] at HN1 E2
              rw [h2] at HN2 E2
              clear h1 h2
              go_upto_region 11 with fail
              clear k6 k7
              obtain ⟨u0, u1, u2, u3, u4, hu5⟩ := row_five (unhide RU2)
              obtain ⟨x0, x1, x2, x3, x4, hx5⟩ := row_five (unhide RX2)
              rw [hu5] at Q1 HN1
              rw [hx5] at Q2 HN2
              clear hu5 hx5 c0 d0
              obtain ⟨c0, c1, c2, c3, c4⟩ := five_cells (unhide Q1)
              go_wp2_with fail
              refine (unhide HN1 _ ((unhide HE).below (unhide HB))).mono ?_
              rintro e w5 ⟨rfl, b5⟩
              have R2 := hide (five_below (unhide Q2) b5 (five_lt (unhide Q2)))
              have HB5 := hide (below_nx (unhide HB) b5)
              clear b5 c0 c1 c2 c3 c4
              obtain ⟨d0, d1, d2, d3, d4⟩ := five_cells (unhide R2)
              go_wp2_with fail
              refine (unhide HN2 _ ((unhide HE).below (unhide HB5))).mono ?_
              rintro e w6 ⟨rfl, b6⟩
              have HB6 := hide (below_nx (unhide HB5) b6)
              clear b6 d0 d1 d2 d3 d4
              go_wp2_with fail
              refine (cmp_num _ _ _).mono ?_
              rintro e w7 ⟨rfl, rfl⟩
              go_wp2
              all_goals go_ret2
              all_goals first | exact ⟨pair_n (by rw [unhide E, unhide E2]), unhide HB6⟩ | exact ⟨pair_n (by rw [unhide E, unhide E2]), (unhide HB6).drew⟩
            · have E2 := hide (ordP_text U X k6 k7)
              have HL1 := hide (fun w => lower_val U.text w (by have := unhide HU2; omega))
              have HL2 := hide (fun w => lower_val X.text w (by have := unhide HX2; omega))
              obtain ⟨s1, h1⟩ : ∃ s1, mapB lowC U.text = s1 := ⟨_, rfl⟩
              obtain ⟨s2, h2⟩ : ∃ s2, mapB lowC X.text = s2 := ⟨_, rfl⟩
              rw [h1] at HL1 E2
              rw [h2] at HL2 E2
              clear h1 h2
              have c2 : wc.cell? ⟨w.heap.size, 2, none⟩ = some (.string U.text) := five_at (unhide Q1) _ _ (by rw [← unhide CU2]; rfl)
              have d2 : wc.cell? ⟨w.heap.size + 1, 2, none⟩ = some (.string X.text) := five_at (unhide Q2) _ _ (by rw [← unhide CX2]; rfl)
              go_wp2_with fail
              clear c0 d0 k6 k7
              go_region_with (first
                | (go_at_call_of 122 (Value.string U.text); refine (unhide HL1 _).mono ?_; rintro e w5 ⟨rfl, b5⟩; have R2 := hide (five_below (five_drew (unhide Q2)) b5 (five_lt (unhide Q2))); have e2 : w5.cell? ⟨w.heap.size + 1, 2, none⟩ = some (.string X.text) := five_at (unhide R2) _ _ (by rw [← unhide CX2]; rfl); have HB5 := hide (below_nx (unhide HB).drew b5); clear b5)
                | (go_at_call_of 122 (Value.string X.text); refine (unhide HL2 _).mono ?_; rintro e w6 ⟨rfl, b6⟩; have HB6 := hide (below_nx (unhide HB5) b6); clear b6)
                | (go_at_call 121; refine (textcmp_val _ _ _).mono ?_; rintro e w7 ⟨rfl, rfl⟩))
              all_goals (try go_wp2_with fail)
              all_goals go_ret2
              all_goals first | exact ⟨pair_n (by rw [unhide E, unhide E2]), unhide HB6⟩ | exact ⟨pair_n (by rw [unhide E, unhide E2]), (unhide HB6).drew⟩
      · have E : Hid (ordV3 u x = (0, x.fail)) := hide (by rw [beq_eq_false_iff_ne] at k1; rw [beq_iff_eq] at k2; unfold ordV3; rw [if_neg k1, if_pos k2])
        go_wp2
        try go_region
        all_goals (try go_wp2_with fail)
        all_goals go_ret2
        all_goals first | exact ⟨pair_n (unhide E), unhide HB⟩ | exact ⟨pair_n (unhide E), (unhide HB).drew⟩
    · have E : Hid (ordV3 u x = (0, u.fail)) := hide (by rw [beq_iff_eq] at k1; unfold ordV3; rw [if_pos k1])
      go_wp2
      try go_region
      all_goals (try go_wp2_with fail)
      all_goals go_ret2
      all_goals first | exact ⟨pair_n (unhide E), unhide HB⟩ | exact ⟨pair_n (unhide E), (unhide HB).drew⟩
end Go.Proofs.YtbeijnflfmjgfaaGreatDoor

namespace Go.Proofs.YtbeijnflfmjgfaaGreatDoor
open Go.RowKit

theorem boxes3 (w : World) (t : TypeId) (a b : Vl) :
    Hid (FiveAt (((w.alloc (.cells #[.int .i64 a.kind, .int .i64 a.num, .string a.text, .bool a.tr, .int .i64 a.fail] t)).alloc (.cells #[.int .i64 b.kind, .int .i64 b.num, .string b.text, .bool b.tr, .int .i64 b.fail] t)).alloc (.cells #[.int .i64 0, .int .i64 0, .string ⟨#[]⟩, .bool false, .int .i64 0] t)) w.heap.size t #[.int .i64 a.kind, .int .i64 a.num, .string a.text, .bool a.tr, .int .i64 a.fail]) ∧
    Hid (FiveAt (((w.alloc (.cells #[.int .i64 a.kind, .int .i64 a.num, .string a.text, .bool a.tr, .int .i64 a.fail] t)).alloc (.cells #[.int .i64 b.kind, .int .i64 b.num, .string b.text, .bool b.tr, .int .i64 b.fail] t)).alloc (.cells #[.int .i64 0, .int .i64 0, .string ⟨#[]⟩, .bool false, .int .i64 0] t)) (w.heap.size + 1) t #[.int .i64 b.kind, .int .i64 b.num, .string b.text, .bool b.tr, .int .i64 b.fail]) ∧
    Hid (FiveAt (((w.alloc (.cells #[.int .i64 a.kind, .int .i64 a.num, .string a.text, .bool a.tr, .int .i64 a.fail] t)).alloc (.cells #[.int .i64 b.kind, .int .i64 b.num, .string b.text, .bool b.tr, .int .i64 b.fail] t)).alloc (.cells #[.int .i64 0, .int .i64 0, .string ⟨#[]⟩, .bool false, .int .i64 0] t)) (w.heap.size + 2) t #[.int .i64 0, .int .i64 0, .string ⟨#[]⟩, .bool false, .int .i64 0]) ∧
    Hid (Below w.heap.size w (((w.alloc (.cells #[.int .i64 a.kind, .int .i64 a.num, .string a.text, .bool a.tr, .int .i64 a.fail] t)).alloc (.cells #[.int .i64 b.kind, .int .i64 b.num, .string b.text, .bool b.tr, .int .i64 b.fail] t)).alloc (.cells #[.int .i64 0, .int .i64 0, .string ⟨#[]⟩, .bool false, .int .i64 0] t))) := by
  have h2 := five_new2 w (.cells #[.int .i64 a.kind, .int .i64 a.num, .string a.text, .bool a.tr, .int .i64 a.fail] t) t (.int .i64 b.kind) (.int .i64 b.num) (.string b.text) (.bool b.tr) (.int .i64 b.fail)
  refine ⟨hide ?_, hide ?_, hide ?_, hide ?_⟩
  · exact five_below (five_old w t (.int .i64 a.kind) (.int .i64 a.num) (.string a.text) (.bool a.tr) (.int .i64 a.fail) (.cells #[.int .i64 b.kind, .int .i64 b.num, .string b.text, .bool b.tr, .int .i64 b.fail] t)) (below_al _ _) (by simp; omega)
  · exact five_below h2 (below_al _ _) (five_lt h2)
  · have h3 := five_new ((w.alloc (.cells #[.int .i64 a.kind, .int .i64 a.num, .string a.text, .bool a.tr, .int .i64 a.fail] t)).alloc (.cells #[.int .i64 b.kind, .int .i64 b.num, .string b.text, .bool b.tr, .int .i64 b.fail] t)) t (.int .i64 0) (.int .i64 0) (.string ⟨#[]⟩) (.bool false) (.int .i64 0)
    have e : ((w.alloc (.cells #[.int .i64 a.kind, .int .i64 a.num, .string a.text, .bool a.tr, .int .i64 a.fail] t)).alloc (.cells #[.int .i64 b.kind, .int .i64 b.num, .string b.text, .bool b.tr, .int .i64 b.fail] t)).heap.size = w.heap.size + 2 := by simp
    rwa [e] at h3
  · exact (below_al2 w _ _).alloc (by simp; omega) _
def cmpR (s : List UInt8) (r : Int × Int) : Vl := if r.2 ≠ 0 then vE r.2 else vB (cmpL s r.1)
set_option maxRecDepth 100000 in
set_option maxHeartbeats 4000000 in
theorem compared_val (s : List UInt8) (k : Nat) (hk : Asks s k) (a b : Vl) (w : World) (ha : a.text.size ≤ 1000) (hb : b.text.size ≤ 1000) (he : Env3 w) :
    Calls Tryz.prog 33 #[.func (.func k) #[] #[], .agg a.cells, .agg b.cells] w fun e w' => e = .returned (.agg (cmpR s (ordV3 (vSound a) (vSound b))).cells) ∧ Below w.heap.size w w' := by
  have hcf : ∀ (args : Array Value) (w : World), (callFunc k args).run Tryz.prog w = .ok (.enter k args) w := hk.1
  have HE := hide he
  have HO := hide (fun w he => order_val a b w ha hb he)
  have hr := ord_range (vSound a) (vSound b)
  generalize ordV3 (vSound a) (vSound b) = r at HO hr ⊢
  have HK := hide (fun w => hk.2 r.1 w hr.1 hr.2)
  clear hr ha hb he hk
  unfold cmpR
  generalize cmpL s r.1 = q at HK ⊢
  unfold Vl.cells at HO ⊢
  by_cases h0 : r.2 = 0
  · have HC := hide (fun w => b_val q w)
    rw [if_neg (by omega)]
    generalize vB q = V at HC ⊢
    go_enter Tryz.func33, Tryz.ntmps33
    go_upto_region 1 with fail
    obtain ⟨HA, HB1, HX, HB⟩ := boxes3 w 28 a b
    generalize hW : ((w.alloc (.cells #[.int .i64 a.kind, .int .i64 a.num, .string a.text, .bool a.tr, .int .i64 a.fail] 28)).alloc (.cells #[.int .i64 b.kind, .int .i64 b.num, .string b.text, .bool b.tr, .int .i64 b.fail] 28)).alloc (.cells #[.int .i64 0, .int .i64 0, .string ⟨#[]⟩, .bool false, .int .i64 0] 28) = w1 at HA HB1 HX HB ⊢
    clear hW
    obtain ⟨a_0, a_1, a_2, a_3, a_4⟩ := five_cells (unhide HA)
    obtain ⟨b_0, b_1, b_2, b_3, b_4⟩ := five_cells (unhide HB1)
    go_wp2_with fail
    refine (unhide HO _ ((unhide HE).below (unhide HB))).mono ?_
    rintro e w2 ⟨rfl, b2⟩
    replace HX := hide (five_below (unhide HX) b2 (five_lt (unhide HX)))
    replace HB := hide (below_nx (unhide HB) b2)
    clear b2 a_0 a_1 a_2 a_3 a_4 b_0 b_1 b_2 b_3 b_4 HA HB1
    go_wp2_with fail
    refine (unhide HK _).mono ?_
    rintro e w3 ⟨rfl, rfl⟩
    go_wp2_with fail
    refine (unhide HC _).mono ?_
    rintro e wz ⟨rfl, bz⟩
    have hf := five_below (unhide HX) bz (five_lt (unhide HX))
    obtain ⟨⟨⟨x0, c0⟩, ⟨x1, c1⟩, ⟨x2, c2⟩, ⟨x3, c3⟩, x4, c4⟩, f0, f1, f2, f3, f4⟩ := five_all hf
    have HF5 := hide hf
    have HB5 := hide (below_nx (unhide HB) bz)
    clear hf bz
    unfold Vl.cells
    go_wp2
    refine bodyPost_ret (results_cell_row rfl _ _ _ _ _ _ _ rfl (five_set (unhide HF5) _ _ _ _ _).1 Tryz.underlying28 rfl infoVal) rfl ?_
    exact ⟨rfl, below_five (unhide HB5) (by omega) _ _ _ _ _⟩
  · have HC := hide (fun w => e_val r.2 w)
    rw [if_pos h0]
    have h0b : (r.2 != 0) = true := by simp [h0]
    generalize vE r.2 = V at HC ⊢
    go_enter Tryz.func33, Tryz.ntmps33
    go_upto_region 1 with fail
    obtain ⟨HA, HB1, HX, HB⟩ := boxes3 w 28 a b
    generalize hW : ((w.alloc (.cells #[.int .i64 a.kind, .int .i64 a.num, .string a.text, .bool a.tr, .int .i64 a.fail] 28)).alloc (.cells #[.int .i64 b.kind, .int .i64 b.num, .string b.text, .bool b.tr, .int .i64 b.fail] 28)).alloc (.cells #[.int .i64 0, .int .i64 0, .string ⟨#[]⟩, .bool false, .int .i64 0] 28) = w1 at HA HB1 HX HB ⊢
    clear hW
    obtain ⟨a_0, a_1, a_2, a_3, a_4⟩ := five_cells (unhide HA)
    obtain ⟨b_0, b_1, b_2, b_3, b_4⟩ := five_cells (unhide HB1)
    go_wp2_with fail
    refine (unhide HO _ ((unhide HE).below (unhide HB))).mono ?_
    rintro e w2 ⟨rfl, b2⟩
    replace HX := hide (five_below (unhide HX) b2 (five_lt (unhide HX)))
    replace HB := hide (below_nx (unhide HB) b2)
    clear b2 a_0 a_1 a_2 a_3 a_4 b_0 b_1 b_2 b_3 b_4 HA HB1
    go_wp2_with fail
    refine (unhide HC _).mono ?_
    rintro e wz ⟨rfl, bz⟩
    have hf := five_below (unhide HX) bz (five_lt (unhide HX))
    obtain ⟨⟨⟨x0, c0⟩, ⟨x1, c1⟩, ⟨x2, c2⟩, ⟨x3, c3⟩, x4, c4⟩, f0, f1, f2, f3, f4⟩ := five_all hf
    have HF5 := hide hf
    have HB5 := hide (below_nx (unhide HB) bz)
    clear hf bz
    unfold Vl.cells
    go_wp2
    refine bodyPost_ret (results_cell_row rfl _ _ _ _ _ _ _ rfl (five_set (unhide HF5) _ _ _ _ _).1 Tryz.underlying28 rfl infoVal) rfl ?_
    exact ⟨rfl, below_five (unhide HB5) (by omega) _ _ _ _ _⟩

set_option maxHeartbeats 1000000 in
theorem has9_val (s : ByteArray) (w : World) : Calls Tryz.prog 23 #[.string s] w fun e w' => e = .returned (.bool (callB s.toList)) ∧ Below w.heap.size w w' := by
  have HN := hide (fun w => named_val s w)
  have HT := hide (fun fv w h => there_val (takesL s.toList) fv w h (by have := takes_le s.toList; omega))
  unfold callB
  generalize callN s.toList = c at HN
  generalize takesL s.toList = k at HN HT ⊢
  go_enter Tryz.func23, Tryz.ntmps23
  go_wp2_with fail
  refine (unhide HN _).mono ?_
  rintro e w1 ⟨⟨fv, rfl, hf⟩, b1⟩
  have HF := hide (show fv = .nilFunc ∨ ∃ t, FnAt w1 fv k t from by
    rcases hf with h | h
    · exact Or.inl h.2
    · exact Or.inr ⟨_, h.2⟩)
  clear hf
  go_wp2_with fail
  refine (unhide HT _ _ (unhide HF)).mono ?_
  rintro e w2 ⟨rfl, b2⟩
  go_wp2
  go_ret
  exact ⟨by simp, below_nx b1 b2⟩

theorem of_call (s : List UInt8) (vs : List Vl) (h : takesL s ≠ 0) : ofV (takesL s) (callN s) vs = callV s vs := by
  unfold ofV callV
  rw [if_neg h]
set_option maxRecDepth 100000 in
set_option maxHeartbeats 4000000 in
theorem call9_val (s : ByteArray) (va : Value) (vs : List Vl) (w : World) (hl : vs.length ≤ 1000) (hv : ∀ x ∈ vs, x.text.size ≤ 1000) (hva : ValsAt w va vs) (he : Env3 w) :
    Calls Tryz.prog 21 #[.string s, va] w fun e w' => e = .returned (.tuple #[.agg (callV s.toList vs).cells, .bool (callB s.toList)]) ∧ Below w.heap.size w w' := by
  have HE := hide he
  have hva1 := vals_below hva (Nat.le_refl _) (below_al w (.cells #[.int .i64 0, .int .i64 0, .string ⟨#[]⟩, .bool false, .int .i64 0] 28))
  have HVA := hide hva1
  have hw1 : w.heap.size < (w.alloc (.cells #[.int .i64 0, .int .i64 0, .string ⟨#[]⟩, .bool false, .int .i64 0] 28)).heap.size := by simp
  have HN := hide (fun w => named_val s w)
  have hk2 := takes_le s.toList
  have HT := hide (fun fv w h => there_val (takesL s.toList) fv w h (by omega))
  have HOF := hide (fun fv w hva hf he => of_val (takesL s.toList) fv (callN s.toList) va vs w (by omega) hl hv hva hf he)
  by_cases k0 : takesL s.toList = 0
  · have hV : callV s.toList vs = zV := by unfold callV; rw [if_pos k0]
    have hB : callB s.toList = false := by unfold callB; rw [k0]; rfl
    rw [hV, hB]
    rw [k0] at HN HT
    clear k0 hV hB hva hva1 he HOF hk2
    unfold Vl.cells zV
    go_enter Tryz.func21, Tryz.ntmps21
    go_upto_region 1 with fail
    have HX := hide (five_new w 28 (.int .i64 0) (.int .i64 0) (.string ⟨#[]⟩) (.bool false) (.int .i64 0))
    have HB := hide (below_al w (.cells #[.int .i64 0, .int .i64 0, .string ⟨#[]⟩, .bool false, .int .i64 0] 28))
    generalize hW : w.alloc (.cells #[.int .i64 0, .int .i64 0, .string ⟨#[]⟩, .bool false, .int .i64 0] 28) = w1 at HX HB HVA hw1 ⊢
    clear hW
    go_wp2_with fail
    refine (unhide HN _).mono ?_
    rintro e w2 ⟨⟨fv, rfl, hf⟩, b2⟩
    obtain rfl : fv = .nilFunc := by
      rcases hf with h | h
      · exact h.2
      · exact absurd rfl h.1
    clear hf
    replace HX := hide (five_below (unhide HX) b2 (five_lt (unhide HX)))
    replace HB := hide (below_nx (unhide HB) b2)
    clear b2 HVA hw1
    go_upto_region 2 with fail
    have HFB := hide (fbox_new w2 (.int .i64 (0 : Nat)) .nilFunc)
    have bb := below_al w2 (.cells #[.int .i64 (0 : Nat), .nilFunc] 63)
    replace HX := hide (five_below (unhide HX) bb (five_lt (unhide HX)))
    replace HB := hide (below_nx (unhide HB) bb)
    clear bb
    generalize hW : w2.alloc (.cells #[.int .i64 (0 : Nat), .nilFunc] 63) = w3 at HFB HX HB ⊢
    clear hW
    have f_0 := fbox_c0 (unhide HFB)
    have f_1 := fbox_c1 (unhide HFB)
    go_wp2_with fail
    refine (unhide HT _ _ (Or.inl rfl)).mono ?_
    rintro e w4 ⟨rfl, b4⟩
    have hf := five_below (unhide HX) b4 (five_lt (unhide HX))
    obtain ⟨⟨⟨x0, c0⟩, ⟨x1, c1⟩, ⟨x2, c2⟩, ⟨x3, c3⟩, x4, c4⟩, f0, f1, f2, f3, f4⟩ := five_all hf
    have HF5 := hide hf
    have HB5 := hide (below_nx (unhide HB) b4)
    clear hf b4 f_0 f_1
    go_wp2
    refine bodyPost_ret (results_row1b rfl _ _ _ _ _ _ _ rfl (five_set (unhide HF5) _ _ _ _ _).1 Tryz.underlying28 rfl (by exact infoVal) _ rfl) rfl ?_
    exact ⟨rfl, below_five (unhide HB5) (by omega) _ _ _ _ _⟩
  · have hB : callB s.toList = true := by unfold callB; exact decide_eq_true k0
    have hD : decide (takesL s.toList ≠ 0) = true := decide_eq_true k0
    rw [hB]
    rw [of_call _ _ k0] at HOF
    rw [hD] at HT
    have HK := hide k0
    generalize callN s.toList = c at HN HOF
    generalize callV s.toList vs = V at HOF ⊢
    generalize takesL s.toList = n at HN HT HOF HK
    clear k0 hB hD hva hva1 he hk2
    go_enter Tryz.func21, Tryz.ntmps21
    go_upto_region 1 with fail
    have HX := hide (five_new w 28 (.int .i64 0) (.int .i64 0) (.string ⟨#[]⟩) (.bool false) (.int .i64 0))
    have HB := hide (below_al w (.cells #[.int .i64 0, .int .i64 0, .string ⟨#[]⟩, .bool false, .int .i64 0] 28))
    generalize hW : w.alloc (.cells #[.int .i64 0, .int .i64 0, .string ⟨#[]⟩, .bool false, .int .i64 0] 28) = w1 at HX HB HVA hw1 ⊢
    clear hW
    go_wp2_with fail
    refine (unhide HN _).mono ?_
    rintro e w2 ⟨⟨fv, rfl, hf⟩, b2⟩
    have hf2 : FnAt w2 fv n c := by
      rcases hf with h | h
      · exact absurd h.1 (unhide HK)
      · exact h.2
    have hf3 := fn_below hf2 (below_al w2 (.cells #[.int .i64 (n : Int), fv] 63))
    obtain ⟨k, cp, rfl, hfk⟩ := hf2
    clear hfk hf
    replace HX := hide (five_below (unhide HX) b2 (five_lt (unhide HX)))
    replace HB := hide (below_nx (unhide HB) b2)
    replace HVA := hide (vals_below (unhide HVA) (Nat.le_refl _) b2)
    clear b2 hw1
    go_upto_region 2 with fail
    have HFB := hide (fbox_new w2 (.int .i64 (n : Int)) (.func (.func k) #[] cp))
    have bb := below_al w2 (.cells #[.int .i64 (n : Int), .func (.func k) #[] cp] 63)
    replace HX := hide (five_below (unhide HX) bb (five_lt (unhide HX)))
    replace HB := hide (below_nx (unhide HB) bb)
    replace HVA := hide (vals_below (unhide HVA) (Nat.le_refl _) bb)
    have HFN := hide hf3
    clear bb hf3
    generalize hW : w2.alloc (.cells #[.int .i64 (n : Int), .func (.func k) #[] cp] 63) = w3 at HFB HX HB HVA HFN ⊢
    clear hW
    have f_0 := fbox_c0 (unhide HFB)
    have f_1 := fbox_c1 (unhide HFB)
    go_wp2_with fail
    refine (unhide HT _ _ (Or.inr ⟨_, unhide HFN⟩)).mono ?_
    rintro e w4 ⟨rfl, b4⟩
    replace HX := hide (five_below (unhide HX) b4 (five_lt (unhide HX)))
    replace HB := hide (below_nx (unhide HB) b4)
    replace HVA := hide (vals_below (unhide HVA) (Nat.le_refl _) b4)
    replace HFN := hide (fn_below (unhide HFN) b4)
    replace HFB := hide (fbox_below (unhide HFB) b4)
    clear b4 f_0 f_1
    have f_0 := fbox_c0 (unhide HFB)
    have f_1 := fbox_c1 (unhide HFB)
    go_wp2_with fail
    refine (unhide HOF _ _ (unhide HVA) (unhide HFN) ((unhide HE).below (unhide HB))).mono ?_
    rintro e wz ⟨rfl, bz⟩
    have hf := five_below (unhide HX) bz (five_lt (unhide HX))
    obtain ⟨⟨⟨x0, c0⟩, ⟨x1, c1⟩, ⟨x2, c2⟩, ⟨x3, c3⟩, x4, c4⟩, f0, f1, f2, f3, f4⟩ := five_all hf
    have HF5 := hide hf
    have HB5 := hide (below_nx (unhide HB) bz)
    clear hf bz f_0 f_1
    unfold Vl.cells
    go_wp2
    refine bodyPost_ret (results_row1b rfl _ _ _ _ _ _ _ rfl (five_set (unhide HF5) _ _ _ _ _).1 Tryz.underlying28 rfl (by exact infoVal) _ rfl) rfl ?_
    exact ⟨rfl, below_five (unhide HB5) (by omega) _ _ _ _ _⟩
end Go.Proofs.YtbeijnflfmjgfaaGreatDoor

namespace Go.Proofs.YtbeijnflfmjgfaaGreatDoor
open Go.RowKit

def JoinIn (a b : Vl) (j : Nat) (S : ByteArray) : Prop :=
  j = 0 ∧ S = ⟨#[]⟩ ∨ j = 1 ∧ S = (asTextV (vSound a)).1 ∧ (asTextV (vSound a)).2 = 0 ∨ j = 2 ∧ S = (asTextV (vSound a)).1 ++ (asTextV (vSound b)).1 ∧ (asTextV (vSound a)).2 = 0 ∧ (asTextV (vSound b)).2 = 0
theorem nil_app (s : ByteArray) : (⟨#[]⟩ : ByteArray) ++ s = s := bytes_ext9 (by rw [app_list9]; rfl)
theorem join_bad {a b x : Vl} {j : Nat} {S : ByteArray} (h : JoinIn a b j S) (hx : [a, b][j]? = some x) (hb : (asTextV (vSound x)).2 ≠ 0) :
    joinV (asTextV (vSound a)) (asTextV (vSound b)) = vE (asTextV (vSound x)).2 := by
  rcases h with ⟨rfl, _⟩ | ⟨rfl, _, h0⟩ | ⟨rfl, _⟩
  · obtain rfl : a = x := by simpa using hx
    unfold joinV
    rw [if_pos hb]
  · obtain rfl : b = x := by simpa using hx
    unfold joinV
    rw [if_neg (by omega), if_pos hb]
  · simp at hx
theorem join_more {a b x : Vl} {j : Nat} {S : ByteArray} (h : JoinIn a b j S) (hx : [a, b][j]? = some x) (hb : (asTextV (vSound x)).2 = 0) : JoinIn a b (j + 1) (S ++ (asTextV (vSound x)).1) := by
  rcases h with ⟨rfl, rfl⟩ | ⟨rfl, rfl, h0⟩ | ⟨rfl, _⟩
  · obtain rfl : a = x := by simpa using hx
    exact Or.inr (Or.inl ⟨rfl, nil_app _, hb⟩)
  · obtain rfl : b = x := by simpa using hx
    exact Or.inr (Or.inr ⟨rfl, rfl, h0, hb⟩)
  · simp at hx
theorem join_end {a b : Vl} {S : ByteArray} (h : JoinIn a b 2 S) : joinV (asTextV (vSound a)) (asTextV (vSound b)) = vT S := by
  rcases h with ⟨h, _⟩ | ⟨h, _⟩ | ⟨_, rfl, h1, h2⟩
  · cases h
  · cases h
  · unfold joinV
    rw [if_neg (by omega), if_neg (by omega)]
theorem join_size {a b : Vl} {j : Nat} {S : ByteArray} (h : JoinIn a b j S) : S.size ≤ 510 := by
  have h1 := (text_range a).2
  have h2 := (text_range b).2
  rcases h with ⟨_, rfl⟩ | ⟨_, rfl, _⟩ | ⟨_, rfl, _⟩
  · decide
  · omega
  · rw [ByteArray.size_append]; omega
set_option maxRecDepth 100000 in
set_option maxHeartbeats 8000000 in
theorem joined_val (a b : Vl) (va : Value) (w : World) (ha : a.text.size ≤ 1000) (hb : b.text.size ≤ 1000) (hva : ValsAt w va [a, b]) (he : Env3 w) :
    Calls Tryz.prog 34 #[va] w fun e w' => e = .returned (.agg (joinV (asTextV (vSound a)) (asTextV (vSound b))).cells) ∧ Below w.heap.size w w' := by
  have HE := hide he
  obtain ⟨ad, cap, rfl, hrow⟩ := hva
  obtain ⟨B, off, rfl, hlt, hc⟩ := hrow (by simp)
  have HC0 := hide hc
  have HTX : Hid (∀ x ∈ [a, b], x.text.size ≤ 1000) := hide (by
    intro x hx
    rcases List.mem_cons.1 hx with rfl | hx
    · exact ha
    · rw [List.mem_singleton.1 hx]; exact hb)
  have HLT := hide hlt
  obtain ⟨V, hV⟩ : ∃ V, joinV (asTextV (vSound a)) (asTextV (vSound b)) = V := ⟨_, rfl⟩
  rw [hV]
  have HV := hide hV
  clear hrow hc ha hb he hV hlt
  rw [show [a, b].length = 2 from rfl]
  go_enter Tryz.func34, Tryz.ntmps34
  go_upto_region 1 with fail
  have HX := hide (five_new w 28 (.int .i64 0) (.int .i64 0) (.string ⟨#[]⟩) (.bool false) (.int .i64 0))
  have HB := hide (below_al w (.cells #[.int .i64 0, .int .i64 0, .string ⟨#[]⟩, .bool false, .int .i64 0] 28))
  generalize hW : w.alloc (.cells #[.int .i64 0, .int .i64 0, .string ⟨#[]⟩, .bool false, .int .i64 0] 28) = w1 at HX HB ⊢
  clear hW
  go_wp2
  go_loopw [3, 6, 7, 10] (fun t _ _ u wr => ∃ (j : Nat) (S : ByteArray), t = .string S ∧ u = .int .i64 (j : Int) ∧ j ≤ 2 ∧ Hid (Below w1.heap.size w1 wr) ∧ Hid (JoinIn a b j S)) (fun _ _ _ u _ => (2 - intOf u).toNat)
  case atStart => exact ⟨0, _, rfl, rfl, by omega, hide (Below.refl _ _), hide (Or.inl ⟨rfl, rfl⟩)⟩
  case round =>
    obtain ⟨j, S, rfl, rfl, hj, HR, HJ⟩ := hrel
    by_cases hlt : (j : Int) < 2
    · obtain ⟨x, hx⟩ : ∃ x, [a, b][j]? = some x := ⟨_, List.getElem?_eq_getElem (by simp; omega)⟩
      have hbel : Below w.heap.size w wr := below_nx (unhide HB) (unhide HR)
      have hb := unhide HLT
      obtain ⟨c0, c1, c2, c3, c4⟩ := unhide HC0 _ x hx
      rw [← hbel.cell (p := ⟨B, off + j * 5, none⟩) hb] at c0
      rw [← hbel.cell (p := ⟨B, off + j * 5 + 1, none⟩) hb] at c1
      rw [← hbel.cell (p := ⟨B, off + j * 5 + 2, none⟩) hb] at c2
      rw [← hbel.cell (p := ⟨B, off + j * 5 + 3, none⟩) hb] at c3
      rw [← hbel.cell (p := ⟨B, off + j * 5 + 4, none⟩) hb] at c4
      have HN := hide (fun w he => astext_val x w (unhide HTX x (List.mem_of_getElem? hx)) he)
      have NB := hide (fun h => join_bad (unhide HJ) hx h)
      have NM := hide (fun h => join_more (unhide HJ) hx h)
      have hz := join_size (unhide HJ)
      have hr := text_range x
      obtain ⟨r, er⟩ : ∃ r, asTextV (vSound x) = r := ⟨_, rfl⟩
      rw [er] at HN NB NM hr
      have hsum : ¬ S.size + r.1.size > 9223372036854775807 := by omega
      clear er hx hbel hz
      obtain ⟨hr, r1⟩ := hr
      unfold Vl.cells at HN
      go_upto_region 5 with fail
      have HV5 := hide (five_new wr 28 (.int .i64 x.kind) (.int .i64 x.num) (.string x.text) (.bool x.tr) (.int .i64 x.fail))
      have HR1 := hide (below_nx (unhide HR) (below_al wr (.cells #[.int .i64 x.kind, .int .i64 x.num, .string x.text, .bool x.tr, .int .i64 x.fail] 28)))
      generalize hW : wr.alloc (.cells #[.int .i64 x.kind, .int .i64 x.num, .string x.text, .bool x.tr, .int .i64 x.fail] 28) = W1 at HV5 HR1 ⊢
      clear hW c0 c1 c2 c3 c4 hb HR
      obtain ⟨c0, c1, c2, c3, c4⟩ := five_cells (unhide HV5)
      go_wp2_with fail
      refine (unhide HN _ ((unhide HE).below (below_nx (unhide HB) (unhide HR1)))).mono ?_
      rintro e wk ⟨rfl, bk⟩
      have HR2 := hide (below_nx (unhide HR1) bk)
      clear bk c0 c1 c2 c3 c4 HV5 HR1 HN
      by_cases h0 : r.2 = 0
      · have NN := hide (unhide NM h0)
        clear hr NB NM
        go_wp2
        go_roundw
        case rel => exact ⟨j + 1, _, rfl, by go_num, by omega, HR2, NN⟩
        case measure => simp [intOf]; omega
      · have h0b : (r.2 != 0) = true := by simp [h0]
        have hE := (unhide NB h0).symm.trans (unhide HV)
        have HC := hide (fun w => e_val r.2 w)
        rw [hE] at HC
        have HX3 := hide (five_below (unhide HX) (unhide HR2) (five_lt (unhide HX)))
        have HB3 := hide (below_nx (unhide HB) (unhide HR2))
        clear hE hr NB NM
        go_wp2_with fail
        refine (unhide HC _).mono ?_
        rintro e wz ⟨rfl, bz⟩
        have hf := five_below (unhide HX3) bz (five_lt (unhide HX3))
        obtain ⟨⟨⟨x0, c0⟩, ⟨x1, c1⟩, ⟨x2, c2⟩, ⟨x3, c3⟩, x4, c4⟩, f0, f1, f2, f3, f4⟩ := five_all hf
        have HF5 := hide hf
        have HB5 := hide (below_nx (unhide HB3) bz)
        clear hf bz
        unfold Vl.cells
        go_wp2
        try simp only [Exit.inBlock, Exit.then]
        refine bodyPost_ret (results_cell_row rfl _ _ _ _ _ _ _ rfl (five_set (unhide HF5) _ _ _ _ _).1 Tryz.underlying28 rfl infoVal) rfl ?_
        exact ⟨rfl, below_five (unhide HB5) (by omega) _ _ _ _ _⟩
    · have hj2 : j = 2 := by omega
      subst hj2
      have hE := (join_end (unhide HJ)).symm.trans (unhide HV)
      have HC := hide (fun w => t_val S w (by have := join_size (unhide HJ); omega))
      rw [hE] at HC
      have HX3 := hide (five_below (unhide HX) (unhide HR) (five_lt (unhide HX)))
      have HB3 := hide (below_nx (unhide HB) (unhide HR))
      clear hE
      go_wp2_with fail
      refine (unhide HC _).mono ?_
      rintro e wz ⟨rfl, bz⟩
      have hf := five_below (unhide HX3) bz (five_lt (unhide HX3))
      obtain ⟨⟨⟨x0, c0⟩, ⟨x1, c1⟩, ⟨x2, c2⟩, ⟨x3, c3⟩, x4, c4⟩, f0, f1, f2, f3, f4⟩ := five_all hf
      have HF5 := hide hf
      have HB5 := hide (below_nx (unhide HB3) bz)
      clear hf bz
      unfold Vl.cells
      go_wp2
      try simp only [Exit.inBlock, Exit.then]
      refine bodyPost_ret (results_cell_row rfl _ _ _ _ _ _ _ rfl (five_set (unhide HF5) _ _ _ _ _).1 Tryz.underlying28 rfl infoVal) rfl ?_
      exact ⟨rfl, below_five (unhide HB5) (by omega) _ _ _ _ _⟩
end Go.Proofs.YtbeijnflfmjgfaaGreatDoor

namespace Go.Proofs.YtbeijnflfmjgfaaGreatDoor
open Go.RowKit

theorem num_0 : asNumV (vSound ⟨1, 0, noText, false, 0⟩) = (0, 0) := by kernel_rfl
theorem num_100 : asNumV (vSound ⟨1, 1000000, noText, false, 0⟩) = (1000000, 0) := by kernel_rfl
theorem of_pair (t : List Int → Vl) (a b : Vl) : ofV 2 t [a, b] = if (asNumV (vSound a)).2 ≠ 0 then vE (asNumV (vSound a)).2 else if (asNumV (vSound b)).2 ≠ 0 then vE (asNumV (vSound b)).2 else t [(asNumV (vSound a)).1, (asNumV (vSound b)).1] := by
  unfold ofV
  rw [if_neg (by simp)]
  by_cases h1 : (asNumV (vSound a)).2 = 0
  · by_cases h2 : (asNumV (vSound b)).2 = 0
    · simp [numsV, h1, h2]
    · simp [numsV, h1, h2]
  · simp [numsV, h1]
theorem of_neg (a : Vl) : ofV 2 (two2 sub9) [⟨1, 0, noText, false, 0⟩, a] = negV (asNumV (vSound a)) := by
  rw [of_pair, num_0, if_neg (by simp)]
  unfold negV
  have hr := (num_range a).2
  split
  · rfl
  · exact neg_told ((goodB_iff _).2 hr)
theorem of_pct (a : Vl) : ofV 2 (two2 divR) [a, ⟨1, 1000000, noText, false, 0⟩] = pctV (asNumV (vSound a)) := by
  rw [of_pair, num_100]
  unfold pctV
  split
  · rfl
  · rw [if_neg (by simp)]
    rfl
set_option maxRecDepth 100000 in
set_option maxHeartbeats 8000000 in
theorem neg9_val (a : Vl) (w : World) (ha : a.text.size ≤ 1000) (he : Env3 w) :
    Calls Tryz.prog 15 #[.agg a.cells] w fun e w' => e = .returned (.agg (negV (asNumV (vSound a))).cells) ∧ Below w.heap.size w w' := by
  have HE := hide he
  have HO2 := hide (fun w => of2_val _ _ do_op1 w)
  have HN := hide (fun w => n_val 0 w)
  rw [show vN 0 = ⟨1, 0, noText, false, 0⟩ from by kernel_rfl] at HN
  have HOF := hide (fun fv va w hva hf he => of_val 2 fv (two2 sub9) va [⟨1, 0, noText, false, 0⟩, a] w (by omega) (by simp) (by
    intro x hx
    rcases List.mem_cons.1 hx with rfl | hx
    · decide
    · rw [List.mem_singleton.1 hx]; exact ha) hva hf he)
  rw [of_neg] at HOF
  generalize negV (asNumV (vSound a)) = V at HOF ⊢
  clear ha he
  unfold Vl.cells noText at HN
  unfold Vl.cells
  go_enter Tryz.func15, Tryz.ntmps15
  go_upto_region 1 with fail
  have HA := hide (five_old w 28 (.int .i64 a.kind) (.int .i64 a.num) (.string a.text) (.bool a.tr) (.int .i64 a.fail) (.cells #[.int .i64 0, .int .i64 0, .string ⟨#[]⟩, .bool false, .int .i64 0] 28))
  have HX := hide (five_new2 w (.cells #[.int .i64 a.kind, .int .i64 a.num, .string a.text, .bool a.tr, .int .i64 a.fail] 28) 28 (.int .i64 0) (.int .i64 0) (.string ⟨#[]⟩) (.bool false) (.int .i64 0))
  have HB := hide (below_al2 w (.cells #[.int .i64 a.kind, .int .i64 a.num, .string a.text, .bool a.tr, .int .i64 a.fail] 28) (.cells #[.int .i64 0, .int .i64 0, .string ⟨#[]⟩, .bool false, .int .i64 0] 28))
  generalize hW : (w.alloc (.cells #[.int .i64 a.kind, .int .i64 a.num, .string a.text, .bool a.tr, .int .i64 a.fail] 28)).alloc (.cells #[.int .i64 0, .int .i64 0, .string ⟨#[]⟩, .bool false, .int .i64 0] 28) = w1 at HA HX HB ⊢
  clear hW
  replace HA := hide (five_drew (unhide HA))
  replace HX := hide (five_drew (unhide HX))
  replace HB := hide (unhide HB).drew
  obtain ⟨a_0, a_1, a_2, a_3, a_4⟩ := five_cells (unhide HA)
  go_region_with (first
    | (go_at_call 49; refine (unhide HO2 _).mono ?_; rintro e yy ⟨⟨fv, rfl, hfn⟩, zz⟩; have HF := hide (fn_from hfn); clear hfn; replace HA := hide (five_below (unhide HA) zz (five_lt (unhide HA))); replace HX := hide (five_below (unhide HX) zz (five_lt (unhide HX))); replace HB := hide (below_nx (unhide HB) zz); clear zz; clear a_0 a_1 a_2 a_3 a_4; obtain ⟨a_0, a_1, a_2, a_3, a_4⟩ := five_cells (unhide HA))
    | (go_at_call 25; refine (unhide HN _).mono ?_; rintro e yy ⟨rfl, zz⟩; replace HA := hide (five_below (unhide HA) zz (five_lt (unhide HA))); replace HX := hide (five_below (unhide HX) zz (five_lt (unhide HX))); replace HB := hide (below_nx (unhide HB) zz); replace HF := hide (fn_below (unhide HF) zz); clear zz; clear a_0 a_1 a_2 a_3 a_4; obtain ⟨a_0, a_1, a_2, a_3, a_4⟩ := five_cells (unhide HA))
    | (go_at_call 31; refine (unhide HOF _ _ _ (vals_two _ _ ⟨1, 0, noText, false, 0⟩ a) (fn_below (unhide HF) (below_al _ _)) ((unhide HE).below (below_nx (unhide HB) (below_al _ _)))).mono ?_; rintro e yy ⟨rfl, z0⟩; have zz := below_nx (below_al _ _) z0; have hf := five_below (unhide HX) zz (five_lt (unhide HX)); obtain ⟨⟨⟨x0, c0⟩, ⟨x1, c1⟩, ⟨x2, c2⟩, ⟨x3, c3⟩, x4, c4⟩, f0, f1, f2, f3, f4⟩ := five_all hf; have HF5 := hide hf; have HB5 := hide (below_nx (unhide HB) zz); clear hf zz z0 a_0 a_1 a_2 a_3 a_4; unfold Vl.cells))
  all_goals (try simp only [Exit.then])
  all_goals (try go_wp2_with fail)
  all_goals refine bodyPost_ret (results_cell_row rfl _ _ _ _ _ _ _ rfl (five_set (unhide HF5) _ _ _ _ _).1 Tryz.underlying28 rfl infoVal) rfl ?_
  all_goals exact ⟨rfl, below_five (unhide HB5) (by omega) _ _ _ _ _⟩
set_option maxRecDepth 100000 in
set_option maxHeartbeats 8000000 in
theorem pct9_val (a : Vl) (w : World) (ha : a.text.size ≤ 1000) (he : Env3 w) :
    Calls Tryz.prog 17 #[.agg a.cells] w fun e w' => e = .returned (.agg (pctV (asNumV (vSound a))).cells) ∧ Below w.heap.size w w' := by
  have HE := hide he
  have HO2 := hide (fun w => of2_val _ _ do_op3 w)
  have HN := hide (fun w => n_val 1000000 w)
  rw [show vN 1000000 = ⟨1, 1000000, noText, false, 0⟩ from by kernel_rfl] at HN
  have HOF := hide (fun fv va w hva hf he => of_val 2 fv (two2 divR) va [a, ⟨1, 1000000, noText, false, 0⟩] w (by omega) (by simp) (by
    intro x hx
    rcases List.mem_cons.1 hx with rfl | hx
    · exact ha
    · rw [List.mem_singleton.1 hx]; decide) hva hf he)
  rw [of_pct] at HOF
  generalize pctV (asNumV (vSound a)) = V at HOF ⊢
  clear ha he
  unfold Vl.cells noText at HN
  unfold Vl.cells
  go_enter Tryz.func17, Tryz.ntmps17
  go_upto_region 1 with fail
  have HA := hide (five_old w 28 (.int .i64 a.kind) (.int .i64 a.num) (.string a.text) (.bool a.tr) (.int .i64 a.fail) (.cells #[.int .i64 0, .int .i64 0, .string ⟨#[]⟩, .bool false, .int .i64 0] 28))
  have HX := hide (five_new2 w (.cells #[.int .i64 a.kind, .int .i64 a.num, .string a.text, .bool a.tr, .int .i64 a.fail] 28) 28 (.int .i64 0) (.int .i64 0) (.string ⟨#[]⟩) (.bool false) (.int .i64 0))
  have HB := hide (below_al2 w (.cells #[.int .i64 a.kind, .int .i64 a.num, .string a.text, .bool a.tr, .int .i64 a.fail] 28) (.cells #[.int .i64 0, .int .i64 0, .string ⟨#[]⟩, .bool false, .int .i64 0] 28))
  generalize hW : (w.alloc (.cells #[.int .i64 a.kind, .int .i64 a.num, .string a.text, .bool a.tr, .int .i64 a.fail] 28)).alloc (.cells #[.int .i64 0, .int .i64 0, .string ⟨#[]⟩, .bool false, .int .i64 0] 28) = w1 at HA HX HB ⊢
  clear hW
  replace HA := hide (five_drew (unhide HA))
  replace HX := hide (five_drew (unhide HX))
  replace HB := hide (unhide HB).drew
  obtain ⟨a_0, a_1, a_2, a_3, a_4⟩ := five_cells (unhide HA)
  go_region_with (first
    | (go_at_call 49; refine (unhide HO2 _).mono ?_; rintro e yy ⟨⟨fv, rfl, hfn⟩, zz⟩; have HF := hide (fn_from hfn); clear hfn; replace HA := hide (five_below (unhide HA) zz (five_lt (unhide HA))); replace HX := hide (five_below (unhide HX) zz (five_lt (unhide HX))); replace HB := hide (below_nx (unhide HB) zz); clear zz; clear a_0 a_1 a_2 a_3 a_4; obtain ⟨a_0, a_1, a_2, a_3, a_4⟩ := five_cells (unhide HA))
    | (go_at_call 25; refine (unhide HN _).mono ?_; rintro e yy ⟨rfl, zz⟩; replace HA := hide (five_below (unhide HA) zz (five_lt (unhide HA))); replace HX := hide (five_below (unhide HX) zz (five_lt (unhide HX))); replace HB := hide (below_nx (unhide HB) zz); replace HF := hide (fn_below (unhide HF) zz); clear zz; clear a_0 a_1 a_2 a_3 a_4; obtain ⟨a_0, a_1, a_2, a_3, a_4⟩ := five_cells (unhide HA))
    | (go_at_call 31; refine (unhide HOF _ _ _ (vals_two _ _ a ⟨1, 1000000, noText, false, 0⟩) (fn_below (unhide HF) (below_al _ _)) ((unhide HE).below (below_nx (unhide HB) (below_al _ _)))).mono ?_; rintro e yy ⟨rfl, z0⟩; have zz := below_nx (below_al _ _) z0; have hf := five_below (unhide HX) zz (five_lt (unhide HX)); obtain ⟨⟨⟨x0, c0⟩, ⟨x1, c1⟩, ⟨x2, c2⟩, ⟨x3, c3⟩, x4, c4⟩, f0, f1, f2, f3, f4⟩ := five_all hf; have HF5 := hide hf; have HB5 := hide (below_nx (unhide HB) zz); clear hf zz z0 a_0 a_1 a_2 a_3 a_4; unfold Vl.cells))
  all_goals (try simp only [Exit.then])
  all_goals (try go_wp2_with fail)
  all_goals refine bodyPost_ret (results_cell_row rfl _ _ _ _ _ _ _ rfl (five_set (unhide HF5) _ _ _ _ _).1 Tryz.underlying28 rfl infoVal) rfl ?_
  all_goals exact ⟨rfl, below_five (unhide HB5) (by omega) _ _ _ _ _⟩
end Go.Proofs.YtbeijnflfmjgfaaGreatDoor
